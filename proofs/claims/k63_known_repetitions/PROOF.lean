import PyProof.Rows.All
import Wide.All
import OpenK.AllK
import Wide.FinOn
import HandS.ForMost
import HandS.Walk
import HandS.IsInst
import HandS.Conv
import HandS.Zip
import HandS.Style
import HandS.Flow
import HandS.Strs
import HandS.Wide
import HandS.TupAny
import HandS.TupSets
import KE.KDictDisplayH
import HandS.DictComp
import HandS.SetBool
import HandS.Deep
import HandS.TupMul
import HandS.SortInts
import HandS.SortOrd
import PyProof.ReprRoads
import PyProof.Rows.RegFStrParts
import KE.GoesMore
import HandS.TupLe
import HandS.SetFor
import HandS.ExcInit
import KE.KExcInit
import HandS.ExcOwn
import HandS.WordsExc
import KE.KTryMore
import KE.KExcIs
import HandS.ExcField
import HandS.ExcIs
import HandS.SetKeys
import HandS.Codes
import KE.KDictCopyH
import HandS.DictTup
import HandS.GenList
import KE.KDictZip
import PyProof.SumWalkG
import PyProof.Rows.SeqMore
import PySem.Challenge.RW_lookpast_k63_known_repetitions
set_option Elab.async false
set_option linter.all false
set_option maxRecDepth 100000
set_option maxHeartbeats 4000000
namespace Lp
open PySem PySem.Spec PyProof.Rows L2
def Sol (H : Hp) (a : Addr) (xs : List V) : Prop := ∃ o : Obj, o.dict = none ∧ H a = some (.frz o (.tup xs))
theorem Sol.seq {K : PySem.W.Frag} {H : Hp} {a : Addr} {xs : List V} (h : Sol H a xs) : SqT K H a xs := by
  obtain ⟨o, _, e⟩ := h
  exact .inl (.inr ⟨o, e⟩)
theorem Sol.to {H H' : Hp} {a : Addr} {xs : List V} (h : Sol H a xs) (s : Same H H') : Sol H' a xs := by
  obtain ⟨o, d, e⟩ := h
  exact ⟨o, d, s _ _ e⟩
theorem Sol.there {H : Hp} {a : Addr} {xs : List V} (h : Sol H a xs) : H a ≠ none := by
  obtain ⟨o, d, e⟩ := h
  rw [e]; exact fun z => nomatch z
theorem Sol.inj {H : Hp} {a : Addr} {xs ys : List V} (h : Sol H a xs) (k : Sol H a ys) : xs = ys := by
  obtain ⟨o, d, e⟩ := h
  obtain ⟨o', d', e'⟩ := k
  rw [e] at e'
  cases e'; rfl
abbrev objT (us : List Value) : Obj := { cls := .type "tuple", data := .seq us.toArray }
section
variable {X : Cx} {pins : List (Addr × Obj)} {σ : L2.St} {H : Hp} {s : Shared}
/-- a new tuple -/
theorem laidT {xs : List V} {us : List Value} (J : Inv X pins σ H s) (rel : Vals xs us) (few : xs.length ≤ sizeLine) : Inv X pins σ (upd H s.heap.objs.size (.frz (objT us) (.tup xs))) { s with heap := s.heap.push (objT us) } := by
  refine J.laid (t' := s.toks) (fun _ _ q => Heap.get?_push_of_some _ q) (Nat.le_refl _) ⟨Heap.get?_push_size _ rfl, few, us, rel, IsTup.new _ _⟩
theorem newT {xs : List V} {us : List Value} {Q : VK} (J : Inv X pins σ H s) (rel : Vals xs us) (few : xs.length ≤ sizeLine) (q : ∀ p o, H p = none → o.dict = none → Q (.ref p) (upd H p (.frz o (.tup xs)))) : EP X pins σ Q (.ref s.heap.objs.size) { s with heap := s.heap.push (objT us) } :=
  ⟨.ref s.heap.objs.size, _, laidT J rel few, rfl, q _ _ (J.hok.fresh (Nat.le_refl _)) rfl⟩
end
section
variable {X : Cx}
/-- (a, b, ..) -/
def tTupS (t : TA) : TE := fun σ H Q => t σ H fun xs H1 => xs.length ≤ sizeLine ∧ ∀ p o, H1 p = none → o.dict = none → Q (.ref p) (upd H1 p (.frz o (.tup xs)))
theorem pe_tupS {es : List Expr} {t : TA} {k : Nat} {pos : Pos} (args : PA X es t) : PE X (.Tuple es k pos) (tTupS t) := by
  constructor
  intro pins s σ H Q J want
  refine wpAny_Tuple_spliced (thn (args.run pos pins s σ H _ J want) ?_)
  rintro us s' ⟨xs, H', J', rel, few, q⟩
  exact ⟨by rw [← rel.length]; exact few, newT J' rel few q⟩
/-- tuple(xs) -/
def rTuple (K : PySem.W.Frag) : List V → Hp → VK → Prop := fun xs H Q => ∃ p ys, xs = [.ref p] ∧ ((SqL K H p ys ∧ ∀ l o, H l = none → o.dict = none → Q (.ref l) (upd H l (.frz o (.tup ys)))) ∨ (SqT K H p ys ∧ Q (.ref p) H))
theorem call_tupleS : CallR X (.type "tuple") (rTuple X.K) := by
  rintro pins s σ H xs us Q J rel ⟨p, ys, rfl, ways⟩
  obtain ⟨u, rfl, ru⟩ := vals1 rel
  cases ru
  rcases ways with ⟨at_p, q⟩ | ⟨at_p, q⟩
  · obtain ⟨its, rv, pl, few⟩ := J.list at_p
    have many := rv.length
    refine call_tuple_list pl.isList (fun h' keep => ?_) (by simp only [List.size_toArray]; omega)
    have J' : Inv X pins σ H { s with heap := h' } := J.kept (t' := s.toks) keep
    exact newT J' rv few q
  · obtain ⟨its, rv, pl, few⟩ := J.tuple at_p
    exact call_tuple_same pl ⟨.ref p, H, J, rfl, q⟩
/-- t + u -/
def rCatS (K : PySem.W.Frag) : R2 := fun x y H Q => ∃ a b xs ys, x = .ref a ∧ y = .ref b ∧ SqT K H a xs ∧ SqT K H b ys ∧ xs.length + ys.length ≤ sizeLine ∧
  (xs = [] → Q (.ref b) H) ∧ (ys = [] → Q (.ref a) H) ∧ ∀ p o, H p = none → o.dict = none → Q (.ref p) (upd H p (.frz o (.tup (xs ++ ys))))
theorem op_catS : OpR X (binaryOp .Add) (rCatS X.K) := by
  rintro pins s σ H x y v u Q J rx ry ⟨a, b, xs, ys, rfl, rfl, at_a, at_b, few, q0, q1, q2⟩
  cases rx
  cases ry
  obtain ⟨its, r1, p1, _⟩ := J.tuple at_a
  obtain ⟨jts, r2, p2, _⟩ := J.tuple at_b
  by_cases none_ : xs = []
  · subst none_
    cases r1
    exact cat_tup0 p1 p2 ⟨.ref b, H, J, rfl, q0 rfl⟩
  · refine HT.cat_tup p1 p2 (fun z => none_ (r1.nil_iff.mp z)) (fun z => ⟨.ref a, H, J, rfl, q1 (r2.nil_iff.mp z)⟩) (fun _ => ?_) (by rw [← r1.length, ← r2.length]; exact few)
    exact newT J (r1.append r2) (by rw [List.length_append]; exact few) q2
/-- t[lo:hi] -/
def rSlS (K : PySem.W.Frag) : V → Option Int → Option Int → Hp → VK → Prop := fun x lo hi H Q => ∃ a xs, x = .ref a ∧ SqT K H a xs ∧
  (cutV xs lo hi = xs → Q (.ref a) H) ∧ ∀ p o, H p = none → o.dict = none → Q (.ref p) (upd H p (.frz o (.tup (cutV xs lo hi))))
theorem sl_tupS : SlR X (rSlS X.K) := by
  rintro pins s σ H x v vl vu lo hi sl Q J rx hs pl pu ⟨a, xs, rfl, at_a, q1, q2⟩
  by_cases whole : HT.sIx xs.length 0 lo = 0 ∧ HT.sIx xs.length xs.length hi = xs.length
  · refine sl_tupA pins s σ H _ v vl vu lo hi sl Q J rx hs pl pu ⟨a, xs, rfl, at_a, fun _ => q1 ?_, fun z => absurd whole z⟩
    unfold cutV
    rw [whole.1, whole.2, List.drop_zero, Nat.sub_zero, List.take_length]
  · cases rx
    obtain ⟨its, rv, pt, few⟩ := J.tuple at_a
    have many : its.toArray.size = xs.length := by rw [List.size_toArray]; exact rv.length.symm
    refine ⟨"tuple", _, PyProof.Rows.slot_tuple_getitem.lookup, pt.typeIs, ?_⟩
    refine HT.getItem_tuple_cut pt hs pl pu (by rw [many]; exact whole) ?_ (by rw [many]; exact few)
    rw [many]
    exact newT J ((rv.drop (HT.sIx xs.length 0 lo)).take (HT.sIx xs.length xs.length hi - HT.sIx xs.length 0 lo)) (Nat.le_trans (cutV_length xs lo hi) few) q2
end
end Lp

namespace Lp
open PySem PySem.Spec PyProof.Rows L2
/-- a row of a dict: its key, the key's address, its value, the value as data -/
structure DRow where
  k : List Int
  b : Addr
  v : V
  d : PyData
abbrev tHash (k : List Int) : Int := reduceHash (Builtin.Tuple.tupleHashOf (k.map hashInt))
def dEnt (y : List Int × Addr × Value) : DictEntry := ⟨tHash y.1, .ref y.2.1, y.2.2⟩
def DRel (x : DRow) (y : List Int × Addr × Value) : Prop := x.k = y.1 ∧ x.b = y.2.1 ∧ RelV x.v y.2.2
def DT0 (h : Heap) (a : Addr) (xs : List DRow) : Prop := xs.length ≤ sizeLine ∧ (a == sysModules) = false ∧ (xs.map DRow.k).Nodup ∧ ∃ ys, Paired DRel xs ys ∧ ∃ o es ep, h.get? a = some o ∧ o.ExactDict ∧ o.data = .dict es ep ∧ es.toList = ys.map dEnt
/-- ob is the dict itself -/
def DctO (ob : Obj) (a : Addr) (xs : List DRow) : HO := .ext fun h => h.get? a = some ob ∧ DT0 h a xs
/-- there is such a dict at a -/
def IsDct (H : Hp) (a : Addr) (xs : List DRow) : Prop := ∃ ob, H a = some (DctO ob a xs)
theorem IsDct.ne {H : Hp} {a : Addr} {xs : List DRow} (x : IsDct H a xs) : H a ≠ none := by
  obtain ⟨ob, h⟩ := x
  rw [h]; exact fun z => nomatch z
theorem DRel.keys : ∀ {xs : List DRow} {ys : List (List Int × Addr × Value)}, Paired DRel xs ys → xs.map DRow.k = ys.map (·.1)
  | _, _, .nil => rfl
  | _, _, .cons r t => by rw [List.map_cons, List.map_cons, r.1, DRel.keys t]
theorem DRel.mem : ∀ {xs : List DRow} {ys : List (List Int × Addr × Value)}, Paired DRel xs ys → ∀ y ∈ ys, ∃ x ∈ xs, DRel x y
  | _, _, .nil, y, h => nomatch h
  | _, _, .cons (a := x) r t, y, h => by
    rcases List.mem_cons.mp h with e | e
    · exact ⟨x, List.mem_cons_self, e ▸ r⟩
    · obtain ⟨z, hz, q⟩ := DRel.mem t y e
      exact ⟨z, List.mem_cons_of_mem _ hz, q⟩
theorem DT0.of {P : Program} {w : World} {h : Heap} {a : Addr} {xs : List DRow} {ys : List (List Int × Addr × Value)} (dd : h.DictOfH (tupleKind (intKind P w)) a ys) (r : Paired DRel xs ys) (hl : xs.length ≤ sizeLine) (hd : (a == sysModules) = false) : DT0 h a xs := by
  obtain ⟨o, es, ep, ho, hx, hd', he, _, nd⟩ := dd
  exact ⟨hl, hd, by rw [DRel.keys r]; exact nd, ys, r, o, es, ep, ho, hx, hd', he⟩
def valD (xs : List DRow) (k : List Int) : Option DRow := xs.find? fun x => decide (x.k = k)
def putD (xs : List DRow) (x : DRow) : List DRow := if (valD xs x.k).isSome then xs.map (fun y => if y.k = x.k then { y with v := x.v, d := x.d } else y) else xs ++ [x]
/-- at a: a dict with the rows xs -/
def DAtH (K : PySem.W.Frag) (H : Hp) (a : Addr) (xs : List DRow) : Prop := IsDct H a xs ∧ ∀ x ∈ xs, SqT K H x.b (x.k.map V.int)
section
variable {X : Cx} {pins : List (Addr × Obj)} {σ : L2.St} {H : Hp} {s : Shared} {a : Addr} {xs : List DRow}
end
end Lp

namespace Lp
open PySem PySem.Spec PyProof.Rows L2
section
variable {P : Program} {w : World} {A : Around} {E : Value → Shared → Prop} {s : Shared} {a : Addr} {L : List (Addr × List Int)} {es : Array (Int × Value)} {ep : Nat} {t : SetTable}
end
/-- the set at a, as the world sees it -/
def SetTI (w : World) (a : Addr) (M : List (Addr × List Int)) : HO := .ext fun h => ∃ P, SetT0 P w h a M
section
variable {X : Cx} {pins : List (Addr × Obj)} {σ : L2.St} {H : Hp} {s : Shared} {a : Addr} {M : List (Addr × List Int)}
end
section
variable {X : Cx}
end
end Lp

namespace Lp
open PySem PySem.Spec PyProof.Rows L2
/-- the drawing box: its three numbers; c: at most so many draws so far -/
def Box (H : Hp) (b : Addr) (c : Nat) : Prop := ∃ x0 x1 x2 : Int, H b = some (.lst [.int x0, .int x1, .int x2]) ∧ 0 ≤ x0 ∧ 0 ≤ x1 ∧ x1 < 4611686018427387904 ∧ 0 ≤ x2 ∧ x2 ≤ (c : Int)
theorem Box.le {H : Hp} {b : Addr} {c d : Nat} (x : Box H b c) (h : c ≤ d) : Box H b d := by
  obtain ⟨x0, x1, x2, e, h0, h1, h2, h3, h4⟩ := x
  exact ⟨x0, x1, x2, e, h0, h1, h2, h3, by omega⟩
theorem Box.there {H : Hp} {b : Addr} {c : Nat} (x : Box H b c) : H b ≠ none := by
  obtain ⟨x0, x1, x2, e, _⟩ := x
  rw [e]; exact fun h => nomatch h
theorem Box.keep {H H' : Hp} {b : Addr} {c : Nat} (x : Box H b c) (h : H' b = H b) : Box H' b c := by
  obtain ⟨x0, x1, x2, e, r⟩ := x
  exact ⟨x0, x1, x2, h.trans e, r⟩
mutual
inductive DV (H : Hp) : V → PyData → Prop
  | non : DV H .non .none
  | bl (b : Bool) : DV H (.bl b) (.bool b)
  | int (i : Int) : DV H (.int i) (.int i)
  | str (x : Str) : DV H (.str x) (.str x)
  | lst {a : Addr} {xs : List V} {ds : List PyData} : H a = some (.lst xs) → DVs H xs ds → DV H (.ref a) (.list ds)
  | tup {a : Addr} {xs : List V} {ds : List PyData} : Sol H a xs → DVs H xs ds → DV H (.ref a) (.tuple ds)
inductive DVs (H : Hp) : List V → List PyData → Prop
  | nil : DVs H [] []
  | cons {v : V} {vs : List V} {d : PyData} {ds : List PyData} : DV H v d → DVs H vs ds → DVs H (v :: vs) (d :: ds)
end
mutual
theorem DV.mono {H H' : Hp} (s : Same H H') : ∀ (d : PyData) (v : V), DV H v d → DV H' v d
  | .none, _, h => by cases h; exact .non
  | .bool b, _, h => by cases h; exact .bl b
  | .int i, _, h => by cases h; exact .int i
  | .str x, _, h => by cases h; exact .str x
  | .list ds, _, h => by
    cases h with
    | lst e r => exact .lst (s _ _ e) (DVs.mono s ds _ r)
  | .tuple ds, _, h => by
    cases h with
    | tup e r => exact .tup (e.to s) (DVs.mono s ds _ r)
  | .dict _, _, h => by cases h
theorem DVs.mono {H H' : Hp} (s : Same H H') : ∀ (ds : List PyData) (vs : List V), DVs H vs ds → DVs H' vs ds
  | [], _, h => by cases h; exact .nil
  | d :: ds, _, h => by
    cases h with
    | cons a r => exact .cons (DV.mono s d _ a) (DVs.mono s ds _ r)
end
mutual
theorem DV.dp {K : PySem.W.Frag} {H : Hp} : ∀ (d : PyData) (v : V), DV H v d → Dp K H v d
  | .none, _, h => by cases h; exact .non
  | .bool b, _, h => by cases h; exact .bl b
  | .int i, _, h => by cases h; exact .int i
  | .str x, _, h => by cases h; exact .str x
  | .list ds, _, h => by
    cases h with
    | lst e r => exact .lst (SqL.of e) (DVs.dp ds _ r)
  | .tuple ds, _, h => by
    cases h with
    | tup e r => exact .tup e.seq (DVs.dp ds _ r)
  | .dict _, _, h => by cases h
theorem DVs.dp {K : PySem.W.Frag} {H : Hp} : ∀ (ds : List PyData) (vs : List V), DVs H vs ds → DpAll K H vs ds
  | [], _, h => by cases h; exact .nil
  | d :: ds, _, h => by
    cases h with
    | cons a r => exact .cons (DV.dp d _ a) (DVs.dp ds _ r)
end
theorem DV.to {H H' : Hp} {v : V} {d : PyData} (h : DV H v d) (s : Same H H') : DV H' v d := DV.mono s d v h
theorem DVs.to {H H' : Hp} {v : List V} {d : List PyData} (h : DVs H v d) (s : Same H H') : DVs H' v d := DVs.mono s d v h
theorem DVs.len {H : Hp} : ∀ {vs : List V} {ds : List PyData}, DVs H vs ds → vs.length = ds.length
  | _, _, .nil => rfl
  | _, _, .cons _ r => by rw [List.length_cons, List.length_cons, r.len]
theorem DVs.get {H : Hp} : ∀ {vs : List V} {ds : List PyData} {i : Nat} {d : PyData}, DVs H vs ds → ds[i]? = some d → ∃ v, vs[i]? = some v ∧ DV H v d
  | _, _, _, _, .nil, e => by simp at e
  | _, _, 0, _, .cons a _, e => by simp at e; subst e; exact ⟨_, rfl, a⟩
  | _, _, i + 1, d, .cons _ r, e => by
    obtain ⟨v, h1, h2⟩ := DVs.get (i := i) (d := d) r (by simpa using e)
    exact ⟨v, by simpa using h1, h2⟩
theorem DVs.app {H : Hp} : ∀ {vs us : List V} {ds es : List PyData}, DVs H vs ds → DVs H us es → DVs H (vs ++ us) (ds ++ es)
  | _, _, _, _, .nil, s => s
  | _, _, _, _, .cons a r, s => .cons a (r.app s)
theorem DVs.take {H : Hp} : ∀ {vs : List V} {ds : List PyData} (n : Nat), DVs H vs ds → DVs H (vs.take n) (ds.take n)
  | _, _, 0, _ => by rw [List.take_zero, List.take_zero]; exact .nil
  | _, _, _ + 1, .nil => .nil
  | _, _, n + 1, .cons a r => .cons a (r.take n)
theorem DVs.drop {H : Hp} : ∀ {vs : List V} {ds : List PyData} (n : Nat), DVs H vs ds → DVs H (vs.drop n) (ds.drop n)
  | _, _, 0, r => by rw [List.drop_zero, List.drop_zero]; exact r
  | _, _, _ + 1, .nil => .nil
  | _, _, n + 1, .cons a r => r.drop n
theorem DVs.set {H : Hp} {v : V} {d : PyData} (h : DV H v d) : ∀ {vs : List V} {ds : List PyData} (n : Nat), DVs H vs ds → DVs H (vs.set n v) (ds.set n d)
  | _, _, _, .nil => .nil
  | _, _, 0, .cons _ r => .cons h r
  | _, _, n + 1, .cons a r => .cons a (DVs.set h n r)
theorem DVs.one {H : Hp} {v : V} {d : PyData} (h : DV H v d) : DVs H [v] [d] := .cons h .nil
mutual
def imm : PyData → Bool
  | .list _ => false
  | .dict _ => false
  | .tuple ds => imms ds
  | _ => true
def imms : List PyData → Bool
  | [] => true
  | d :: ds => imm d && imms ds
end
mutual
theorem DV.imm {H H' : Hp} (s : ∀ a xs, Sol H a xs → Sol H' a xs) : ∀ (d : PyData) (v : V), imm d = true → DV H v d → DV H' v d
  | .none, _, _, h => by cases h; exact .non
  | .bool b, _, _, h => by cases h; exact .bl b
  | .int i, _, _, h => by cases h; exact .int i
  | .str x, _, _, h => by cases h; exact .str x
  | .list ds, _, i, h => by unfold Lp.imm at i; cases i
  | .tuple ds, _, i, h => by
    unfold Lp.imm at i
    cases h with
    | tup e r => exact .tup (s _ _ e) (DVs.imm s ds _ i r)
  | .dict _, _, _, h => by cases h
theorem DVs.imm {H H' : Hp} (s : ∀ a xs, Sol H a xs → Sol H' a xs) : ∀ (ds : List PyData) (vs : List V), imms ds = true → DVs H vs ds → DVs H' vs ds
  | [], _, _, h => by cases h; exact .nil
  | d :: ds, _, i, h => by
    unfold Lp.imms at i
    rw [Bool.and_eq_true] at i
    cases h with
    | cons a r => exact .cons (DV.imm s d _ i.1 a) (DVs.imm s ds _ i.2 r)
end
theorem ne_at {H : Hp} {a p : Addr} (h : H a ≠ none) (n : H p = none) : a ≠ p := fun z => h (by rw [z]; exact n)

/-- L: what stands still; from (L, H) to (L', H'): nothing that stood still moves, what is (but the box b) stays, and what was there and not of L stays out of L -/
structure Ext (b : Option Addr) (L H L' H' : Hp) : Prop where
  ll : Same L L'
  hh : ∀ a o, H a = some o → b ≠ some a → H' a = some o
  dom : ∀ a, H a ≠ none → H' a ≠ none
  fr : ∀ a, L a = none → H a ≠ none → L' a = none
theorem Ext.refl (b : Option Addr) (L H : Hp) : Ext b L H L H := ⟨Same.refl L, fun _ _ h _ => h, fun _ h => h, fun _ h _ => h⟩
theorem Ext.trans {b : Option Addr} {L H L1 H1 L2 H2 : Hp} (x : Ext b L H L1 H1) (y : Ext b L1 H1 L2 H2) : Ext b L H L2 H2 :=
  ⟨x.ll.trans y.ll, fun a o h n => y.hh a o (x.hh a o h n) n, fun a h => y.dom a (x.dom a h), fun a h n => y.fr a (x.fr a h n) (x.dom a n)⟩
theorem Ext.free {b : Option Addr} {L H L' H' : Hp} (x : Ext b L H L' H') {a : Addr} (h : H' a = none) : H a = none := by
  cases q : H a with
  | none => rfl
  | some o => exact absurd h (x.dom a (by rw [q]; exact fun z => nomatch z))
theorem Ext.any {b : Option Addr} {L H L' H' : Hp} (x : Ext none L H L' H') : Ext b L H L' H' := ⟨x.ll, fun a o h _ => x.hh a o h (fun z => nomatch z), x.dom, x.fr⟩
theorem Same.dom {H H' : Hp} (s : Same H H') (a : Addr) (h : H a ≠ none) : H' a ≠ none := by
  cases q : H a with
  | none => exact absurd q h
  | some o => rw [s a o q]; exact fun z => nomatch z
/-- a new object that stands still -/
theorem Ext.new {b : Option Addr} {L H : Hp} {p : Addr} {o : HO} (s : Same L H) (n : H p = none) : Ext b L H (upd L p o) (upd H p o) := by
  refine ⟨fun a u h => ?_, fun a u h _ => ?_, fun a h => ?_, fun a h d => ?_⟩
  · rw [upd_ne (ne_of_none h (s.free n))]; exact h
  · rw [upd_ne (ne_of_none h n)]; exact h
  · rw [upd_ne (ne_at h n)]; exact h
  · rw [upd_ne (ne_at d n)]; exact h
/-- a new object beside -/
theorem Ext.own {b : Option Addr} {L H : Hp} {p : Addr} {o : HO} (n : H p = none) : Ext b L H L (upd H p o) := by
  refine ⟨Same.refl L, fun a u h _ => ?_, fun a h => ?_, fun a h _ => h⟩
  · rw [upd_ne (ne_of_none h n)]; exact h
  · rw [upd_ne (ne_at h n)]; exact h
theorem same_own {L H : Hp} {p : Addr} {o : HO} (s : Same L H) (n : L p = none) : Same L (upd H p o) := fun a u h => by
  rw [upd_ne (ne_of_none h n)]; exact s a u h
theorem same_both {L H : Hp} {p : Addr} {o : HO} (s : Same L H) : Same (upd L p o) (upd H p o) := fun a u h => by
  by_cases e : a = p
  · subst e; rw [upd_same] at h ⊢; exact h
  · rw [upd_ne e] at h ⊢; exact s a u h
/-- what is published -/
theorem same_pub {L H : Hp} {p : Addr} {o : HO} (s : Same L H) (e : H p = some o) : Same (upd L p o) H := fun a u h => by
  by_cases q : a = p
  · subst q; rw [upd_same] at h; rw [e]; exact h
  · rw [upd_ne q] at h; exact s a u h
theorem same_upd {L : Hp} {p : Addr} {o : HO} (n : L p = none) : Same L (upd L p o) := fun a u h => by
  rw [upd_ne (ne_of_none h n)]; exact h
/-- what a body knows of its caller -/
structure Zx where
  b : Option Addr
  L0 : Hp
  H0 : Hp
  P : Hp
/-- an exception: the name of its class, its fields -/
structure Xn where
  cls : Str
  fs : List (Str × PyData)
/-- what is taken for granted: the world, the classes of exceptions by name, what is known of the caller -/
structure Wx where
  w : World
  cl : Str → Option Addr
  Φ : Zx → Prop
  up : ∀ (Z : Zx) (P : Hp), Same Z.P P → Φ Z → Φ { Z with P := P }
  hp : ∀ (Z : Zx) (a : Addr) (o : HO), Z.H0 a = none → Z.b ≠ some a → Φ Z → Φ { Z with H0 := upd Z.H0 a o }
instance : Coe Wx World := ⟨Wx.w⟩
abbrev W0 (w : World) : Wx := ⟨w, fun _ => none, fun _ => True, fun _ _ _ _ => trivial, fun _ _ _ _ _ _ => trivial⟩
/-- at a: an exception of the class at C that was caught, its dict at d -/
def exc (a : Addr) (c : Value) (d : Option Addr) : HO := .ext fun h => ∃ oe vs, h.get? a = some oe ∧ oe.cls = c ∧ oe.dict = d ∧ oe.data = .fields vs
inductive FVs (H : Hp) : List (Str × V) → List (Str × PyData) → Prop
  | nil : FVs H [] []
  | cons {f : Str} {v : V} {d : PyData} {vs : List (Str × V)} {ds : List (Str × PyData)} : DV H v d → FVs H vs ds → FVs H ((f, v) :: vs) ((f, d) :: ds)
theorem FVs.to {H H' : Hp} (s : Same H H') : ∀ {vs : List (Str × V)} {ds : List (Str × PyData)}, FVs H vs ds → FVs H' vs ds
  | _, _, .nil => .nil
  | _, _, .cons a r => .cons (DV.to a s) (FVs.to s r)
/-- the fields of an exception -/
def XF (H : Hp) (d : Option Addr) (fs : List (Str × PyData)) : Prop := match d with
  | none => fs = []
  | some dx => ∃ vs, H dx = some (.xd vs) ∧ FVs H vs fs
theorem XF.to {H H' : Hp} (s : Same H H') {d : Option Addr} {fs : List (Str × PyData)} (x : XF H d fs) : XF H' d fs := by
  cases d with
  | none => exact x
  | some dx =>
    obtain ⟨vs, h1, h2⟩ := x
    exact ⟨vs, s _ _ h1, h2.to s⟩
def XV (w : Wx) (H : Hp) (v : V) (x : Xn) : Prop := ∃ a C d, v = .ref a ∧ w.cl x.cls = some C ∧ H a = some (exc a (.ref C) d) ∧ XF H d x.fs
theorem XV.to {w : Wx} {H H' : Hp} {v : V} {x : Xn} (h : XV w H v x) (s : Same H H') : XV w H' v x := by
  obtain ⟨a, C, d, h1, h2, h3, h4⟩ := h
  exact ⟨a, C, d, h1, h2, s _ _ h3, h4.to s⟩
/-- the rows of a dict stand still -/
def KD (L : Hp) (xs : List DRow) : Prop := ∀ x ∈ xs, Sol L x.b (x.k.map V.int) ∧ DV L x.v x.d
theorem KD.to {L L' : Hp} {xs : List DRow} (s : Same L L') (h : KD L xs) : KD L' xs := fun x hx => ⟨(h x hx).1.to s, (h x hx).2.to s⟩
/-- the members of a set of tuples stand still; M: the members, some perhaps more than once -/
def TSM (L : Hp) (A : List (Addr × List Int)) (M : List (List Int)) : Prop := (∀ p ∈ A, Sol L p.1 (p.2.map V.int)) ∧ A.length ≤ M.length ∧ ∀ k, k ∈ A.map (·.2) ↔ k ∈ M
theorem TSM.to {L L' : Hp} {A : List (Addr × List Int)} {M : List (List Int)} (h : TSM L A M) (s : Same L L') : TSM L' A M := ⟨fun p hp => (h.1 p hp).to s, h.2⟩
def DVd (L : Hp) (v : V) (xs : List DRow) : Prop := ∃ a, v = .ref a ∧ IsDct L a xs ∧ KD L xs
theorem DVd.to {L L' : Hp} {v : V} {xs : List DRow} (s : Same L L') (h : DVd L v xs) : DVd L' v xs := by
  obtain ⟨a, h1, h2, h3⟩ := h
  obtain ⟨ob, h2⟩ := h2
  exact ⟨a, h1, ⟨ob, s _ _ h2⟩, h3.to s⟩
inductive SV where
  | un | sh (d : PyData) | ow (ds : List PyData) | bx | st (S : Int → Bool) (n : Nat) | raw (v : V) | exn (x : Xn) | dco (xs : List DRow) | dsh (xs : List DRow) | sto (M : List (List Int))
structure Env where
  s : List SV
  c : Nat
def Env.set (ε : Env) (i : Nat) (x : SV) : Env := ⟨ε.s.set i x, ε.c⟩
def Own : SV → Bool
  | .ow _ => true
  | .st _ _ => true
  | .dco _ => true
  | .sto _ => true
  | _ => false
def SlotR (w : Wx) (Z : Zx) (O : Addr → Prop) (L H : Hp) (o : Option V) : SV → Prop
  | .un => True
  | .sh d => ∃ v, o = some v ∧ DV L v d
  | .ow ds => ∃ a xs, o = some (.ref a) ∧ O a ∧ L a = none ∧ Z.H0 a = none ∧ H a = some (.lst xs) ∧ DVs L xs ds
  | .bx => ∃ b, Z.b = some b ∧ o = some (.ref b)
  | .st S n => ∃ a, o = some (.ref a) ∧ O a ∧ L a = none ∧ Z.H0 a = none ∧ H a = some (SetO w a S n)
  | .raw v => o = some v
  | .exn x => ∃ v, o = some v ∧ XV w L v x
  | .dco xs => ∃ a, o = some (.ref a) ∧ O a ∧ L a = none ∧ Z.H0 a = none ∧ IsDct H a xs ∧ KD L xs
  | .dsh xs => ∃ v, o = some v ∧ DVd L v xs
  | .sto M => ∃ a A, o = some (.ref a) ∧ O a ∧ L a = none ∧ Z.H0 a = none ∧ H a = some (SetTI w.w a A) ∧ TSM L A M
structure Rep (w : Wx) (Z : Zx) (O : Addr → Prop) (L H : Hp) (σ : L2.St) (ε : Env) : Prop where
  lh : Same L H
  pn : Same Z.P L
  ex : Ext Z.b Z.L0 Z.H0 L H
  bo : ∀ b, Z.b = some b → L b = none ∧ Box H b ε.c ∧ Z.H0 b ≠ none
  oh : ∀ a, O a → H a ≠ none ∧ Z.H0 a = none
  len : σ.length = ε.s.length
  sl : ∀ (i : Nat) (x : SV), ε.s[i]? = some x → ∃ o, σ[i]? = some o ∧ SlotR w Z O L H o x
  di : ∀ (i j : Nat) (x y : SV) (a : Addr), i ≠ j → ε.s[i]? = some x → ε.s[j]? = some y → Own x = true → Own y = true → σ[i]? = some (some (.ref a)) → σ[j]? ≠ some (some (.ref a))
  ph : w.Φ Z
inductive R where
  | sh (d : PyData) | nw (ds : List PyData) | br (i : Nat) (ds : List PyData) | bx | raw (v : V) | sr (i : Nat) (S : Int → Bool) (n : Nat) | exn (x : Xn) | dnw (xs : List DRow) | dbr (i : Nat) (xs : List DRow) | dsh (xs : List DRow) | srt (i : Nat) (M : List (List Int))
def VR (w : Wx) (Z : Zx) (O : Addr → Prop) (σ : L2.St) (Hs L H : Hp) (v : V) : R → Prop
  | .sh d => DV L v d
  | .nw ds => ∃ a xs, v = .ref a ∧ Hs a = none ∧ ¬ O a ∧ Z.H0 a = none ∧ L a = none ∧ H a = some (.lst xs) ∧ DVs L xs ds
  | .br i ds => ∃ a xs, v = .ref a ∧ σ[i]? = some (some (.ref a)) ∧ O a ∧ Z.H0 a = none ∧ L a = none ∧ H a = some (.lst xs) ∧ DVs L xs ds
  | .bx => ∃ b, Z.b = some b ∧ v = .ref b
  | .raw u => v = u
  | .sr i S n => ∃ a, v = .ref a ∧ σ[i]? = some (some (.ref a)) ∧ O a ∧ Z.H0 a = none ∧ L a = none ∧ H a = some (SetO w a S n)
  | .exn x => XV w L v x
  | .dnw xs => ∃ a, v = .ref a ∧ Hs a = none ∧ ¬ O a ∧ Z.H0 a = none ∧ L a = none ∧ IsDct H a xs ∧ KD L xs
  | .dbr i xs => ∃ a, v = .ref a ∧ σ[i]? = some (some (.ref a)) ∧ O a ∧ Z.H0 a = none ∧ L a = none ∧ IsDct H a xs ∧ KD L xs
  | .dsh xs => DVd L v xs
  | .srt i M => ∃ a A, v = .ref a ∧ σ[i]? = some (some (.ref a)) ∧ O a ∧ Z.H0 a = none ∧ L a = none ∧ H a = some (SetTI w.w a A) ∧ TSM L A M
/-- as VR, for what operations give: nothing of the slots -/
def VR0 (Hs L H : Hp) (v : V) : R → Prop
  | .sh d => DV L v d
  | .nw ds => ∃ a xs, v = .ref a ∧ Hs a = none ∧ L a = none ∧ H a = some (.lst xs) ∧ DVs L xs ds
  | .dnw xs => ∃ a, v = .ref a ∧ Hs a = none ∧ L a = none ∧ IsDct H a xs ∧ KD L xs
  | .dsh xs => DVd L v xs
  | _ => False
section
variable {w : Wx} {Z : Zx} {O : Addr → Prop} {σ : L2.St} {ε : Env} {Hs L H L' H' : Hp} {v : V} {r : R}
theorem Rep.nob (x : Rep w Z O L H σ ε) {a : Addr} (h : Z.H0 a = none) : Z.b ≠ some a := fun e => (x.bo a e).2.2 h
theorem VR.mono (x : VR w Z O σ Hs L H v r) (y : Rep w Z O L H σ ε) (e : Ext Z.b L H L' H') : VR w Z O σ Hs L' H' v r := by
  cases r with
  | sh d => exact DV.to x e.ll
  | nw ds =>
    obtain ⟨a, xs, rfl, h1, h2, h3, h4, h5, h6⟩ := x
    exact ⟨a, xs, rfl, h1, h2, h3, e.fr a h4 (by rw [h5]; exact fun z => nomatch z), e.hh a _ h5 (y.nob h3), h6.to e.ll⟩
  | br i ds =>
    obtain ⟨a, xs, rfl, h1, h2, h3, h4, h5, h6⟩ := x
    exact ⟨a, xs, rfl, h1, h2, h3, e.fr a h4 (by rw [h5]; exact fun z => nomatch z), e.hh a _ h5 (y.nob h3), h6.to e.ll⟩
  | bx => exact x
  | raw u => exact x
  | exn y => exact XV.to x e.ll
  | sr i S n =>
    obtain ⟨a, rfl, h1, h2, h3, h4, h5⟩ := x
    exact ⟨a, rfl, h1, h2, h3, e.fr a h4 (by rw [h5]; exact fun z => nomatch z), e.hh a _ h5 (y.nob h3)⟩
  | dnw xs =>
    obtain ⟨a, rfl, h1, h2, h3, h4, ⟨ob, h5⟩, h6⟩ := x
    exact ⟨a, rfl, h1, h2, h3, e.fr a h4 (by rw [h5]; exact fun z => nomatch z), ⟨ob, e.hh a _ h5 (y.nob h3)⟩, h6.to e.ll⟩
  | dbr i xs =>
    obtain ⟨a, rfl, h1, h2, h3, h4, ⟨ob, h5⟩, h6⟩ := x
    exact ⟨a, rfl, h1, h2, h3, e.fr a h4 (by rw [h5]; exact fun z => nomatch z), ⟨ob, e.hh a _ h5 (y.nob h3)⟩, h6.to e.ll⟩
  | srt i M =>
    obtain ⟨a, A, rfl, h1, h2, h3, h4, h5, h6⟩ := x
    exact ⟨a, A, rfl, h1, h2, h3, e.fr a h4 (by rw [h5]; exact fun z => nomatch z), e.hh a _ h5 (y.nob h3), h6.to e.ll⟩
  | dsh xs => exact DVd.to e.ll x
theorem VR.back (x : VR w Z O σ Hs L H v r) {Hr Lr : Hp} (e : Ext Z.b Lr Hr L' Hs) : VR w Z O σ Hr L H v r := by
  cases r with
  | nw ds =>
    obtain ⟨a, xs, rfl, h1, h2, h3, h4, h5, h6⟩ := x
    exact ⟨a, xs, rfl, e.free h1, h2, h3, h4, h5, h6⟩
  | dnw xs =>
    obtain ⟨a, rfl, h1, h2, h3, h4, h5, h6⟩ := x
    exact ⟨a, rfl, e.free h1, h2, h3, h4, h5, h6⟩
  | _ => exact x
theorem VR0.vr (x : VR0 Hs L H v r) (y : Rep w Z O L' Hs σ ε) : VR w Z O σ Hs L H v r := by
  cases r with
  | sh d => exact x
  | nw ds =>
    obtain ⟨a, xs, rfl, h1, h4, h5, h6⟩ := x
    exact ⟨a, xs, rfl, h1, fun o => (y.oh a o).1 h1, y.ex.free h1, h4, h5, h6⟩
  | br i ds => exact x.elim
  | bx => exact x.elim
  | raw u => exact x.elim
  | sr i S n => exact x.elim
  | exn y => exact x.elim
  | dnw xs =>
    obtain ⟨a, rfl, h1, h4, h5, h6⟩ := x
    exact ⟨a, rfl, h1, fun o => (y.oh a o).1 h1, y.ex.free h1, h4, h5, h6⟩
  | dbr i xs => exact x.elim
  | srt i M => exact x.elim
  | dsh xs => exact x
/-- what an operation leaves, the slots hold -/
theorem Rep.step (x : Rep w Z O L H σ ε) (e : Ext none L H L' H') (s : Same L' H') : Rep w Z O L' H' σ ε := by
  have hh : ∀ a o, H a = some o → H' a = some o := fun a o h => e.hh a o h fun z => nomatch z
  refine ⟨s, x.pn.trans e.ll, x.ex.trans e.any, fun b hb => ?_, fun a h => ⟨e.dom a (x.oh a h).1, (x.oh a h).2⟩, x.len, fun i y hy => ?_, x.di, x.ph⟩
  · obtain ⟨h1, h2, h3⟩ := x.bo b hb
    refine ⟨e.fr b h1 h2.there, ?_, h3⟩
    obtain ⟨x0, x1, x2, q, r⟩ := h2
    exact ⟨x0, x1, x2, hh _ _ q, r⟩
  · obtain ⟨o, h1, h2⟩ := x.sl i y hy
    refine ⟨o, h1, ?_⟩
    cases y with
    | un => trivial
    | sh d =>
      obtain ⟨v, e1, e2⟩ := h2
      exact ⟨v, e1, e2.to e.ll⟩
    | ow ds =>
      obtain ⟨a, xs, e1, e2, e3, e4, e5, e6⟩ := h2
      exact ⟨a, xs, e1, e2, e.fr a e3 (by rw [e5]; exact fun z => nomatch z), e4, hh _ _ e5, e6.to e.ll⟩
    | bx => exact h2
    | st S n =>
      obtain ⟨a, e1, e2, e3, e4, e5⟩ := h2
      exact ⟨a, e1, e2, e.fr a e3 (by rw [e5]; exact fun z => nomatch z), e4, hh _ _ e5⟩
    | raw u => exact h2
    | exn x => obtain ⟨v, e1, e2⟩ := h2; exact ⟨v, e1, e2.to e.ll⟩
    | dco xs =>
      obtain ⟨a, e1, e2, e3, e4, ⟨ob, e5⟩, e6⟩ := h2
      exact ⟨a, e1, e2, e.fr a e3 (by rw [e5]; exact fun z => nomatch z), e4, ⟨ob, hh _ _ e5⟩, e6.to e.ll⟩
    | sto M =>
      obtain ⟨a, A, e1, e2, e3, e4, e5, e6⟩ := h2
      exact ⟨a, A, e1, e2, e.fr a e3 (by rw [e5]; exact fun z => nomatch z), e4, hh _ _ e5, e6.to e.ll⟩
    | dsh xs => obtain ⟨v, e1, e2⟩ := h2; exact ⟨v, e1, e2.to e.ll⟩
/-- a new list that nobody holds is published -/
theorem pub (x : Rep w Z O L' H' σ ε) (e : Ext Z.b L H L' H') {ds : List PyData} (h : VR w Z O σ H L' H' v (.nw ds)) : ∃ L2, Rep w Z O L2 H' σ ε ∧ Ext Z.b L H L2 H' ∧ DV L2 v (.list ds) := by
  obtain ⟨a, xs, rfl, h1, h2, h3, h4, h5, h6⟩ := h
  have s1 : Same L' (upd L' a (.lst xs)) := same_upd h4
  refine ⟨upd L' a (.lst xs), ⟨same_pub x.lh h5, x.pn.trans s1, ⟨x.ex.ll.trans s1, x.ex.hh, x.ex.dom, fun b hb hd => ?_⟩, fun b hb => ?_, x.oh, x.len, fun i y hy => ?_, x.di, x.ph⟩, ⟨e.ll.trans s1, e.hh, e.dom, fun b hb hd => ?_⟩, .lst upd_same (h6.to s1)⟩
  · rw [upd_ne (ne_at hd h3)]; exact x.ex.fr b hb hd
  · obtain ⟨q1, q2, q3⟩ := x.bo b hb
    exact ⟨by rw [upd_ne (ne_at q3 h3)]; exact q1, q2, q3⟩
  · obtain ⟨o, q1, q2⟩ := x.sl i y hy
    refine ⟨o, q1, ?_⟩
    cases y with
    | un => trivial
    | sh d =>
      obtain ⟨v, e1, e2⟩ := q2
      exact ⟨v, e1, e2.to s1⟩
    | ow ds =>
      obtain ⟨b, ys, e1, e2, e3, e4, e5, e6⟩ := q2
      exact ⟨b, ys, e1, e2, by rw [upd_ne (fun z => h2 (by rw [← z]; exact e2))]; exact e3, e4, e5, e6.to s1⟩
    | bx => exact q2
    | st S n =>
      obtain ⟨b, e1, e2, e3, e4, e5⟩ := q2
      exact ⟨b, e1, e2, by rw [upd_ne (fun z => h2 (by rw [← z]; exact e2))]; exact e3, e4, e5⟩
    | raw u => exact q2
    | exn x => obtain ⟨v, e1, e2⟩ := q2; exact ⟨v, e1, e2.to s1⟩
    | dco xs =>
      obtain ⟨b, e1, e2, e3, e4, e5, e6⟩ := q2
      exact ⟨b, e1, e2, by rw [upd_ne (fun z => h2 (by rw [← z]; exact e2))]; exact e3, e4, e5, e6.to s1⟩
    | sto M =>
      obtain ⟨b, A, e1, e2, e3, e4, e5, e6⟩ := q2
      exact ⟨b, A, e1, e2, by rw [upd_ne (fun z => h2 (by rw [← z]; exact e2))]; exact e3, e4, e5, e6.to s1⟩
    | dsh xs => obtain ⟨v, e1, e2⟩ := q2; exact ⟨v, e1, e2.to s1⟩
  · rw [upd_ne (ne_at hd h1)]; exact e.fr b hb hd
end
/-- a value as data, its own list (if it is one) as it stands in H -/
def VL (L H : Hp) (v : V) (d : PyData) : Prop := DV L v d ∨ ∃ a xs ds, d = .list ds ∧ v = .ref a ∧ H a = some (.lst xs) ∧ DVs L xs ds
section
variable {L H : Hp} {v : V}
theorem VL.dv {d : PyData} (x : VL L H v d) (s : Same L H) : DV H v d := by
  rcases x with x | ⟨a, xs, ds, rfl, rfl, h, r⟩
  · exact x.to s
  · exact .lst h (r.to s)
theorem VL.lst {ds : List PyData} (x : VL L H v (.list ds)) (s : Same L H) : ∃ a xs, v = .ref a ∧ H a = some (.lst xs) ∧ DVs L xs ds := by
  rcases x with x | ⟨a, xs, es, e, rfl, h, r⟩
  · cases x with
    | lst h r => exact ⟨_, _, rfl, s _ _ h, r⟩
  · cases e; exact ⟨a, xs, rfl, h, r⟩
theorem VL.tup {ds : List PyData} (x : VL L H v (.tuple ds)) : ∃ a xs, v = .ref a ∧ Sol L a xs ∧ DVs L xs ds := by
  rcases x with x | ⟨a, xs, es, e, rfl, h, r⟩
  · cases x with
    | tup h r => exact ⟨_, _, rfl, h, r⟩
  · cases e
theorem VL.int {i : Int} (x : VL L H v (.int i)) : v = .int i := by
  rcases x with x | ⟨a, xs, es, e, _⟩
  · cases x; rfl
  · cases e
theorem VL.bl {i : Bool} (x : VL L H v (.bool i)) : v = .bl i := by
  rcases x with x | ⟨a, xs, es, e, _⟩
  · cases x; rfl
  · cases e
theorem VL.str {i : Str} (x : VL L H v (.str i)) : v = .str i := by
  rcases x with x | ⟨a, xs, es, e, _⟩
  · cases x; rfl
  · cases e
theorem VL.non (x : VL L H v .none) : v = .non := by
  rcases x with x | ⟨a, xs, es, e, _⟩
  · cases x; rfl
  · cases e
end
/-- as data, a pair just made by a walk taken as it stands -/
def VT (L H : Hp) (v : V) (d : PyData) : Prop := DV L v d ∨ ∃ a xs ds, d = .tuple ds ∧ v = .ref a ∧ H a = some (.tup xs) ∧ DVs L xs ds
def VI (pk : Bool) (L H : Hp) (v : V) (d : PyData) : Prop := match pk with
  | true => VT L H v d
  | false => DV L v d
theorem VI.of {pk : Bool} {L H : Hp} {v : V} {d : PyData} (h : DV L v d) : VI pk L H v d := by
  cases pk with
  | true => exact .inl h
  | false => exact h
def R.dat : R → Option PyData
  | .sh d => some d
  | .nw ds => some (.list ds)
  | .br _ ds => some (.list ds)
  | _ => none
theorem VR.vl {w : Wx} {Z : Zx} {O : Addr → Prop} {σ : L2.St} {Hs L H : Hp} {v : V} {r : R} {d : PyData} (x : VR w Z O σ Hs L H v r) (e : r.dat = some d) : VL L H v d := by
  cases r with
  | sh d => cases e; exact .inl x
  | nw ds =>
    cases e
    obtain ⟨a, xs, rfl, h1, h2, h3, h4, h5, h6⟩ := x
    exact .inr ⟨a, xs, ds, rfl, rfl, h5, h6⟩
  | br i ds =>
    cases e
    obtain ⟨a, xs, rfl, h1, h2, h3, h4, h5, h6⟩ := x
    exact .inr ⟨a, xs, ds, rfl, rfl, h5, h6⟩
  | bx => cases e
  | raw u => cases e
  | sr i S n => cases e
  | exn y => cases e
  | dnw xs => cases e
  | dbr i xs => cases e
  | srt i M => cases e
  | dsh xs => cases e
end Lp

namespace Lp
open PySem PySem.Spec PyProof.Rows L2
abbrev DTE := Env → (R → Env → Prop) → Prop
abbrev DTT := Env → (Bool → Env → Prop) → Prop
abbrev DTA := Env → (List R → Env → Prop) → Prop
structure SE (w : Wx) (t : TE) (f : DTE) : Prop where
  mono : ∀ ε (A B : R → Env → Prop), (∀ r ε', A r ε' → B r ε') → f ε A → f ε B
  run : ∀ (Z : Zx) (O : Addr → Prop) (σ : L2.St) (ε : Env) (L H : Hp) (Q : VK), Rep w Z O L H σ ε → f ε (fun r ε' => ∀ v L' H', Rep w Z O L' H' σ ε' → Ext Z.b L H L' H' → VR w Z O σ H L' H' v r → Q v H') → t σ H Q
structure ST (w : Wx) (t : TT) (f : DTT) : Prop where
  mono : ∀ ε (A B : Bool → Env → Prop), (∀ r ε', A r ε' → B r ε') → f ε A → f ε B
  run : ∀ (Z : Zx) (O : Addr → Prop) (σ : L2.St) (ε : Env) (L H : Hp) (Q : Bool → Hp → Prop), Rep w Z O L H σ ε → f ε (fun b ε' => ∀ L' H', Rep w Z O L' H' σ ε' → Ext Z.b L H L' H' → Q b H') → t σ H Q
inductive VRs (w : Wx) (Z : Zx) (O : Addr → Prop) (σ : L2.St) (Hs L H : Hp) : List V → List R → Prop
  | nil : VRs w Z O σ Hs L H [] []
  | cons {v : V} {vs : List V} {r : R} {rs : List R} : VR w Z O σ Hs L H v r → VRs w Z O σ Hs L H vs rs → VRs w Z O σ Hs L H (v :: vs) (r :: rs)
/-- n arguments, each published -/
structure SA (w : Wx) (n : Nat) (t : TA) (f : DTA) : Prop where
  mono : ∀ ε (A B : List R → Env → Prop), (∀ r ε', A r ε' → B r ε') → f ε A → f ε B
  run : ∀ (Z : Zx) (O : Addr → Prop) (σ : L2.St) (ε : Env) (L H : Hp) (Q : List V → Hp → Prop), Rep w Z O L H σ ε → f ε (fun rs ε' => ∀ vs L' H', Rep w Z O L' H' σ ε' → Ext Z.b L H L' H' → VRs w Z O σ H L' H' vs rs → rs.length = n → (∀ r ∈ rs, ∀ ds, r ≠ .nw ds) → Q vs H') → t σ H Q
section
variable {w : Wx} {ta tb tc : TE} {f g h : DTE}
theorem VRs.mono {Z : Zx} {O : Addr → Prop} {σ : L2.St} {ε : Env} {Hs L H L' H' : Hp} (y : Rep w Z O L H σ ε) (e : Ext Z.b L H L' H') : ∀ {vs : List V} {rs : List R}, VRs w Z O σ Hs L H vs rs → VRs w Z O σ Hs L' H' vs rs
  | _, _, .nil => .nil
  | _, _, .cons a r => .cons (a.mono y e) (VRs.mono y e r)
theorem VRs.back {Z : Zx} {O : Addr → Prop} {σ : L2.St} {Hs L H L' Hr Lr : Hp} (e : Ext Z.b Lr Hr L' Hs) : ∀ {vs : List V} {rs : List R}, VRs w Z O σ Hs L H vs rs → VRs w Z O σ Hr L H vs rs
  | _, _, .nil => .nil
  | _, _, .cons a r => .cons (a.back e) (VRs.back e r)
theorem VRs.len {Z : Zx} {O : Addr → Prop} {σ : L2.St} {Hs L H : Hp} : ∀ {vs : List V} {rs : List R}, VRs w Z O σ Hs L H vs rs → vs.length = rs.length
  | _, _, .nil => rfl
  | _, _, .cons _ r => by rw [List.length_cons, List.length_cons, r.len]
def dVar (i : Nat)  (ε : Env) (Q : R → Env → Prop) : Prop := match ε.s[i]? with
  | some (.sh d) => Q (.sh d) ε
  | some (.ow ds) => Q (.br i ds) ε
  | some .bx => Q .bx ε
  | some (.raw v) => Q (.raw v) ε
  | some (.st S n) => Q (.sr i S n) ε
  | some (.exn x) => Q (.exn x) ε
  | some (.dco xs) => Q (.dbr i xs) ε
  | some (.sto M) => Q (.srt i M) ε
  | some (.dsh xs) => Q (.dsh xs) ε
  | _ => False
theorem se_var {i : Nat} : SE w (tVar i) (dVar i) := by
  constructor
  · intro ε A B h q
    unfold dVar at q ⊢
    split at q
    all_goals first | exact h _ _ q | exact q.elim
  · intro Z O σ ε L H Q x q
    unfold dVar at q
    have e0 := Ext.refl Z.b L H
    split at q
    · rename_i d hd
      obtain ⟨o, h1, v, h2, h3⟩ := x.sl i _ hd
      subst h2
      exact ⟨v, h1, q v L H x e0 h3⟩
    · rename_i ds hd
      obtain ⟨o, h1, a, xs, h2, h3, h4, h5, h6, h7⟩ := x.sl i _ hd
      subst h2
      exact ⟨.ref a, h1, q _ L H x e0 ⟨a, xs, rfl, h1, h3, h5, h4, h6, h7⟩⟩
    · rename_i hd
      obtain ⟨o, h1, b, h2, h3⟩ := x.sl i _ hd
      subst h3
      exact ⟨.ref b, h1, q _ L H x e0 ⟨b, h2, rfl⟩⟩
    · rename_i v hd
      obtain ⟨o, h1, h2⟩ := x.sl i _ hd
      have h2' : o = some v := h2
      subst h2'
      exact ⟨v, h1, q _ L H x e0 rfl⟩
    · rename_i S n hd
      obtain ⟨o, h1, a, h2, h3, h4, h5, h6⟩ := x.sl i _ hd
      subst h2
      exact ⟨.ref a, h1, q _ L H x e0 ⟨a, rfl, h1, h3, h5, h4, h6⟩⟩
    · rename_i y hd
      obtain ⟨o, h1, v, h2, h3⟩ := x.sl i _ hd
      subst h2
      exact ⟨v, h1, q v L H x e0 h3⟩
    · rename_i xs hd
      obtain ⟨o, h1, a, h2, h3, h4, h5, h6, h7⟩ := x.sl i _ hd
      subst h2
      exact ⟨.ref a, h1, q _ L H x e0 ⟨a, rfl, h1, h3, h5, h4, h6, h7⟩⟩
    · rename_i M hd
      obtain ⟨o, h1, a, A, h2, h3, h4, h5, h6, h7⟩ := x.sl i _ hd
      subst h2
      exact ⟨.ref a, h1, q _ L H x e0 ⟨a, A, rfl, h1, h3, h5, h4, h6, h7⟩⟩
    · rename_i xs hd
      obtain ⟨o, h1, v, h2, h3⟩ := x.sl i _ hd
      subst h2
      exact ⟨v, h1, q v L H x e0 h3⟩
    · exact q.elim
def dC (d : PyData)  (ε : Env) (Q : R → Env → Prop) : Prop := Q (.sh d) ε
theorem se_int {i : Int} : SE w (tC (.int i)) (dC (.int i)) := ⟨fun ε A B h q => h _ _ q, fun Z O σ ε L H Q x q => q _ L H x (Ext.refl _ _ _) (.int i)⟩
theorem se_bl {i : Bool} : SE w (tC (.bl i)) (dC (.bool i)) := ⟨fun ε A B h q => h _ _ q, fun Z O σ ε L H Q x q => q _ L H x (Ext.refl _ _ _) (.bl i)⟩
theorem se_non : SE w (tC .non) (dC .none) := ⟨fun ε A B h q => h _ _ q, fun Z O σ ε L H Q x q => q _ L H x (Ext.refl _ _ _) .non⟩
def dRaw (v : V)  (ε : Env) (Q : R → Env → Prop) : Prop := Q (.raw v) ε
structure R2K (r : R2) (φ : PyData → PyData → (R → Prop) → Prop) : Prop where
  mono : ∀ x y (A B : R → Prop), (∀ r, A r → B r) → φ x y A → φ x y B
  run : ∀ (L H : Hp) (x y : V) (dx dy : PyData) (Q : VK), Same L H → VL L H x dx → VL L H y dy → φ dx dy (fun r => ∀ v L' H', Ext none L H L' H' → Same L' H' → VR0 H L' H' v r → Q v H') → r x y H Q
def dOp (φ : PyData → PyData → (R → Prop) → Prop) (f g : DTE)  (ε : Env) (Q : R → Env → Prop) : Prop := f ε fun x ε1 => g ε1 fun y ε2 => match x.dat, y.dat with
  | some dx, some dy => φ dx dy fun r => Q r ε2
  | _, _ => False
theorem se_op {r : R2} {φ : PyData → PyData → (R → Prop) → Prop} (k : R2K r φ) (hf : SE w ta f) (hg : SE w tb g) : SE w (tOp r ta tb) (dOp φ f g) := by
  constructor
  · intro ε A B h q
    refine hf.mono _ _ _ (fun x ε1 q => hg.mono _ _ _ (fun y ε2 q => ?_) q) q
    show match x.dat, y.dat with
      | some dx, some dy => φ dx dy fun r => B r ε2
      | _, _ => False
    split at q
    · exact k.mono _ _ _ _ (fun r q => h _ _ q) q
    · exact q.elim
  · intro Z O σ ε L H Q X q
    refine hf.run Z O σ ε L H _ X (hf.mono _ _ _ (fun x ε1 q => ?_) q)
    intro v L1 H1 X1 e1 r1
    refine hg.run Z O σ ε1 L1 H1 _ X1 (hg.mono _ _ _ (fun y ε2 q => ?_) q)
    intro u L2 H2 X2 e2 r2
    have r1' := r1.mono X1 e2
    split at q
    · rename_i dx dy ex ey
      refine k.run L2 H2 v u dx dy Q X2.lh (r1'.vl ex) (r2.vl ey) (k.mono _ _ _ _ (fun r q => ?_) q)
      intro z L3 H3 e3 s3 r3
      exact q z L3 H3 (X2.step e3 s3) ((e1.trans e2).trans e3.any) ((r3.vr X2).back (e1.trans e2))
    · exact q.elim
structure RUK (r : V → Hp → VK → Prop) (φ : PyData → (R → Prop) → Prop) : Prop where
  mono : ∀ x (A B : R → Prop), (∀ r, A r → B r) → φ x A → φ x B
  run : ∀ (L H : Hp) (x : V) (dx : PyData) (Q : VK), Same L H → VL L H x dx → φ dx (fun r => ∀ v L' H', Ext none L H L' H' → Same L' H' → VR0 H L' H' v r → Q v H') → r x H Q
def dUn (φ : PyData → (R → Prop) → Prop) (f : DTE)  (ε : Env) (Q : R → Env → Prop) : Prop := f ε fun x ε1 => match x.dat with
  | some dx => φ dx fun r => Q r ε1
  | _ => False
theorem se_un {r : V → Hp → VK → Prop} {φ : PyData → (R → Prop) → Prop} (k : RUK r φ) (hf : SE w ta f) : SE w (tUn r ta) (dUn φ f) := by
  constructor
  · intro ε A B h q
    refine hf.mono _ _ _ (fun x ε1 q => ?_) q
    show match x.dat with
      | some dx => φ dx fun r => B r ε1
      | _ => False
    split at q
    · exact k.mono _ _ _ (fun r q => h _ _ q) q
    · exact q.elim
  · intro Z O σ ε L H Q X q
    refine hf.run Z O σ ε L H _ X (hf.mono _ _ _ (fun x ε1 q => ?_) q)
    intro v L1 H1 X1 e1 r1
    split at q
    · rename_i dx ex
      refine k.run L1 H1 v dx Q X1.lh (r1.vl ex) (k.mono _ _ _ (fun r q => ?_) q)
      intro z L3 H3 e3 s3 r3
      exact q z L3 H3 (X1.step e3 s3) (e1.trans e3.any) ((r3.vr X1).back e1)
    · exact q.elim
def dTest (f : DTE)  (ε : Env) (Q : Bool → Env → Prop) : Prop := f ε fun r ε1 => match r.dat with
  | some (.bool k) => Q k ε1
  | _ => False
theorem st_test (hf : SE w ta f) : ST w (tTest ta) (dTest f) := by
  constructor
  · intro ε A B h q
    refine hf.mono _ _ _ (fun r ε1 q => ?_) q
    show match r.dat with
      | some (.bool k) => B k ε1
      | _ => False
    split at q
    · exact h _ _ q
    · exact q.elim
  · intro Z O σ ε L H Q X q
    refine hf.run Z O σ ε L H _ X (hf.mono _ _ _ (fun r ε1 q => ?_) q)
    intro v L1 H1 X1 e1 r1
    split at q
    · rename_i k ek
      exact ⟨k, (r1.vl ek).bl, q L1 H1 X1 e1⟩
    · exact q.elim
def truD : PyData → Option Bool
  | .none => some false
  | .bool b => some b
  | .int i => some (i != 0)
  | .list ds => some (!ds.isEmpty)
  | .tuple ds => some (!ds.isEmpty)
  | _ => none
theorem isE {H : Hp} {xs : List V} {ds : List PyData} (h : DVs H xs ds) : xs.isEmpty = ds.isEmpty := by cases h <;> rfl
def dTruth (f : DTE)  (ε : Env) (Q : Bool → Env → Prop) : Prop := f ε fun r ε1 => match r.dat.bind truD with
  | some k => Q k ε1
  | _ => False
theorem tru_of {K : PySem.W.Frag} {L H : Hp} {v : V} {d : PyData} {k : Bool} (x : VL L H v d) (s : Same L H) (e : truD d = some k) : TruV K v H k := by
  cases d with
  | none => rw [x.non]; cases e; rfl
  | bool b => rw [x.bl]; cases e; rfl
  | int i => rw [x.int]; cases e; rfl
  | list ds =>
    obtain ⟨a, xs, rfl, h1, h2⟩ := x.lst s
    cases e
    exact .inl ⟨xs, SqL.of h1, by rw [isE h2]⟩
  | tuple ds =>
    obtain ⟨a, xs, rfl, h1, h2⟩ := x.tup
    cases e
    exact .inr (.inl ⟨xs, (h1.to s).seq, by rw [isE h2]⟩)
  | str _ => cases e
  | dict _ => cases e
theorem st_truth {K : PySem.W.Frag} (hf : SE w ta f) : ST w (fun σ H Q => ta σ H fun x H1 => ∃ k, TruV K x H1 k ∧ Q k H1) (dTruth f) := by
  constructor
  · intro ε A B h q
    refine hf.mono _ _ _ (fun r ε1 q => ?_) q
    show match r.dat.bind truD with
      | some k => B k ε1
      | _ => False
    split at q
    · exact h _ _ q
    · exact q.elim
  · intro Z O σ ε L H Q X q
    refine hf.run Z O σ ε L H _ X (hf.mono _ _ _ (fun r ε1 q => ?_) q)
    intro v L1 H1 X1 e1 r1
    split at q
    · rename_i k ek
      cases ed : r.dat with
      | none => rw [ed] at ek; cases ek
      | some d =>
        rw [ed] at ek
        exact ⟨k, tru_of (r1.vl ed) X1.lh ek, q L1 H1 X1 e1⟩
    · exact q.elim
def dAnd (f g : DTT)  (ε : Env) (Q : Bool → Env → Prop) : Prop := f ε fun c ε1 => if c = true then g ε1 Q else Q false ε1
def dOr (f g : DTT)  (ε : Env) (Q : Bool → Env → Prop) : Prop := f ε fun c ε1 => if c = true then Q true ε1 else g ε1 Q
def dNot (f : DTT)  (ε : Env) (Q : Bool → Env → Prop) : Prop := f ε fun c ε1 => Q (!c) ε1
variable {t u : TT} {p q : DTT}
theorem st_and (hf : ST w t p) (hg : ST w u q) : ST w (tAnd t u) (dAnd p q) := by
  constructor
  · intro ε A B h z
    refine hf.mono _ _ _ (fun c ε1 z => ?_) z
    cases c with
    | true => exact iteT (hg.mono _ _ _ h (by rw [if_pos rfl] at z; exact z))
    | false => exact iteF (h _ _ (by rw [if_neg Bool.false_ne_true] at z; exact z))
  · intro Z O σ ε L H Q X z
    refine hf.run Z O σ ε L H _ X (hf.mono _ _ _ (fun c ε1 z => ?_) z)
    intro L1 H1 X1 e1
    cases c with
    | true =>
      rw [if_pos rfl] at z
      exact iteT (hg.run Z O σ ε1 L1 H1 _ X1 (hg.mono _ _ _ (fun b ε2 z L2 H2 X2 e2 => z L2 H2 X2 (e1.trans e2)) z))
    | false =>
      rw [if_neg Bool.false_ne_true] at z
      exact iteF (z L1 H1 X1 e1)
theorem st_or (hf : ST w t p) (hg : ST w u q) : ST w (tOr t u) (dOr p q) := by
  constructor
  · intro ε A B h z
    refine hf.mono _ _ _ (fun c ε1 z => ?_) z
    cases c with
    | false => exact iteF (hg.mono _ _ _ h (by rw [if_neg Bool.false_ne_true] at z; exact z))
    | true => exact iteT (h _ _ (by rw [if_pos rfl] at z; exact z))
  · intro Z O σ ε L H Q X z
    refine hf.run Z O σ ε L H _ X (hf.mono _ _ _ (fun c ε1 z => ?_) z)
    intro L1 H1 X1 e1
    cases c with
    | false =>
      rw [if_neg Bool.false_ne_true] at z
      exact iteF (hg.run Z O σ ε1 L1 H1 _ X1 (hg.mono _ _ _ (fun b ε2 z L2 H2 X2 e2 => z L2 H2 X2 (e1.trans e2)) z))
    | true =>
      rw [if_pos rfl] at z
      exact iteT (z L1 H1 X1 e1)
theorem st_not (hf : ST w t p) : ST w (tNot t) (dNot p) := by
  constructor
  · intro ε A B h z
    exact hf.mono _ _ _ (fun c ε1 z => h _ _ z) z
  · intro Z O σ ε L H Q X z
    exact hf.run Z O σ ε L H _ X z
def dYes  (ε : Env) (Q : Bool → Env → Prop) : Prop := Q true ε
theorem st_yes : ST w tYes dYes := ⟨fun ε A B h q => h _ _ q, fun Z O σ ε L H Q X z => z L H X (Ext.refl _ _ _)⟩
def dIf (c : DTT) (f g : DTE)  (ε : Env) (Q : R → Env → Prop) : Prop := c ε fun b ε1 => if b = true then f ε1 Q else g ε1 Q
theorem se_if (hc : ST w t p) (hf : SE w ta f) (hg : SE w tb g) : SE w (tIf t ta tb) (dIf p f g) := by
  constructor
  · intro ε A B h z
    refine hc.mono _ _ _ (fun c ε1 z => ?_) z
    cases c with
    | false => exact iteF (hg.mono _ _ _ h (by rw [if_neg Bool.false_ne_true] at z; exact z))
    | true => exact iteT (hf.mono _ _ _ h (by rw [if_pos rfl] at z; exact z))
  · intro Z O σ ε L H Q X z
    refine hc.run Z O σ ε L H _ X (hc.mono _ _ _ (fun c ε1 z => ?_) z)
    intro L1 H1 X1 e1
    cases c with
    | false =>
      rw [if_neg Bool.false_ne_true] at z
      exact iteF (hg.run Z O σ ε1 L1 H1 _ X1 (hg.mono _ _ _ (fun b ε2 z v L2 H2 X2 e2 r => z v L2 H2 X2 (e1.trans e2) (r.back e1)) z))
    | true =>
      rw [if_pos rfl] at z
      exact iteT (hf.run Z O σ ε1 L1 H1 _ X1 (hf.mono _ _ _ (fun b ε2 z v L2 H2 X2 e2 r => z v L2 H2 X2 (e1.trans e2) (r.back e1)) z))
def dAndV (f g : DTE)  (ε : Env) (Q : R → Env → Prop) : Prop := f ε fun r ε1 => match r.dat with
  | some (.bool k) => if k = true then g ε1 Q else Q (.sh (.bool false)) ε1
  | _ => False
def dOrV (f g : DTE)  (ε : Env) (Q : R → Env → Prop) : Prop := f ε fun r ε1 => match r.dat with
  | some (.bool k) => if k = true then Q (.sh (.bool true)) ε1 else g ε1 Q
  | _ => False
def dNotV (f : DTE)  (ε : Env) (Q : R → Env → Prop) : Prop := f ε fun r ε1 => match r.dat with
  | some (.bool b) => Q (.sh (.bool (!b))) ε1
  | _ => False
theorem se_andV (hf : SE w ta f) (hg : SE w tb g) : SE w (tAndV ta tb) (dAndV f g) := by
  constructor
  · intro ε A B h z
    refine hf.mono _ _ _ (fun r ε1 z => ?_) z
    split at z
    · rename_i k _
      cases k with
      | true => exact iteT (hg.mono _ _ _ h (by rw [if_pos rfl] at z; exact z))
      | false => exact iteF (h _ _ (by rw [if_neg Bool.false_ne_true] at z; exact z))
    · exact z.elim
  · intro Z O σ ε L H Q X z
    refine hf.run Z O σ ε L H _ X (hf.mono _ _ _ (fun r ε1 z => ?_) z)
    intro v L1 H1 X1 e1 r1
    split at z
    · rename_i k ek
      cases k with
      | true =>
        rw [if_pos rfl] at z
        exact ⟨true, (r1.vl ek).bl, iteT (hg.run Z O σ ε1 L1 H1 _ X1 (hg.mono _ _ _ (fun b ε2 z v L2 H2 X2 e2 r => z v L2 H2 X2 (e1.trans e2) (r.back e1)) z))⟩
      | false =>
        rw [if_neg Bool.false_ne_true] at z
        exact ⟨false, (r1.vl ek).bl, iteF (z _ L1 H1 X1 e1 (.bl false))⟩
    · exact z.elim
theorem se_orV (hf : SE w ta f) (hg : SE w tb g) : SE w (tOrV ta tb) (dOrV f g) := by
  constructor
  · intro ε A B h z
    refine hf.mono _ _ _ (fun r ε1 z => ?_) z
    split at z
    · rename_i k _
      cases k with
      | false => exact iteF (hg.mono _ _ _ h (by rw [if_neg Bool.false_ne_true] at z; exact z))
      | true => exact iteT (h _ _ (by rw [if_pos rfl] at z; exact z))
    · exact z.elim
  · intro Z O σ ε L H Q X z
    refine hf.run Z O σ ε L H _ X (hf.mono _ _ _ (fun r ε1 z => ?_) z)
    intro v L1 H1 X1 e1 r1
    split at z
    · rename_i k ek
      cases k with
      | false =>
        rw [if_neg Bool.false_ne_true] at z
        exact ⟨false, (r1.vl ek).bl, iteF (hg.run Z O σ ε1 L1 H1 _ X1 (hg.mono _ _ _ (fun b ε2 z v L2 H2 X2 e2 r => z v L2 H2 X2 (e1.trans e2) (r.back e1)) z))⟩
      | true =>
        rw [if_pos rfl] at z
        exact ⟨true, (r1.vl ek).bl, iteT (z _ L1 H1 X1 e1 (.bl true))⟩
    · exact z.elim
theorem se_notV (hf : SE w ta f) : SE w (tNotV ta) (dNotV f) := by
  constructor
  · intro ε A B h z
    refine hf.mono _ _ _ (fun r ε1 z => ?_) z
    show match r.dat with
      | some (.bool b) => B (.sh (.bool (!b))) ε1
      | _ => False
    split at z
    · exact h _ _ z
    · exact z.elim
  · intro Z O σ ε L H Q X z
    refine hf.run Z O σ ε L H _ X (hf.mono _ _ _ (fun r ε1 z => ?_) z)
    intro v L1 H1 X1 e1 r1
    split at z
    · rename_i b ek
      exact ⟨b, (r1.vl ek).bl, z _ L1 H1 X1 e1 (.bl (!b))⟩
    · exact z.elim
/-- a op b op' c -/
def dChain (φ ψ : PyData → PyData → (R → Prop) → Prop) (f g h : DTE)  (ε : Env) (Q : R → Env → Prop) : Prop := f ε fun x ε1 => g ε1 fun y ε2 => match x.dat, y.dat with
  | some dx, some dy => φ dx dy fun r => match r with
    | .sh (.bool k) => if k = true then (h ε2 fun z ε3 => match z.dat with
      | some dz => ψ dy dz fun r => Q r ε3
      | _ => False) else Q (.sh (.bool false)) ε2
    | _ => False
  | _, _ => False
theorem se_chain {r s : R2} {φ ψ : PyData → PyData → (R → Prop) → Prop} (k : R2K r φ) (l : R2K s ψ) (hf : SE w ta f) (hg : SE w tb g) (hh : SE w tc h) : SE w (tChain r s ta tb tc) (dChain φ ψ f g h) := by
  constructor
  · intro ε A B hAB q
    refine hf.mono _ _ _ (fun x ε1 q => hg.mono _ _ _ (fun y ε2 q => ?_) q) q
    split at q
    · refine k.mono _ _ _ _ (fun r q => ?_) q
      split at q
      · rename_i k0
        cases k0 with
        | true =>
          rw [if_pos rfl] at q
          refine iteT (hh.mono _ _ _ (fun z ε3 q => ?_) q)
          split at q
          · exact l.mono _ _ _ _ (fun r q => hAB _ _ q) q
          · exact q.elim
        | false =>
          rw [if_neg Bool.false_ne_true] at q
          exact iteF (hAB _ _ q)
      · exact q.elim
    · exact q.elim
  · intro Z O σ ε L H Q X q
    refine hf.run Z O σ ε L H _ X (hf.mono _ _ _ (fun x ε1 q => ?_) q)
    intro v L1 H1 X1 e1 r1
    refine hg.run Z O σ ε1 L1 H1 _ X1 (hg.mono _ _ _ (fun y ε2 q => ?_) q)
    intro u L2 H2 X2 e2 r2
    have r1' := r1.mono X1 e2
    split at q
    · rename_i dx dy ex ey
      refine k.run L2 H2 v u dx dy _ X2.lh (r1'.vl ex) (r2.vl ey) (k.mono _ _ _ _ (fun r q => ?_) q)
      intro z L3 H3 e3 s3 r3
      have X3 := X2.step e3 s3
      have r2' := r2.mono X2 e3.any
      split at q
      · rename_i k0
        cases (show DV L3 z (.bool k0) from r3)
        cases k0 with
        | true =>
          rw [if_pos rfl] at q
          refine ⟨true, rfl, iteT ?_⟩
          refine hh.run Z O σ ε2 L3 H3 _ X3 (hh.mono _ _ _ (fun c ε3 q => ?_) q)
          intro z' L4 H4 X4 e4 r4
          split at q
          · rename_i dz ez
            refine l.run L4 H4 u z' dy dz Q X4.lh ((r2'.mono X3 e4).vl ey) (r4.vl ez) (l.mono _ _ _ _ (fun r q => ?_) q)
            intro o L5 H5 e5 s5 r5
            have et := ((e1.trans e2).trans e3.any).trans e4
            exact q o L5 H5 (X4.step e5 s5) (et.trans e5.any) ((r5.vr X4).back et)
          · exact q.elim
        | false =>
          rw [if_neg Bool.false_ne_true] at q
          exact ⟨false, rfl, iteF (q _ L3 H3 X3 ((e1.trans e2).trans e3.any) (.bl false))⟩
      · exact q.elim
    · exact q.elim
def R.pub : R → R
  | .nw ds => .sh (.list ds)
  | r => r
theorem R.pub_nw (r : R) (ds : List PyData) : r.pub ≠ .nw ds := by
  cases r <;> exact fun h => nomatch h
theorem publ {Z : Zx} {O : Addr → Prop} {σ : L2.St} {ε : Env} {L H L' H' : Hp} {v : V} {r : R} (x : Rep w Z O L' H' σ ε) (e : Ext Z.b L H L' H') (h : VR w Z O σ H L' H' v r) : ∃ L2, Rep w Z O L2 H' σ ε ∧ Ext Z.b L H L2 H' ∧ VR w Z O σ H L2 H' v r.pub := by
  cases r with
  | nw ds =>
    obtain ⟨L2, h1, h2, h3⟩ := Lp.pub x e h
    exact ⟨L2, h1, h2, h3⟩
  | _ => exact ⟨L', x, e, h⟩
def dNil  (ε : Env) (Q : List R → Env → Prop) : Prop := Q [] ε
def dCons (f : DTE) (g : DTA)  (ε : Env) (Q : List R → Env → Prop) : Prop := f ε fun r ε1 => g ε1 fun rs ε2 => Q (r.pub :: rs) ε2
theorem sa_nil : SA w 0 tNil dNil := ⟨fun ε A B h q => h _ _ q, fun Z O σ ε L H Q X z => z _ L H X (Ext.refl _ _ _) .nil rfl (fun _ h => nomatch h)⟩
theorem sa_cons {n : Nat} {tr : TA} {g : DTA} (hf : SE w ta f) (hg : SA w n tr g) : SA w (n + 1) (tCons ta tr) (dCons f g) := by
  constructor
  · intro ε A B h z
    exact hf.mono _ _ _ (fun r ε1 z => hg.mono _ _ _ (fun rs ε2 z => h _ _ z) z) z
  · intro Z O σ ε L H Q X z
    refine hf.run Z O σ ε L H _ X (hf.mono _ _ _ (fun r ε1 z => ?_) z)
    intro v L1 H1 X1 e1 r1
    obtain ⟨L1', X1', e1', r1'⟩ := publ X1 e1 r1
    refine hg.run Z O σ ε1 L1' H1 _ X1' (hg.mono _ _ _ (fun rs ε2 z => ?_) z)
    intro vs L2 H2 X2 e2 rs2 hl np
    refine z (v :: vs) L2 H2 X2 (e1'.trans e2) (.cons (r1'.mono X1' e2) (rs2.back e1')) (by rw [List.length_cons, hl]) (fun x hx ds => ?_)
    rcases List.mem_cons.mp hx with rfl | hx
    · exact R.pub_nw r ds
    · exact np x hx ds
/-- all of them data that stands still -/
def shs : List R → Option (List PyData)
  | [] => some []
  | .sh d :: rs => match shs rs with
    | some ds => some (d :: ds)
    | none => none
  | _ => none
theorem shs_ok {Z : Zx} {O : Addr → Prop} {σ : L2.St} {Hs L H : Hp} : ∀ {rs : List R} {vs : List V} {ds : List PyData}, VRs w Z O σ Hs L H vs rs → shs rs = some ds → DVs L vs ds
  | [], _, _, .nil, e => by cases e; exact .nil
  | .sh d :: rs, _, ds, .cons a r, e => by
    unfold shs at e
    split at e
    · rename_i es h
      cases e
      exact .cons a (shs_ok r h)
    · cases e
  | .nw _ :: _, _, _, .cons _ _, e => by cases e
  | .br _ _ :: _, _, _, .cons _ _, e => by cases e
  | .bx :: _, _, _, .cons _ _, e => by cases e
  | .raw _ :: _, _, _, .cons _ _, e => by cases e
  | .sr _ _ _ :: _, _, _, .cons _ _, e => by cases e
  | .exn _ :: _, _, _, .cons _ _, e => by cases e
  | .dnw _ :: _, _, _, .cons _ _, e => by cases e
  | .dbr _ _ :: _, _, _, .cons _ _, e => by cases e
  | .srt _ _ :: _, _, _, .cons _ _, e => by cases e
  | .dsh _ :: _, _, _, .cons _ _, e => by cases e
def dTup (f : DTA)  (ε : Env) (Q : R → Env → Prop) : Prop := f ε fun rs ε1 => match shs rs with
  | some ds => Q (.sh (.tuple ds)) ε1
  | none => False
def dLst (f : DTA)  (ε : Env) (Q : R → Env → Prop) : Prop := f ε fun rs ε1 => match shs rs with
  | some ds => Q (.nw ds) ε1
  | none => False
theorem se_tup {n : Nat} {t : TA} {f : DTA} (hf : SA w n t f) (hn : n ≤ sizeLine := by decide) : SE w (tTupS t) (dTup f) := by
  constructor
  · intro ε A B h z
    refine hf.mono _ _ _ (fun rs ε1 z => ?_) z
    split at z
    · exact h _ _ z
    · exact z.elim
  · intro Z O σ ε L H Q X z
    refine hf.run Z O σ ε L H _ X (hf.mono _ _ _ (fun rs ε1 z => ?_) z)
    intro vs L1 H1 X1 e1 r1 hl np
    split at z
    · rename_i ds hd
      refine ⟨by rw [r1.len, hl]; exact hn, fun p o np no => ?_⟩
      have e2 : Ext none L1 H1 (upd L1 p (.frz o (.tup vs))) (upd H1 p (.frz o (.tup vs))) := Ext.new X1.lh np
      exact z _ _ _ (X1.step e2 (same_both X1.lh)) (e1.trans e2.any) (.tup ⟨o, no, upd_same⟩ ((shs_ok r1 hd).to e2.ll))
    · exact z.elim
theorem se_lst {n : Nat} {t : TA} {f : DTA} (hf : SA w n t f) (hn : n ≤ sizeLine := by decide) : SE w (tLst t) (dLst f) := by
  constructor
  · intro ε A B h z
    refine hf.mono _ _ _ (fun rs ε1 z => ?_) z
    split at z
    · exact h _ _ z
    · exact z.elim
  · intro Z O σ ε L H Q X z
    refine hf.run Z O σ ε L H _ X (hf.mono _ _ _ (fun rs ε1 z => ?_) z)
    intro vs L1 H1 X1 e1 r1 hl np
    split at z
    · rename_i ds hd
      refine ⟨by rw [r1.len, hl]; exact hn, fun p np => ?_⟩
      have e2 : Ext none L1 H1 L1 (upd H1 p (.lst vs)) := Ext.own np
      refine z _ _ _ (X1.step e2 (same_own X1.lh (X1.lh.free np))) (e1.trans e2.any) (VR.back (VR0.vr (r := .nw ds) ⟨p, vs, rfl, np, X1.lh.free np, upd_same, shs_ok r1 hd⟩ X1) e1)
    · exact z.elim
def dats : List R → Option (List PyData)
  | [] => some []
  | r :: rs => match r.dat, dats rs with
    | some d, some ds => some (d :: ds)
    | _, _ => none
inductive VLs (L H : Hp) : List V → List PyData → Prop
  | nil : VLs L H [] []
  | cons {v : V} {vs : List V} {d : PyData} {ds : List PyData} : VL L H v d → VLs L H vs ds → VLs L H (v :: vs) (d :: ds)
theorem dats_ok {Z : Zx} {O : Addr → Prop} {σ : L2.St} {Hs L H : Hp} : ∀ {rs : List R} {vs : List V} {ds : List PyData}, VRs w Z O σ Hs L H vs rs → dats rs = some ds → VLs L H vs ds
  | [], _, _, .nil, e => by cases e; exact .nil
  | r :: rs, _, ds, .cons a b, e => by
    unfold dats at e
    split at e
    · rename_i d es h1 h2
      cases e
      exact .cons (a.vl h1) (dats_ok b h2)
    · cases e
structure RCK (r : List V → Hp → VK → Prop) (φ : List PyData → (R → Prop) → Prop) : Prop where
  mono : ∀ x (A B : R → Prop), (∀ r, A r → B r) → φ x A → φ x B
  run : ∀ (L H : Hp) (xs : List V) (ds : List PyData) (Q : VK), Same L H → VLs L H xs ds → φ ds (fun r => ∀ v L' H', Ext none L H L' H' → Same L' H' → VR0 H L' H' v r → Q v H') → r xs H Q
def dCB (φ : List PyData → (R → Prop) → Prop) (f : DTA)  (ε : Env) (Q : R → Env → Prop) : Prop := f ε fun rs ε1 => match dats rs with
  | some ds => φ ds fun r => Q r ε1
  | _ => False
theorem se_cb {n : Nat} {t : TA} {f : DTA} {r : List V → Hp → VK → Prop} {φ : List PyData → (R → Prop) → Prop} (k : RCK r φ) (hf : SA w n t f) : SE w (tCB r t) (dCB φ f) := by
  constructor
  · intro ε A B h z
    refine hf.mono _ _ _ (fun rs ε1 z => ?_) z
    split at z
    · exact k.mono _ _ _ (fun r q => h _ _ q) z
    · exact z.elim
  · intro Z O σ ε L H Q X z
    refine hf.run Z O σ ε L H _ X (hf.mono _ _ _ (fun rs ε1 z => ?_) z)
    intro vs L1 H1 X1 e1 r1 hl np
    split at z
    · rename_i ds hd
      refine k.run L1 H1 vs ds Q X1.lh (dats_ok r1 hd) (k.mono _ _ _ (fun r q => ?_) z)
      intro z L3 H3 e3 s3 r3
      exact q z L3 H3 (X1.step e3 s3) (e1.trans e3.any) ((r3.vr X1).back e1)
    · exact z.elim
abbrev DTO := Env → (Option Int → Env → Prop) → Prop
structure SO (w : Wx) (t : TO) (f : DTO) : Prop where
  mono : ∀ ε (A B : Option Int → Env → Prop), (∀ r ε', A r ε' → B r ε') → f ε A → f ε B
  run : ∀ (Z : Zx) (O : Addr → Prop) (σ : L2.St) (ε : Env) (L H : Hp) (Q : Option Int → Hp → Prop), Rep w Z O L H σ ε → f ε (fun b ε' => ∀ L' H', Rep w Z O L' H' σ ε' → Ext Z.b L H L' H' → Q b H') → t σ H Q
def dNoP  (ε : Env) (Q : Option Int → Env → Prop) : Prop := Q none ε
def dPart (f : DTE)  (ε : Env) (Q : Option Int → Env → Prop) : Prop := f ε fun r ε1 => match r.dat with
  | some (.int i) => Q (some i) ε1
  | _ => False
theorem so_none : SO w tNoPart dNoP := ⟨fun ε A B h q => h _ _ q, fun Z O σ ε L H Q X z => z L H X (Ext.refl _ _ _)⟩
theorem so_some (hf : SE w ta f) : SO w (tPart ta) (dPart f) := by
  constructor
  · intro ε A B h q
    refine hf.mono _ _ _ (fun r ε1 q => ?_) q
    split at q
    · exact h _ _ q
    · exact q.elim
  · intro Z O σ ε L H Q X q
    refine hf.run Z O σ ε L H _ X (hf.mono _ _ _ (fun r ε1 q => ?_) q)
    intro v L1 H1 X1 e1 r1
    split at q
    · rename_i k ek
      exact ⟨k, (r1.vl ek).int, q L1 H1 X1 e1⟩
    · exact q.elim
structure RSK (r : V → Option Int → Option Int → Hp → VK → Prop) (φ : PyData → Option Int → Option Int → (R → Prop) → Prop) : Prop where
  mono : ∀ x l h (A B : R → Prop), (∀ r, A r → B r) → φ x l h A → φ x l h B
  run : ∀ (L H : Hp) (x : V) (d : PyData) (l h : Option Int) (Q : VK), Same L H → VL L H x d → φ d l h (fun r => ∀ v L' H', Ext none L H L' H' → Same L' H' → VR0 H L' H' v r → Q v H') → r x l h H Q
def dSl (φ : PyData → Option Int → Option Int → (R → Prop) → Prop) (f : DTE) (l h : DTO)  (ε : Env) (Q : R → Env → Prop) : Prop := f ε fun r ε1 => l ε1 fun i ε2 => h ε2 fun j ε3 => match r.dat with
  | some d => φ d i j fun r => Q r ε3
  | _ => False
theorem se_sl {r : V → Option Int → Option Int → Hp → VK → Prop} {φ : PyData → Option Int → Option Int → (R → Prop) → Prop} {tl th : TO} {l h : DTO} (k : RSK r φ) (hf : SE w ta f) (hl : SO w tl l) (hh : SO w th h) : SE w (tSl r ta tl th) (dSl φ f l h) := by
  constructor
  · intro ε A B hAB z
    refine hf.mono _ _ _ (fun r ε1 z => hl.mono _ _ _ (fun i ε2 z => hh.mono _ _ _ (fun j ε3 z => ?_) z) z) z
    split at z
    · exact k.mono _ _ _ _ _ (fun r q => hAB _ _ q) z
    · exact z.elim
  · intro Z O σ ε L H Q X z
    refine hf.run Z O σ ε L H _ X (hf.mono _ _ _ (fun r ε1 z => ?_) z)
    intro v L1 H1 X1 e1 r1
    refine hl.run Z O σ ε1 L1 H1 _ X1 (hl.mono _ _ _ (fun i ε2 z => ?_) z)
    intro L2 H2 X2 e2
    refine hh.run Z O σ ε2 L2 H2 _ X2 (hh.mono _ _ _ (fun j ε3 z => ?_) z)
    intro L3 H3 X3 e3
    have r3 := (r1.mono X1 e2).mono X2 e3
    split at z
    · rename_i d hd
      have et := (e1.trans e2).trans e3
      refine k.run L3 H3 v d i j Q X3.lh (r3.vl hd) (k.mono _ _ _ _ _ (fun r q => ?_) z)
      intro z L4 H4 e4 s4 r4
      exact q z L4 H4 (X3.step e4 s4) (et.trans e4.any) ((r4.vr X3).back et)
    · exact z.elim
end
end Lp

namespace Lp
open PySem PySem.Spec PyProof.Rows L2
structure DEnds where
  nx : Env → Prop
  rt : R → Env → Prop
  bk : Env → Prop := fun _ => False
  ct : Env → Prop := fun _ => False
structure DEnds.le (A B : DEnds) : Prop where
  nx : ∀ ε, A.nx ε → B.nx ε
  rt : ∀ r ε, A.rt r ε → B.rt r ε
  bk : ∀ ε, A.bk ε → B.bk ε
  ct : ∀ ε, A.ct ε → B.ct ε
theorem DEnds.le.refl (A : DEnds) : A.le A := ⟨fun _ h => h, fun _ _ h => h, fun _ h => h, fun _ h => h⟩
abbrev DTS := DEnds → Env → Prop
structure EndsOk (w : Wx) (Z : Zx) (D : Ends) (Δ : DEnds) : Prop where
  nx : ∀ (O : Addr → Prop) (σ : L2.St) (ε : Env) (L H : Hp), Rep w Z O L H σ ε → Δ.nx ε → D.nx σ H
  rt : ∀ (O : Addr → Prop) (σ : L2.St) (ε : Env) (L H : Hp) (v : V) (r : R), Rep w Z O L H σ ε → VR0 Z.H0 L H v r → Δ.rt r ε → D.rt v H
  bk : ∀ (O : Addr → Prop) (σ : L2.St) (ε : Env) (L H : Hp), Rep w Z O L H σ ε → Δ.bk ε → D.bk σ H
  ct : ∀ (O : Addr → Prop) (σ : L2.St) (ε : Env) (L H : Hp), Rep w Z O L H σ ε → Δ.ct ε → D.ct σ H
structure SS (w : Wx) (t : TS) (f : DTS) : Prop where
  mono : ∀ Δ Δ' ε, DEnds.le Δ Δ' → f Δ ε → f Δ' ε
  run : ∀ (Z : Zx) (O : Addr → Prop) (σ : L2.St) (ε : Env) (L H : Hp) (D : Ends) (Δ : DEnds), Rep w Z O L H σ ε → EndsOk w Z D Δ → f Δ ε → t D σ H
section
variable {w : Wx} {Z : Zx} {O : Addr → Prop} {σ : L2.St} {ε : Env} {L H : Hp}
theorem get_set {α : Type} {l : List α} {i j : Nat} {x y : α} (h : (l.set i x)[j]? = some y) : (i = j ∧ y = x ∧ j < l.length) ∨ (i ≠ j ∧ l[j]? = some y) := by
  rw [List.getElem?_set] at h
  split at h
  · rename_i e
    subst e
    split at h
    · cases h; exact .inl ⟨rfl, rfl, by assumption⟩
    · cases h
  · rename_i e
    exact .inr ⟨e, h⟩
/-- a slot takes a value -/
theorem Rep.put0 (x : Rep w Z O L H σ ε) {i : Nat} {v : V} {y : SV} (O' : Addr → Prop) (ho : ∀ a, O a → O' a) (hn : ∀ a, O' a → H a ≠ none ∧ Z.H0 a = none) (h : SlotR w Z O' L H (some v) y) (hd : Own y = true → ∀ a, v = .ref a → ¬ O a) : Rep w Z O' L H (σ.set i (some v)) (ε.set i y) := by
  have own : ∀ (j : Nat) (z : SV) (a : Addr), ε.s[j]? = some z → Own z = true → σ[j]? = some (some (.ref a)) → O a := by
    intro j z a hz ho ha
    obtain ⟨o, h1, h2⟩ := x.sl j z hz
    rw [ha] at h1
    cases h1
    cases z with
    | ow ds => obtain ⟨b, xs, e, h3, _⟩ := h2; cases e; exact h3
    | st S n => obtain ⟨b, e, h3, _⟩ := h2; cases e; exact h3
    | dco xs => obtain ⟨b, e, h3, _⟩ := h2; cases e; exact h3
    | sto M => obtain ⟨b, A, e, h3, _⟩ := h2; cases e; exact h3
    | _ => cases ho
  refine ⟨x.lh, x.pn, x.ex, x.bo, hn, ?_, fun j z hz => ?_, fun j k z z' a hjk hz hz' oz oz' hj hk => ?_, x.ph⟩
  · show (σ.set i (some v)).length = (ε.s.set i y).length
    rw [List.length_set, List.length_set]; exact x.len
  · rcases get_set hz with ⟨rfl, rfl, hl⟩ | ⟨ne, hz⟩
    · refine ⟨some v, ?_, h⟩
      rw [List.getElem?_set, if_pos rfl, if_pos (by rw [x.len]; exact hl)]
    · obtain ⟨o, h1, h2⟩ := x.sl j z hz
      refine ⟨o, by rw [List.getElem?_set, if_neg ne]; exact h1, ?_⟩
      cases z with
      | ow ds => obtain ⟨a, xs, e1, e2, e3⟩ := h2; exact ⟨a, xs, e1, ho a e2, e3⟩
      | st S n => obtain ⟨a, e1, e2, e3⟩ := h2; exact ⟨a, e1, ho a e2, e3⟩
      | dco xs => obtain ⟨a, e1, e2, e3⟩ := h2; exact ⟨a, e1, ho a e2, e3⟩
      | sto M => obtain ⟨a, A, e1, e2, e3⟩ := h2; exact ⟨a, A, e1, ho a e2, e3⟩
      | _ => exact h2
  · rcases get_set hz with ⟨rfl, rfl, hl⟩ | ⟨ne, hz1⟩
    · rcases get_set hz' with ⟨rfl, _, _⟩ | ⟨ne', hz'⟩
      · exact hjk rfl
      · rw [List.getElem?_set, if_pos rfl, if_pos (by rw [x.len]; exact hl)] at hj
        rw [List.getElem?_set, if_neg ne'] at hk
        exact hd oz a (Option.some.inj (Option.some.inj hj)) (own k z' a hz' oz' hk)
    · rw [List.getElem?_set, if_neg ne] at hj
      rcases get_set hz' with ⟨e1, e2, hl⟩ | ⟨ne', hz2⟩
      · subst e1
        subst e2
        rw [List.getElem?_set, if_pos rfl, if_pos (by rw [x.len]; exact hl)] at hk
        exact hd oz' a (Option.some.inj (Option.some.inj hk)) (own j z a hz1 oz hj)
      · rw [List.getElem?_set, if_neg ne'] at hk
        exact x.di j k z z' a hjk hz1 hz2 oz oz' hj hk
theorem Rep.sh (x : Rep w Z O L H σ ε) {i : Nat} {v : V} {d : PyData} (h : DV L v d) : Rep w Z O L H (σ.set i (some v)) (ε.set i (.sh d)) :=
  x.put0 O (fun _ h => h) x.oh ⟨v, rfl, h⟩ (fun z => nomatch z)
theorem Rep.exnS (x : Rep w Z O L H σ ε) {i : Nat} {v : V} {y : Xn} (h : XV w L v y) : Rep w Z O L H (σ.set i (some v)) (ε.set i (.exn y)) :=
  x.put0 O (fun _ h => h) x.oh ⟨v, rfl, h⟩ (fun z => nomatch z)
theorem Rep.rawS (x : Rep w Z O L H σ ε) {i : Nat} {v : V} : Rep w Z O L H (σ.set i (some v)) (ε.set i (.raw v)) :=
  x.put0 O (fun _ h => h) x.oh rfl (fun z => nomatch z)
theorem Rep.dsS (x : Rep w Z O L H σ ε) {i : Nat} {v : V} {xs : List DRow} (h : DVd L v xs) : Rep w Z O L H (σ.set i (some v)) (ε.set i (.dsh xs)) :=
  x.put0 O (fun _ h => h) x.oh ⟨v, rfl, h⟩ (fun e => nomatch e)
/-- an object that nobody holds is published -/
theorem Rep.pubO (x : Rep w Z O L H σ ε) {a : Addr} {o : HO} (h2 : ¬ O a) (h3 : Z.H0 a = none) (h4 : L a = none) (h5 : H a = some o) : Rep w Z O (upd L a o) H σ ε := by
  have s1 : Same L (upd L a o) := same_upd h4
  refine ⟨same_pub x.lh h5, x.pn.trans s1, ⟨x.ex.ll.trans s1, x.ex.hh, x.ex.dom, fun b hb hd => ?_⟩, fun b hb => ?_, x.oh, x.len, fun i y hy => ?_, x.di, x.ph⟩
  · rw [upd_ne (ne_at hd h3)]; exact x.ex.fr b hb hd
  · obtain ⟨q1, q2, q3⟩ := x.bo b hb
    exact ⟨by rw [upd_ne (ne_at q3 h3)]; exact q1, q2, q3⟩
  · obtain ⟨o, q1, q2⟩ := x.sl i y hy
    refine ⟨o, q1, ?_⟩
    cases y with
    | un => trivial
    | sh d =>
      obtain ⟨v, e1, e2⟩ := q2
      exact ⟨v, e1, e2.to s1⟩
    | ow ds =>
      obtain ⟨b, ys, e1, e2, e3, e4, e5, e6⟩ := q2
      exact ⟨b, ys, e1, e2, by rw [upd_ne (fun z => h2 (by rw [← z]; exact e2))]; exact e3, e4, e5, e6.to s1⟩
    | bx => exact q2
    | st S n =>
      obtain ⟨b, e1, e2, e3, e4, e5⟩ := q2
      exact ⟨b, e1, e2, by rw [upd_ne (fun z => h2 (by rw [← z]; exact e2))]; exact e3, e4, e5⟩
    | raw u => exact q2
    | exn x => obtain ⟨v, e1, e2⟩ := q2; exact ⟨v, e1, e2.to s1⟩
    | dco xs =>
      obtain ⟨b, e1, e2, e3, e4, e5, e6⟩ := q2
      exact ⟨b, e1, e2, by rw [upd_ne (fun z => h2 (by rw [← z]; exact e2))]; exact e3, e4, e5, e6.to s1⟩
    | sto M =>
      obtain ⟨b, A, e1, e2, e3, e4, e5, e6⟩ := q2
      exact ⟨b, A, e1, e2, by rw [upd_ne (fun z => h2 (by rw [← z]; exact e2))]; exact e3, e4, e5, e6.to s1⟩
    | dsh xs => obtain ⟨v, e1, e2⟩ := q2; exact ⟨v, e1, e2.to s1⟩
/-- what is stored of a value: own or for all to see -/
def val (own : Bool) : R → Option SV
  | .sh d => some (.sh d)
  | .nw ds => some (if own = true then .ow ds else .sh (.list ds))
  | .raw v => some (.raw v)
  | .exn x => some (.exn x)
  | .dnw xs => some (if own = true then .dco xs else .dsh xs)
  | .dsh xs => some (.dsh xs)
  | _ => none
/-- a new list at a -/
def nwAt (r : R) (v : V) (a : Addr) : Prop := ((∃ ds, r = .nw ds) ∨ ∃ xs, r = .dnw xs) ∧ v = .ref a
theorem Rep.put {Hs : Hp} (x : Rep w Z O L H σ ε) {i : Nat} {own : Bool} {v : V} {r : R} {y : SV} (h : VR w Z O σ Hs L H v r) (hy : val own r = some y) : ∃ O' L', Rep w Z O' L' H (σ.set i (some v)) (ε.set i y) ∧ Same L L' ∧ (∀ a, L a = none → ¬ nwAt r v a → L' a = none) ∧ ∀ a, O' a → O a ∨ nwAt r v a := by
  cases r with
  | sh d =>
    cases hy
    exact ⟨O, L, x.sh h, Same.refl L, fun a h _ => h, fun a h => .inl h⟩
  | nw ds =>
    cases own with
    | true =>
      cases hy
      obtain ⟨a, xs, rfl, h1, h2, h3, h4, h5, h6⟩ := h
      refine ⟨fun b => O b ∨ b = a, L, x.put0 (fun b => O b ∨ b = a) (fun b h => .inl h) (fun b hb => ?_) ⟨a, xs, rfl, .inr rfl, h4, h3, h5, h6⟩ (fun _ b e => by cases e; exact h2), Same.refl L, fun b h _ => h, fun b hb => hb.imp id fun z => ⟨.inl ⟨_, rfl⟩, by rw [z]⟩⟩
      rcases hb with hb | rfl
      · exact x.oh b hb
      · exact ⟨by rw [h5]; exact (fun z => nomatch z), h3⟩
    | false =>
      cases hy
      have h' := h
      obtain ⟨a, xs, rfl, h1, h2, h3, h4, h5, h6⟩ := h'
      have s1 : Same L (upd L a (.lst xs)) := same_upd h4
      obtain ⟨L2, X2, e2, d2⟩ : ∃ L2, Rep w Z O L2 H σ ε ∧ L2 = upd L a (.lst xs) ∧ DV L2 (.ref a) (.list ds) := by
        refine ⟨_, ⟨same_pub x.lh h5, x.pn.trans s1, ⟨x.ex.ll.trans s1, x.ex.hh, x.ex.dom, fun b hb hd => ?_⟩, fun b hb => ?_, x.oh, x.len, fun i y hy => ?_, x.di, x.ph⟩, rfl, .lst upd_same (h6.to s1)⟩
        · rw [upd_ne (ne_at hd h3)]; exact x.ex.fr b hb hd
        · obtain ⟨q1, q2, q3⟩ := x.bo b hb
          exact ⟨by rw [upd_ne (ne_at q3 h3)]; exact q1, q2, q3⟩
        · obtain ⟨o, q1, q2⟩ := x.sl i y hy
          refine ⟨o, q1, ?_⟩
          cases y with
          | un => trivial
          | sh d =>
            obtain ⟨v, e1, e2⟩ := q2
            exact ⟨v, e1, e2.to s1⟩
          | ow ds =>
            obtain ⟨b, ys, e1, e2, e3, e4, e5, e6⟩ := q2
            exact ⟨b, ys, e1, e2, by rw [upd_ne (fun z => h2 (by rw [← z]; exact e2))]; exact e3, e4, e5, e6.to s1⟩
          | bx => exact q2
          | st S n =>
            obtain ⟨b, e1, e2, e3, e4, e5⟩ := q2
            exact ⟨b, e1, e2, by rw [upd_ne (fun z => h2 (by rw [← z]; exact e2))]; exact e3, e4, e5⟩
          | raw u => exact q2
          | exn x => obtain ⟨v, e1, e2⟩ := q2; exact ⟨v, e1, e2.to s1⟩
          | dco xs =>
            obtain ⟨b, e1, e2, e3, e4, e5, e6⟩ := q2
            exact ⟨b, e1, e2, by rw [upd_ne (fun z => h2 (by rw [← z]; exact e2))]; exact e3, e4, e5, e6.to s1⟩
          | sto M =>
            obtain ⟨b, A, e1, e2, e3, e4, e5, e6⟩ := q2
            exact ⟨b, A, e1, e2, by rw [upd_ne (fun z => h2 (by rw [← z]; exact e2))]; exact e3, e4, e5, e6.to s1⟩
          | dsh xs => obtain ⟨v, e1, e2⟩ := q2; exact ⟨v, e1, e2.to s1⟩
      refine ⟨O, L2, X2.sh d2, by rw [e2]; exact s1, fun b hb nb => ?_, fun b hb => .inl hb⟩
      rw [e2, upd_ne (fun z => nb ⟨.inl ⟨_, rfl⟩, by rw [z]⟩)]; exact hb
  | raw u =>
    cases hy
    cases (show v = u from h)
    exact ⟨O, L, x.rawS, Same.refl L, fun a h _ => h, fun a h => .inl h⟩
  | exn y =>
    cases hy
    exact ⟨O, L, x.exnS h, Same.refl L, fun a h _ => h, fun a h => .inl h⟩
  | br i ds => cases hy
  | bx => cases hy
  | sr i S n => cases hy
  | dbr i xs => cases hy
  | srt i M => cases hy
  | dsh xs =>
    cases hy
    exact ⟨O, L, x.dsS h, Same.refl L, fun a h _ => h, fun a h => .inl h⟩
  | dnw xs =>
    cases own with
    | true =>
      cases hy
      obtain ⟨a, rfl, h1, h2, h3, h4, h5, h6⟩ := h
      refine ⟨fun b => O b ∨ b = a, L, x.put0 (fun b => O b ∨ b = a) (fun b h => .inl h) (fun b hb => ?_) ⟨a, rfl, .inr rfl, h4, h3, h5, h6⟩ (fun _ b e => by cases e; exact h2), Same.refl L, fun b h _ => h, fun b hb => hb.imp id fun z => ⟨.inr ⟨_, rfl⟩, by rw [z]⟩⟩
      rcases hb with hb | rfl
      · exact x.oh b hb
      · exact ⟨h5.ne, h3⟩
    | false =>
      cases hy
      obtain ⟨a, rfl, h1, h2, h3, h4, ⟨ob, h5⟩, h6⟩ := h
      have s1 : Same L (upd L a (DctO ob a xs)) := same_upd h4
      obtain ⟨L2, X2, e2, d2⟩ : ∃ L2, Rep w Z O L2 H σ ε ∧ L2 = upd L a (DctO ob a xs) ∧ DVd L2 (.ref a) xs :=
        ⟨_, x.pubO h2 h3 h4 h5, rfl, a, rfl, ⟨ob, upd_same⟩, h6.to s1⟩
      refine ⟨O, L2, X2.dsS d2, by rw [e2]; exact s1, fun b hb nb => ?_, fun b hb => .inl hb⟩
      rw [e2, upd_ne (fun z => nb ⟨.inr ⟨_, rfl⟩, by rw [z]⟩)]; exact hb
end
section
variable {w : Wx} {ta tb tc : TE} {f g h : DTE} {t u : TS} {p q : DTS}
def dNext  (Δ : DEnds) (ε : Env) : Prop := Δ.nx ε
theorem ss_next : SS w tNext dNext := ⟨fun _ _ ε l z => l.nx ε z, fun Z O σ ε L H D Δ X E z => E.nx O σ ε L H X z⟩
def dSeq (p q : DTS)  (Δ : DEnds) (ε : Env) : Prop := p { Δ with nx := q Δ } ε
theorem ss_seq (hp : SS w t p) (hq : SS w u q) : SS w (tSeq t u) (dSeq p q) :=
  ⟨fun Δ Δ' ε l z => hp.mono { Δ with nx := q Δ } _ ε ⟨fun ε z => hq.mono _ _ ε l z, l.rt, l.bk, l.ct⟩ z,
   fun Z O σ ε L H D Δ X E z => hp.run Z O σ ε L H _ { Δ with nx := q Δ } X ⟨fun O σ ε L H X z => hq.run Z O σ ε L H D Δ X E z, E.rt, E.bk, E.ct⟩ z⟩
def dBreak  (Δ : DEnds) (ε : Env) : Prop := Δ.bk ε
def dCont  (Δ : DEnds) (ε : Env) : Prop := Δ.ct ε
def dNever  (_ : DEnds) (_ : Env) : Prop := False
theorem ss_never : SS w tNever dNever := ⟨fun _ _ _ _ z => z, fun Z O σ ε L H D Δ X E z => z⟩
def dDrop (f : DTE)  (Δ : DEnds) (ε : Env) : Prop := f ε fun _ ε1 => Δ.nx ε1
theorem ss_drop (hf : SE w ta f) : SS w (tDrop ta) (dDrop f) :=
  ⟨fun Δ Δ' ε l z => hf.mono _ _ _ (fun _ ε1 z => l.nx ε1 z) z,
   fun Z O σ ε L H D Δ X E z => hf.run Z O σ ε L H _ X (hf.mono _ _ _ (fun _ ε1 z v L1 H1 X1 e1 r1 => E.nx O σ ε1 L1 H1 X1 z) z)⟩
def R.ret : R → Option R
  | .sh d => some (.sh d)
  | .nw ds => some (.nw ds)
  | .br _ ds => some (.nw ds)
  | .dnw xs => some (.dnw xs)
  | .dbr _ xs => some (.dnw xs)
  | .dsh xs => some (.dsh xs)
  | _ => none
def dRet (f : DTE)  (Δ : DEnds) (ε : Env) : Prop := f ε fun r ε1 => match r.ret with
  | some r => Δ.rt r ε1
  | none => False
theorem VR.ret {Z : Zx} {O : Addr → Prop} {σ : L2.St} {Hs L H : Hp} {v : V} {r r' : R} (x : VR w Z O σ Hs L H v r) (e : r.ret = some r') : VR0 Z.H0 L H v r' := by
  cases r with
  | sh d => cases e; exact x
  | nw ds =>
    cases e
    obtain ⟨a, xs, rfl, h1, h2, h3, h4, h5, h6⟩ := x
    exact ⟨a, xs, rfl, h3, h4, h5, h6⟩
  | br i ds =>
    cases e
    obtain ⟨a, xs, rfl, h1, h2, h3, h4, h5, h6⟩ := x
    exact ⟨a, xs, rfl, h3, h4, h5, h6⟩
  | bx => cases e
  | raw u => cases e
  | sr i S n => cases e
  | exn y => cases e
  | dnw xs =>
    cases e
    obtain ⟨a, rfl, h1, h2, h3, h4, h5, h6⟩ := x
    exact ⟨a, rfl, h3, h4, h5, h6⟩
  | dbr i xs =>
    cases e
    obtain ⟨a, rfl, h1, h2, h3, h4, h5, h6⟩ := x
    exact ⟨a, rfl, h3, h4, h5, h6⟩
  | srt i M => cases e
  | dsh xs => cases e; exact x
theorem ss_ret (hf : SE w ta f) : SS w (tRet ta) (dRet f) := by
  constructor
  · intro Δ Δ' ε l z
    refine hf.mono _ _ _ (fun r ε1 z => ?_) z
    split at z
    · exact l.rt _ _ z
    · exact z.elim
  · intro Z O σ ε L H D Δ X E z
    refine hf.run Z O σ ε L H _ X (hf.mono _ _ _ (fun r ε1 z => ?_) z)
    intro v L1 H1 X1 e1 r1
    split at z
    · rename_i r' hr
      exact E.rt O σ ε1 L1 H1 v r' X1 (r1.ret hr) z
    · exact z.elim
def dRetN  (Δ : DEnds) (ε : Env) : Prop := Δ.rt (.sh .none) ε
def dIfS (c : DTT) (p q : DTS)  (Δ : DEnds) (ε : Env) : Prop := c ε fun b ε1 => if b = true then p Δ ε1 else q Δ ε1
theorem ss_if {c : TT} {k : DTT} (hc : ST w c k) (hp : SS w t p) (hq : SS w u q) : SS w (tIfS c t u) (dIfS k p q) := by
  constructor
  · intro Δ Δ' ε l z
    refine hc.mono _ _ _ (fun b ε1 z => ?_) z
    cases b with
    | true => exact iteT (hp.mono _ _ _ l (by rw [if_pos rfl] at z; exact z))
    | false => exact iteF (hq.mono _ _ _ l (by rw [if_neg Bool.false_ne_true] at z; exact z))
  · intro Z O σ ε L H D Δ X E z
    refine hc.run Z O σ ε L H _ X (hc.mono _ _ _ (fun b ε1 z => ?_) z)
    intro L1 H1 X1 e1
    cases b with
    | true => exact iteT (hp.run Z O σ ε1 L1 H1 D Δ X1 E (by rw [if_pos rfl] at z; exact z))
    | false => exact iteF (hq.run Z O σ ε1 L1 H1 D Δ X1 E (by rw [if_neg Bool.false_ne_true] at z; exact z))
def dSetG (own : Bool) (i : Nat) (f : DTE)  (Δ : DEnds) (ε : Env) : Prop := f ε fun r ε1 => match val own r with
  | some x => Δ.nx (ε1.set i x)
  | none => False
theorem ss_set (own : Bool) {i : Nat} (hf : SE w ta f) : SS w (tAsg ta (gName i)) (dSetG own i f) := by
  constructor
  · intro Δ Δ' ε l z
    refine hf.mono _ _ _ (fun r ε1 z => ?_) z
    split at z
    · exact l.nx _ z
    · exact z.elim
  · intro Z O σ ε L H D Δ X E z
    refine hf.run Z O σ ε L H _ X (hf.mono _ _ _ (fun r ε1 z => ?_) z)
    intro v L1 H1 X1 e1 r1
    split at z
    · rename_i x hx
      obtain ⟨O', L', X', _⟩ := X1.put (i := i) r1 hx
      exact E.nx O' _ _ L' H1 X' z
    · exact z.elim
def dPar (i : Nat) (oi : Bool) (j : Nat) (oj : Bool) (f g : DTE)  (Δ : DEnds) (ε : Env) : Prop := f ε fun x ε1 => g ε1 fun y ε2 => match val oi x, val oj y with
  | some a, some b => Δ.nx ((ε2.set i a).set j b)
  | _, _ => False
theorem VR.setσ {Z : Zx} {O O' : Addr → Prop} {σ σ' : L2.St} {Hs L L' H : Hp} {v : V} {r : R} (N : Addr → Prop) (x : VR w Z O σ Hs L H v r) {own : Bool} {y : SV} (hy : val own r = some y) (s : Same L L') (hl : ∀ a, L a = none → ¬ N a → L' a = none) (ho : ∀ a, O' a → O a ∨ N a) (hu : ∀ a, N a → Hs a ≠ none) : VR w Z O' σ' Hs L' H v r := by
  cases r with
  | sh d => exact DV.to x s
  | nw ds =>
    obtain ⟨a, xs, rfl, h1, h2, h3, h4, h5, h6⟩ := x
    have ne : ¬ N a := fun z => hu a z h1
    exact ⟨a, xs, rfl, h1, fun o => (ho a o).elim h2 ne, h3, hl a h4 ne, h5, h6.to s⟩
  | raw u => exact x
  | exn y => exact XV.to x s
  | br i ds => cases hy
  | bx => cases hy
  | sr i S n => cases hy
  | dbr i xs => cases hy
  | srt i M => cases hy
  | dsh xs => exact DVd.to s x
  | dnw xs =>
    obtain ⟨a, rfl, h1, h2, h3, h4, h5, h6⟩ := x
    have ne : ¬ N a := fun z => hu a z h1
    exact ⟨a, rfl, h1, fun o => (ho a o).elim h2 ne, h3, hl a h4 ne, h5, h6.to s⟩
theorem VR.nwAt {Z : Zx} {O : Addr → Prop} {σ : L2.St} {Hs L H : Hp} {v : V} {r : R} {a : Addr} (x : VR w Z O σ Hs L H v r) (e : Lp.nwAt r v a) : H a ≠ none := by
  obtain ⟨⟨ds, rfl⟩ | ⟨ys, rfl⟩, rfl⟩ := e
  · obtain ⟨b, xs, e, h1, h2, h3, h4, h5, h6⟩ := x
    cases e
    rw [h5]; exact fun z => nomatch z
  · obtain ⟨b, e, h1, h2, h3, h4, h5, h6⟩ := x
    cases e
    exact h5.ne
theorem two_put {Z : Zx} {O : Addr → Prop} {σ : L2.St} {ε : Env} {H L1 H1 L2 H2 : Hp} {v u : V} {x y : R} {oi oj : Bool} {i j : Nat} {a b : SV} (X2 : Rep w Z O L2 H2 σ ε) (r1 : VR w Z O σ H L1 H1 v x) (r1' : VR w Z O σ H L2 H2 v x) (r2 : VR w Z O σ H1 L2 H2 u y) (ha : val oi x = some a) (hb : val oj y = some b) :
    ∃ O' L', Rep w Z O' L' H2 ((σ.set i (some v)).set j (some u)) ((ε.set i a).set j b) ∧ Same L2 L' ∧ (∀ a, L2 a = none → ¬ (nwAt x v a ∨ nwAt y u a) → L' a = none) ∧ ∀ a, O' a → O a ∨ nwAt x v a ∨ nwAt y u a := by
  obtain ⟨O', L', X3, s3, hl3, ho3⟩ := X2.put (i := i) r1' ha
  have r2' : VR w Z O' (σ.set i (some v)) H1 L' H2 u y := r2.setσ (nwAt x v) hb s3 hl3 ho3 fun a ea => r1.nwAt ea
  obtain ⟨O2, L3, X4, s4, hl4, ho4⟩ := X3.put (i := j) r2' hb
  refine ⟨O2, L3, X4, s3.trans s4, fun a h n => hl4 a (hl3 a h (fun z => n (.inl z))) (fun z => n (.inr z)), fun a h => ?_⟩
  rcases ho4 a h with q | q
  · exact (ho3 a q).imp id .inl
  · exact .inr (.inr q)
theorem ss_par {i j : Nat} {oi oj : Bool} (hf : SE w ta f) (hg : SE w tb g) : SS w (tPar i j (tCons ta (tCons tb tNil))) (dPar i oi j oj f g) := by
  constructor
  · intro Δ Δ' ε l z
    refine hf.mono _ _ _ (fun x ε1 z => hg.mono _ _ _ (fun y ε2 z => ?_) z) z
    split at z
    · exact l.nx _ z
    · exact z.elim
  · intro Z O σ ε L H D Δ X E z
    refine hf.run Z O σ ε L H _ X (hf.mono _ _ _ (fun x ε1 z => ?_) z)
    intro v L1 H1 X1 e1 r1
    refine hg.run Z O σ ε1 L1 H1 _ X1 (hg.mono _ _ _ (fun y ε2 z => ?_) z)
    intro u L2 H2 X2 e2 r2
    split at z
    · rename_i a b ha hb
      obtain ⟨O', L', X', _⟩ := two_put (i := i) (j := j) X2 r1 (r1.mono X1 e2) r2 ha hb
      exact ⟨v, u, rfl, E.nx O' _ _ L' H2 X' z⟩
    · exact z.elim
/-- the same where the pair is made and taken apart -/
theorem ss_parT {K : PySem.W.Frag} {i j : Nat} {oi oj : Bool} (hf : SE w ta f) (hg : SE w tb g) : SS w (tAsg (tTupS (tCons ta (tCons tb tNil))) (gTup K 2 (gCons (gName i) (gCons (gName j) gNil)))) (dPar i oi j oj f g) := by
  constructor
  · exact (ss_par hf hg).mono
  · intro Z O σ ε L H D Δ X E z
    refine hf.run Z O σ ε L H _ X (hf.mono _ _ _ (fun x ε1 z => ?_) z)
    intro v L1 H1 X1 e1 r1
    refine hg.run Z O σ ε1 L1 H1 _ X1 (hg.mono _ _ _ (fun y ε2 z => ?_) z)
    intro u L2 H2 X2 e2 r2
    split at z
    · rename_i a b ha hb
      refine ⟨by show 2 ≤ sizeLine; decide, fun p o np no => ⟨p, _, rfl, Sol.seq ⟨o, no, upd_same⟩, rfl, v, _, rfl, u, _, rfl, rfl, ?_⟩⟩
      have e3 : Ext none L2 H2 L2 (upd H2 p (.frz o (.tup [v, u]))) := Ext.own np
      have X3 := X2.step e3 (same_own X2.lh (X2.lh.free np))
      obtain ⟨O', L', X', _⟩ := two_put (i := i) (j := j) X3 r1 ((r1.mono X1 e2).mono X2 e3.any) (r2.mono X2 e3.any) ha hb
      exact E.nx O' _ _ L' _ X' z
    · exact z.elim
def dPar3 (i : Nat) (oi : Bool) (j : Nat) (oj : Bool) (k : Nat) (ok : Bool) (f g h : DTE)  (Δ : DEnds) (ε : Env) : Prop := f ε fun x ε1 => g ε1 fun y ε2 => h ε2 fun z ε3 => match val oi x, val oj y, val ok z with
  | some a, some b, some c => Δ.nx (((ε3.set i a).set j b).set k c)
  | _, _, _ => False
end
end Lp

namespace Lp
open PySem PySem.Spec PyProof.Rows L2
section
variable {w : Wx} {Z : Zx} {O : Addr → Prop} {σ : L2.St} {ε : Env} {L H : Hp}
/-- the list of slot i changes -/
theorem Rep.mut (x : Rep w Z O L H σ ε) {i : Nat} {a : Addr} {y z : SV} {o : HO} (hi : ε.s[i]? = some y) (hy : Own y = true) (ha : σ[i]? = some (some (.ref a))) (h : SlotR w Z O L (upd H a o) (some (.ref a)) z) : Rep w Z O L (upd H a o) σ (ε.set i z) ∧ L a = none ∧ Z.H0 a = none ∧ O a := by
  obtain ⟨o1, h1, h2⟩ := x.sl i y hi
  rw [ha] at h1
  cases h1
  have key : O a ∧ L a = none ∧ Z.H0 a = none := by
    cases y with
    | ow ds => obtain ⟨b, xs, e, k1, k2, k3, _⟩ := h2; cases e; exact ⟨k1, k2, k3⟩
    | st S n => obtain ⟨b, e, k1, k2, k3, _⟩ := h2; cases e; exact ⟨k1, k2, k3⟩
    | dco xs => obtain ⟨b, e, k1, k2, k3, _⟩ := h2; cases e; exact ⟨k1, k2, k3⟩
    | sto M => obtain ⟨b, A, e, k1, k2, k3, _⟩ := h2; cases e; exact ⟨k1, k2, k3⟩
    | _ => cases hy
  obtain ⟨k1, k2, k3⟩ := key
  have nb : ∀ b, Z.b = some b → b ≠ a := fun b hb e => (x.bo b hb).2.2 (by rw [e]; exact k3)
  refine ⟨⟨same_own x.lh k2, x.pn, ⟨x.ex.ll, fun b u hb nb => ?_, fun b hb => ?_, x.ex.fr⟩, fun b hb => ?_, fun b hb => ⟨?_, (x.oh b hb).2⟩, ?_, fun j u hu => ?_, fun j k u u' b hjk hu hu' ou ou' => ?_, x.ph⟩, k2, k3, k1⟩
  · rw [upd_ne (ne_of_none hb k3)]; exact x.ex.hh b u hb nb
  · by_cases q : b = a
    · rw [q, upd_same]; exact fun z => nomatch z
    · rw [upd_ne q]; exact x.ex.dom b hb
  · obtain ⟨q1, q2, q3⟩ := x.bo b hb
    exact ⟨q1, q2.keep (upd_ne (nb b hb)), q3⟩
  · by_cases q : b = a
    · rw [q, upd_same]; exact fun z => nomatch z
    · rw [upd_ne q]; exact (x.oh b hb).1
  · show σ.length = (ε.s.set i z).length
    rw [List.length_set]; exact x.len
  · rcases get_set hu with ⟨rfl, rfl, hl⟩ | ⟨ne, hu1⟩
    · exact ⟨_, ha, h⟩
    · obtain ⟨o2, g1, g2⟩ := x.sl j u hu1
      refine ⟨o2, g1, ?_⟩
      cases u with
      | ow ds =>
        obtain ⟨b, ys, e1, e2, e3, e4, e5, e6⟩ := g2
        subst e1
        have ba : b ≠ a := fun q => x.di i j y (.ow ds) a ne hi hu1 hy rfl ha (by rw [g1, q])
        exact ⟨b, ys, rfl, e2, e3, e4, by rw [upd_ne ba]; exact e5, e6⟩
      | st S n =>
        obtain ⟨b, e1, e2, e3, e4, e5⟩ := g2
        subst e1
        have ba : b ≠ a := fun q => x.di i j y (.st S n) a ne hi hu1 hy rfl ha (by rw [g1, q])
        exact ⟨b, rfl, e2, e3, e4, by rw [upd_ne ba]; exact e5⟩
      | dco xs =>
        obtain ⟨b, e1, e2, e3, e4, e5, e6⟩ := g2
        subst e1
        have ba : b ≠ a := fun q => x.di i j y (.dco xs) a ne hi hu1 hy rfl ha (by rw [g1, q])
        exact ⟨b, rfl, e2, e3, e4, (let ⟨ob, k⟩ := e5; ⟨ob, by rw [upd_ne ba]; exact k⟩), e6⟩
      | sto M =>
        obtain ⟨b, A, e1, e2, e3, e4, e5, e6⟩ := g2
        subst e1
        have ba : b ≠ a := fun q => x.di i j y (.sto M) a ne hi hu1 hy rfl ha (by rw [g1, q])
        exact ⟨b, A, rfl, e2, e3, e4, by rw [upd_ne ba]; exact e5, e6⟩
      | _ => exact g2
  · have back : ∀ (j : Nat) (u : SV), (ε.set i z).s[j]? = some u → Own u = true → ∃ u', ε.s[j]? = some u' ∧ Own u' = true := fun j u hu ou => by
      rcases get_set hu with ⟨rfl, rfl, _⟩ | ⟨_, h⟩
      · exact ⟨y, hi, hy⟩
      · exact ⟨u, h, ou⟩
    obtain ⟨v, hv, ov⟩ := back j u hu ou
    obtain ⟨v', hv', ov'⟩ := back k u' hu' ou'
    exact x.di j k v v' b hjk hv hv' ov ov'
end
section
variable {w : Wx} {ta tb tc te : TE} {f g h : DTE} {t u : TS} {p q : DTS} {K : PySem.W.Frag}
def dAppend (i : Nat) (f : DTE)  (Δ : DEnds) (ε : Env) : Prop := match ε.s[i]? with
  | some (.ow _) => f ε fun r ε1 => match r.pub, ε1.s[i]? with
    | .sh d, some (.ow ds) => ds.length < sizeLine ∧ Δ.nx (ε1.set i (.ow (ds ++ [d])))
    | _, _ => False
  | _ => False
theorem ss_append {i : Nat} (hf : SE w te f) : SS w (tDrop (tBM K "list" rAppend (tVar i) (tCons te tNil))) (dAppend i f) := by
  constructor
  · intro Δ Δ' ε l z
    unfold dAppend at z ⊢
    split at z
    · refine hf.mono _ _ _ (fun r ε1 z => ?_) z
      split at z
      · exact ⟨z.1, l.nx _ z.2⟩
      · exact z.elim
    · exact z.elim
  · intro Z O σ ε L H D Δ X E z
    unfold dAppend at z
    split at z
    · rename_i ds0 h0
      obtain ⟨o, h1, a, xs, h2, h3, h4, h5, h6, h7⟩ := X.sl i _ h0
      subst h2
      refine ⟨.ref a, h1, .inl ⟨rfl, _, SqL.of h6⟩, ?_⟩
      refine hf.run Z O σ ε L H _ X (hf.mono _ _ _ (fun r ε1 z => ?_) z)
      intro v L1 H1 X1 e1 r1
      split at z
      · rename_i d ds hd hs
        obtain ⟨L2, X2, e2, r2⟩ := publ X1 e1 r1
        rw [hd] at r2
        obtain ⟨o', g1, b, ys, g2, g3, g4, g5, g6, g7⟩ := X2.sl i _ hs
        subst g2
        rw [h1] at g1
        cases g1
        refine ⟨a, ys, v, rfl, rfl, g6, by rw [g7.len]; exact z.1, ?_⟩
        have X3 := (X2.mut (o := .lst (ys ++ [v])) hs rfl h1 (z := .ow (ds ++ [d])) ⟨a, _, rfl, g3, g4, g5, upd_same, g7.app (.one r2)⟩).1
        exact E.nx _ _ _ _ _ X3 z.2
      · exact z.elim
    · exact z.elim
/-- xs.append(ys.pop(e)) -/
def dAppPop (i j : Nat) (f : DTE)  (Δ : DEnds) (ε : Env) : Prop := match ε.s[i]?, ε.s[j]? with
  | some (.ow _), some (.ow _) => f ε fun r ε1 => match r.dat, ε1.s[i]?, ε1.s[j]? with
    | some (.int k), some (.ow ds), some (.ow es) => 0 ≤ k ∧ k < (es.length : Int) ∧ es.length < 1000000 ∧ ds.length < sizeLine ∧ ∃ d, es[k.toNat]? = some d ∧ Δ.nx ((ε1.set j (.ow (es.eraseIdx k.toNat))).set i (.ow (ds ++ [d])))
    | _, _, _ => False
  | _, _ => False
theorem DVs.erase {H : Hp} : ∀ {vs : List V} {ds : List PyData} (n : Nat), DVs H vs ds → DVs H (vs.eraseIdx n) (ds.eraseIdx n)
  | _, _, _, .nil => .nil
  | _, _, 0, .cons a r => r
  | _, _, n + 1, .cons a r => .cons a (r.erase n)
theorem ss_appPop {i j : Nat} (hij : i ≠ j) (hf : SE w te f) : SS w (tDrop (tBM K "list" rAppend (tVar i) (tCons (tBM K "list" rPopAt (tVar j) (tCons te tNil)) tNil))) (dAppPop i j f) := by
  constructor
  · intro Δ Δ' ε l z
    unfold dAppPop at z ⊢
    split at z
    · refine hf.mono _ _ _ (fun r ε1 z => ?_) z
      split at z
      · obtain ⟨h1, h2, h3, h4, d, h5, h6⟩ := z
        exact ⟨h1, h2, h3, h4, d, h5, l.nx _ h6⟩
      · exact z.elim
    · exact z.elim
  · intro Z O σ ε L H D Δ X E z
    unfold dAppPop at z
    split at z
    · rename_i ds0 es0 h0 h0'
      obtain ⟨o, h1, a, xs, h2, h3, h4, h5, h6, h7⟩ := X.sl i _ h0
      subst h2
      obtain ⟨o', k1, b, zs, k2, k3, k4, k5, k6, k7⟩ := X.sl j _ h0'
      subst k2
      refine ⟨.ref a, h1, .inl ⟨rfl, _, SqL.of h6⟩, .ref b, k1, .inl ⟨rfl, _, SqL.of k6⟩, ?_⟩
      refine hf.run Z O σ ε L H _ X (hf.mono _ _ _ (fun r ε1 z => ?_) z)
      intro v L1 H1 X1 e1 r1
      split at z
      · rename_i k ds es hd hs hs'
        obtain ⟨m1, m2, m3, m4, d, m5, m6⟩ := z
        cases (r1.vl hd).int
        obtain ⟨_, g1, _, ys, g2, g3, g4, g5, g6, g7⟩ := X1.sl i _ hs
        subst g2
        rw [h1] at g1
        cases g1
        obtain ⟨_, f1, _, us, f2, f3, f4, f5, f6, f7⟩ := X1.sl j _ hs'
        subst f2
        rw [k1] at f1
        cases f1
        have ab : a ≠ b := fun q => X1.di i j _ _ a hij hs hs' rfl rfl h1 (by rw [k1, q])
        obtain ⟨u, hu, du⟩ := f7.get m5
        have hl := f7.len
        refine ⟨b, us, k, k.toNat, u, rfl, rfl, f6, by omega, by omega, ?_, hu, ?_⟩
        · refine (ixN_seq (n := us.length) (i := k) (j := k.toNat) ?_).1
          unfold ixN
          rw [if_pos m1, if_pos (by omega)]
        · have X2 := (X1.mut (o := .lst (us.eraseIdx k.toNat)) hs' rfl k1 (z := .ow (es.eraseIdx k.toNat)) ⟨b, _, rfl, f3, f4, f5, upd_same, f7.erase _⟩).1
          have hs2 : (ε1.set j (.ow (es.eraseIdx k.toNat))).s[i]? = some (.ow ds) := by
            show (ε1.s.set j _)[i]? = _
            rw [List.getElem?_set, if_neg (Ne.symm hij)]; exact hs
          refine ⟨a, ys, u, rfl, rfl, by rw [upd_ne ab]; exact g6, by rw [g7.len]; exact m4, ?_⟩
          have X3 := (X2.mut (o := .lst (ys ++ [u])) hs2 rfl h1 (z := .ow (ds ++ [d])) ⟨a, _, rfl, g3, g4, g5, upd_same, g7.app (.one du)⟩).1
          exact E.nx _ _ _ _ _ X3 m6
      · exact z.elim
    · exact z.elim
/-- xs[e] = e' -/
def dSetIx (i : Nat) (f g : DTE)  (Δ : DEnds) (ε : Env) : Prop := f ε fun r ε1 => match r.pub with
  | .sh d => match ε1.s[i]? with
    | some (.ow _) => g ε1 fun k ε2 => match k.dat, ε2.s[i]? with
      | some (.int j), some (.ow ds) => ∃ m, ixN ds.length j = some m ∧ Δ.nx (ε2.set i (.ow (ds.set m d)))
      | _, _ => False
    | _ => False
  | _ => False
theorem ss_setIx {i : Nat} (hf : SE w ta f) (hg : SE w tb g) : SS w (tAsg ta (gSub (tVar i) tb rSetL)) (dSetIx i f g) := by
  constructor
  · intro Δ Δ' ε l z
    refine hf.mono _ _ _ (fun r ε1 z => ?_) z
    split at z
    · split at z
      · refine hg.mono _ _ _ (fun k ε2 z => ?_) z
        split at z
        · obtain ⟨m, h1, h2⟩ := z
          exact ⟨m, h1, l.nx _ h2⟩
        · exact z.elim
      · exact z.elim
    · exact z.elim
  · intro Z O σ ε L H D Δ X E z
    refine hf.run Z O σ ε L H _ X (hf.mono _ _ _ (fun r ε1 z => ?_) z)
    intro v L1 H1 X1 e1 r1
    split at z
    · rename_i d hd
      obtain ⟨L2, X2, e2, r2⟩ := publ X1 e1 r1
      rw [hd] at r2
      split at z
      · rename_i ds0 h0
        obtain ⟨o, h1, a, xs, h2, _⟩ := X2.sl i _ h0
        subst h2
        refine ⟨.ref a, h1, ?_⟩
        refine hg.run Z O σ ε1 L2 H1 _ X2 (hg.mono _ _ _ (fun k ε2 z => ?_) z)
        intro u L3 H3 X3 e3 r3
        split at z
        · rename_i j ds hj hs
          obtain ⟨m, m1, m2⟩ := z
          cases (r3.vl hj).int
          obtain ⟨_, g1, b, ys, g2, g3, g4, g5, g6, g7⟩ := X3.sl i _ hs
          subst g2
          rw [h1] at g1
          cases g1
          refine ⟨a, ys, j, m, rfl, rfl, g6, by rw [g7.len]; exact m1, ?_⟩
          have X4 := (X3.mut (o := .lst (ys.set m v)) hs rfl h1 (z := .ow (ds.set m d)) ⟨a, _, rfl, g3, g4, g5, upd_same, DVs.set (DV.to r2 e3.ll) m g7⟩).1
          exact E.nx _ _ _ _ _ X4 m2
        · exact z.elim
      · exact z.elim
    · exact z.elim
/-- xs += e, xs an own list -/
def dExt (i : Nat) (f : DTE)  (Δ : DEnds) (ε : Env) : Prop := match ε.s[i]? with
  | some (.ow _) => f ε fun r ε1 => match r.dat, ε1.s[i]? with
    | some (.list es), some (.ow ds) => ds.length + es.length ≤ sizeLine ∧ Δ.nx (ε1.set i (.ow (ds ++ es)))
    | _, _ => False
  | _ => False
/-- x op= e -/
def dAug (φ : PyData → PyData → (R → Prop) → Prop) (i : Nat) (f : DTE)  (Δ : DEnds) (ε : Env) : Prop := match ε.s[i]? with
  | some (.sh a) => f ε fun r ε1 => match r.dat with
    | some b => φ a b fun q => match val false q with
      | some y => Δ.nx (ε1.set i y)
      | none => False
    | none => False
  | _ => False
def dSet0 (i : Nat)  (Δ : DEnds) (ε : Env) : Prop := Δ.nx (ε.set i (.st (fun _ => false) 0))
theorem ss_set0 {i : Nat} : SS w (tAsg (tCB (rSet0 w) tNil) (gName i)) (dSet0 i) := by
  constructor
  · intro Δ Δ' ε l z
    exact l.nx _ z
  · intro Z O σ ε L H D Δ X E z
    refine ⟨rfl, fun a na => ?_⟩
    have e1 : Ext none L H L (upd H a (SetO w a (fun _ => false) 0)) := Ext.own na
    have X1 := X.step e1 (same_own X.lh (X.lh.free na))
    have n0 : Z.H0 a = none := X.ex.free na
    have nO : ¬ O a := fun o => (X.oh a o).1 na
    refine E.nx (fun b => O b ∨ b = a) _ _ _ _ (X1.put0 (i := i) (v := .ref a) (fun b => O b ∨ b = a) (fun b h => .inl h) (fun b hb => ?_) (y := .st (fun _ => false) 0) ⟨a, rfl, .inr rfl, X.lh.free na, n0, upd_same⟩ (fun _ b e => by cases e; exact nO)) z
    rcases hb with hb | rfl
    · exact X1.oh b hb
    · exact ⟨by rw [upd_same]; exact (fun z => nomatch z), n0⟩
def dSAdd (i : Nat) (f : DTE)  (Δ : DEnds) (ε : Env) : Prop := match ε.s[i]? with
  | some (.st _ _) => f ε fun r ε1 => match r.dat, ε1.s[i]? with
    | some (.int k), some (.st S n) => n + 1 < scanBound ∧ Δ.nx (ε1.set i (.st (fun j => S j || decide (j = k)) (if S k = true then n else n + 1)))
    | _, _ => False
  | _ => False
theorem ss_sadd {i : Nat} (hf : SE w te f) : SS w (tDrop (tSAdd w (tVar i) (tCons te tNil))) (dSAdd i f) := by
  constructor
  · intro Δ Δ' ε l z
    unfold dSAdd at z ⊢
    split at z
    · refine hf.mono _ _ _ (fun r ε1 z => ?_) z
      split at z
      · exact ⟨z.1, l.nx _ z.2⟩
      · exact z.elim
    · exact z.elim
  · intro Z O σ ε L H D Δ X E z
    unfold dSAdd at z
    split at z
    · rename_i S0 n0 h0
      obtain ⟨o, h1, a, h2, h3, h4, h5, h6⟩ := X.sl i _ h0
      subst h2
      refine ⟨.ref a, h1, ⟨a, S0, n0, rfl, h6⟩, ?_⟩
      refine hf.run Z O σ ε L H _ X (hf.mono _ _ _ (fun r ε1 z => ?_) z)
      intro v L1 H1 X1 e1 r1
      split at z
      · rename_i k S n hd hs
        cases (r1.vl hd).int
        obtain ⟨_, g1, _, g2, g3, g4, g5, g6⟩ := X1.sl i _ hs
        subst g2
        rw [h1] at g1
        cases g1
        refine ⟨a, k, S, n, rfl, rfl, g6, z.1, ?_⟩
        have X3 := (X1.mut (o := SetO w a (fun j => S j || decide (j = k)) (if S k = true then n else n + 1)) hs rfl h1 (z := .st (fun j => S j || decide (j = k)) (if S k = true then n else n + 1)) ⟨a, rfl, g3, g4, g5, upd_same⟩).1
        exact E.nx _ _ _ _ _ X3 z.2
      · exact z.elim
    · exact z.elim
def dSNotIn (f g : DTE)  (ε : Env) (Q : R → Env → Prop) : Prop := f ε fun x ε1 => g ε1 fun y ε2 => match x.dat, y with
  | some (.int k), .sr _ S _ => Q (.sh (.bool (!S k))) ε2
  | _, _ => False
theorem se_snotin (hf : SE w ta f) (hg : SE w tb g) : SE w (tOp (rSNotIn w) ta tb) (dSNotIn f g) := by
  constructor
  · intro ε A B h q
    refine hf.mono _ _ _ (fun x ε1 q => hg.mono _ _ _ (fun y ε2 q => ?_) q) q
    split at q
    · exact h _ _ q
    · exact q.elim
  · intro Z O σ ε L H Q X q
    refine hf.run Z O σ ε L H _ X (hf.mono _ _ _ (fun x ε1 q => ?_) q)
    intro v L1 H1 X1 e1 r1
    refine hg.run Z O σ ε1 L1 H1 _ X1 (hg.mono _ _ _ (fun y ε2 q => ?_) q)
    intro u L2 H2 X2 e2 r2
    split at q
    · rename_i k i S n ex
      obtain ⟨a, rfl, h1, h2, h3, h4, h5⟩ := r2
      cases ((r1.mono X1 e2).vl ex).int
      exact ⟨k, a, S, n, rfl, rfl, h5, q _ L2 H2 X2 (e1.trans e2) (.bl _)⟩
    · exact q.elim
end
end Lp

namespace Lp
open PySem PySem.Spec PyProof.Rows L2
/-- a list or a tuple -/
def iSeq (K : PySem.W.Frag) (tl : TE) : TI := fun σ H R => tl σ H fun x H1 => ∃ a, x = .ref a ∧ (((∃ xs, SqL K H1 a xs) ∧ R (Itl K a) H1) ∨ ((∃ xs, SqT K H1 a xs) ∧ R (Itt K a) H1))
theorem pi_seq {X : Cx} {tg o : Expr} {to : TE} (ho : PE X o to) : PI X tg o (iSeq X.K to) := by
  constructor
  intro pins s σ H R I want
  refine thn (ho.run pins s σ H _ I want) ?_
  rintro u s' ⟨_, H', J, rel, a, rfl, ways⟩
  cases rel
  have fp : ∀ b ∈ [s'.heap.objs.size], FpOk X pins H' b := fun b hb => by
    cases List.mem_singleton.mp hb
    exact J.fpOk (Nat.le_refl _) (J.hok.fresh (Nat.le_refl _))
  rcases ways with ⟨⟨xs, at_a⟩, go⟩ | ⟨⟨xs, at_a⟩, go⟩
  · obtain ⟨vals, _, lst, _⟩ := J.list at_a
    refine wpAny_pyIter_list lst.isList ⟨s'.heap.objs.size, [s'.heap.objs.size], _, _, H', rfl, ?_, turn_list a _, ⟨_, Heap.get?_push_size _ rfl, rfl, rfl⟩, fp, go⟩
    exact J.kept (t' := s'.toks) fun _ _ q => Heap.get?_push_of_some _ q
  · obtain ⟨vals, _, tup, _⟩ := J.tuple at_a
    have tup' : s'.heap.IsTuple a vals.toArray := tup
    refine wpAny_pyIter_tuple tup' ⟨s'.heap.objs.size, [s'.heap.objs.size], _, _, H', rfl, ?_, turn_tuple a _, ⟨_, Heap.get?_push_size _ rfl, rfl, rfl⟩, fp, go⟩
    exact J.kept (t' := s'.toks) fun _ _ q => Heap.get?_push_of_some _ q
/-- the items, while what is walked stands still -/
structure WalkS (pk : Bool) (L : Hp) (J : It) (ds : List PyData) : Prop where
  go : ∀ i L' H', Same L L' → Same L' H' → i < ds.length → J.go i H'
  stop : ∀ L' H', Same L L' → Same L' H' → J.stop ds.length H'
  yld : ∀ (i : Nat) d L' H' x H2, Same L L' → Same L' H' → ds[i]? = some d → J.yld i H' x H2 → ∃ L2, Ext none L' H' L2 H2 ∧ Same L2 H2 ∧ VI pk L2 H2 x d
structure WalkE (pk : Bool) (b : Option Addr) (L H : Hp) (J : It) (ds : List PyData) : Prop where
  go : ∀ i L' H', Ext b L H L' H' → Same L' H' → i < ds.length → J.go i H'
  stop : ∀ L' H', Ext b L H L' H' → Same L' H' → J.stop ds.length H'
  yld : ∀ (i : Nat) d L' H' x H2, Ext b L H L' H' → Same L' H' → ds[i]? = some d → J.yld i H' x H2 → ∃ L2, Ext none L' H' L2 H2 ∧ Same L2 H2 ∧ VI pk L2 H2 x d
theorem WalkS.e {pk : Bool} {b : Option Addr} {L H : Hp} {J : It} {ds : List PyData} (x : WalkS pk L J ds) : WalkE pk b L H J ds :=
  ⟨fun i L' H' e s h => x.go i L' H' e.ll s h, fun L' H' e s => x.stop L' H' e.ll s, fun i d L' H' y H2 e s h => x.yld i d L' H' y H2 e.ll s h⟩
abbrev DTI := Env → (List PyData → Bool → Env → Prop) → Prop
structure SI (w : Wx) (pk : Bool) (t : TI) (f : DTI) : Prop where
  mono : ∀ ε (A B : List PyData → Bool → Env → Prop), (∀ r b ε', A r b ε' → B r b ε') → f ε A → f ε B
  run : ∀ (Z : Zx) (O : Addr → Prop) (σ : L2.St) (ε : Env) (L H : Hp) (R : It → Hp → Prop), Rep w Z O L H σ ε → f ε (fun ds fl ε' => ∀ J L' H', Rep w Z O L' H' σ ε' → Ext Z.b L H L' H' → WalkE pk Z.b L' H' J ds → (fl = true → WalkS pk L' J ds) → R J H') → t σ H R
section
variable {w : Wx} {K : PySem.W.Frag} {ta tb te : TE} {f g : DTE}
theorem walkS_list {L : Hp} {a : Addr} {xs : List V} {ds : List PyData} (h : L a = some (.lst xs)) (r : DVs L xs ds) : WalkS false L (Itl K a) ds := by
  have hl := r.len
  refine ⟨fun i L' H' s1 s2 hi => ?_, fun L' H' s1 s2 => ?_, fun i d L' H' x H2 s1 s2 hd y => ?_⟩
  · exact ⟨xs, xs[i]'(by omega), SqL.of (s2 _ _ (s1 _ _ h)), List.getElem?_eq_getElem (by omega)⟩
  · exact ⟨xs, SqL.of (s2 _ _ (s1 _ _ h)), by omega⟩
  · obtain ⟨rfl, y2⟩ := y
    have hx := y2 xs (SqL.of (s2 _ _ (s1 _ _ h)))
    obtain ⟨v, h1, h2⟩ := r.get hd
    rw [hx] at h1
    cases h1
    exact ⟨L', Ext.refl _ _ _, s2, h2.to s1⟩
theorem walkS_tup {L : Hp} {a : Addr} {xs : List V} {ds : List PyData} (h : Sol L a xs) (r : DVs L xs ds) : WalkS false L (Itt K a) ds := by
  have hl := r.len
  refine ⟨fun i L' H' s1 s2 hi => ?_, fun L' H' s1 s2 => ?_, fun i d L' H' x H2 s1 s2 hd y => ?_⟩
  · exact ⟨xs, xs[i]'(by omega), ((h.to s1).to s2).seq, List.getElem?_eq_getElem (by omega)⟩
  · exact ⟨xs, ((h.to s1).to s2).seq, by omega⟩
  · obtain ⟨rfl, y2⟩ := y
    have hx := y2 xs (((h.to s1).to s2).seq)
    obtain ⟨v, h1, h2⟩ := r.get hd
    rw [hx] at h1
    cases h1
    exact ⟨L', Ext.refl _ _ _, s2, h2.to s1⟩
theorem walkE_list {b : Option Addr} {L H : Hp} {a : Addr} {xs : List V} {ds : List PyData} (hb : b ≠ some a) (h : H a = some (.lst xs)) (r : DVs L xs ds) : WalkE false b L H (Itl K a) ds := by
  have hl := r.len
  refine ⟨fun i L' H' e s2 hi => ?_, fun L' H' e s2 => ?_, fun i d L' H' x H2 e s2 hd y => ?_⟩
  · exact ⟨xs, xs[i]'(by omega), SqL.of (e.hh _ _ h hb), List.getElem?_eq_getElem (by omega)⟩
  · exact ⟨xs, SqL.of (e.hh _ _ h hb), by omega⟩
  · obtain ⟨rfl, y2⟩ := y
    have hx := y2 xs (SqL.of (e.hh _ _ h hb))
    obtain ⟨v, h1, h2⟩ := r.get hd
    rw [hx] at h1
    cases h1
    exact ⟨L', Ext.refl _ _ _, s2, h2.to e.ll⟩
def dIter (f : DTE)  (ε : Env) (Q : List PyData → Bool → Env → Prop) : Prop := f ε fun r ε1 => match r.pub with
  | .sh (.list ds) => Q ds true ε1
  | .sh (.tuple ds) => Q ds true ε1
  | .br _ ds => Q ds false ε1
  | _ => False
theorem si_seq (hf : SE w ta f) : SI w false (iSeq K ta) (dIter f) := by
  constructor
  · intro ε A B h q
    refine hf.mono _ _ _ (fun r ε1 q => ?_) q
    split at q
    · exact h _ _ _ q
    · exact h _ _ _ q
    · exact h _ _ _ q
    · exact q.elim
  · intro Z O σ ε L H R X q
    refine hf.run Z O σ ε L H _ X (hf.mono _ _ _ (fun r ε1 q => ?_) q)
    intro v L1 H1 X1 e1 r1
    obtain ⟨L2, X2, e2, r2⟩ := publ X1 e1 r1
    split at q
    · rename_i ds hd
      rw [hd] at r2
      cases (show DV L2 v (.list ds) from r2) with
      | lst h1 h2 =>
        have W := walkS_list (K := K) h1 h2
        exact ⟨_, rfl, .inl ⟨⟨_, SqL.of (X2.lh _ _ h1)⟩, q _ L2 H1 X2 e2 W.e fun _ => W⟩⟩
    · rename_i ds hd
      rw [hd] at r2
      cases (show DV L2 v (.tuple ds) from r2) with
      | tup h1 h2 =>
        have W := walkS_tup (K := K) h1 h2
        exact ⟨_, rfl, .inr ⟨⟨_, (h1.to X2.lh).seq⟩, q _ L2 H1 X2 e2 W.e fun _ => W⟩⟩
    · rename_i i ds hd
      rw [hd] at r2
      obtain ⟨a, xs, rfl, h1, h2, h3, h4, h5, h6⟩ := r2
      exact ⟨a, rfl, .inl ⟨⟨_, SqL.of h5⟩, q _ L2 H1 X2 e2 (walkE_list (X2.nob h3) h5 h6) (fun z => nomatch z)⟩⟩
    · exact q.elim
/-- the ints from lo on, n of them -/
def rgD (lo : Int) (n : Nat) : List PyData := (List.range n).map fun i => .int (lo + (i : Nat))
theorem rgD_len (lo : Int) (n : Nat) : (rgD lo n).length = n := by unfold rgD; rw [List.length_map, List.length_range]
theorem rgD_get {lo : Int} {n i : Nat} {d : PyData} (h : (rgD lo n)[i]? = some d) : i < n ∧ d = .int (lo + (i : Nat)) := by
  have hi : i < n := by
    have := (List.getElem?_eq_some_iff.mp h).1
    rwa [rgD_len] at this
  unfold rgD at h
  rw [List.getElem?_map, List.getElem?_range hi] at h
  cases h
  exact ⟨hi, rfl⟩
theorem walkS_rg {L : Hp} {lo : Int} {n : Nat} : WalkS false L (Itr lo n) (rgD lo n) := by
  refine ⟨fun i L' H' s1 s2 hi => ?_, fun L' H' s1 s2 => ?_, fun i d L' H' x H2 s1 s2 hd y => ?_⟩
  · rw [rgD_len] at hi; exact hi
  · rw [rgD_len]; exact Nat.le_refl n
  · obtain ⟨rfl, rfl⟩ := y
    obtain ⟨_, rfl⟩ := rgD_get hd
    exact ⟨L', Ext.refl _ _ _, s2, .int _⟩
def dRng1 (f : DTA)  (ε : Env) (Q : List PyData → Bool → Env → Prop) : Prop := f ε fun rs ε1 => match rs with
  | [.sh (.int j)] => (-(2 ^ 62) ≤ j ∧ j < 2 ^ 62) ∧ Q (rgD 0 j.toNat) true ε1
  | _ => False
theorem si_rng1 {n : Nat} {t : TA} {f : DTA} (hf : SA w n t f) : SI w false (iRng1 t) (dRng1 f) := by
  constructor
  · intro ε A B h q
    refine hf.mono _ _ _ (fun r ε1 q => ?_) q
    split at q
    · exact ⟨q.1, h _ _ _ q.2⟩
    · exact q.elim
  · intro Z O σ ε L H R X q
    refine hf.run Z O σ ε L H _ X (hf.mono _ _ _ (fun r ε1 q => ?_) q)
    intro vs L1 H1 X1 e1 r1 hl np
    split at q
    · rename_i j
      cases r1 with
      | cons r1 r2 =>
        cases r2
        cases (show DV L1 _ (.int j) from r1)
        exact ⟨j, rfl, q.1.1, q.1.2, q.2 _ L1 H1 X1 e1 walkS_rg.e fun _ => walkS_rg⟩
    · exact q.elim
def dRng2 (f : DTA)  (ε : Env) (Q : List PyData → Bool → Env → Prop) : Prop := f ε fun rs ε1 => match rs with
  | [.sh (.int i), .sh (.int j)] => (-(2 ^ 62) ≤ i ∧ i < 2 ^ 62 ∧ -(2 ^ 62) ≤ j ∧ j < 2 ^ 62) ∧ Q (rgD i (j - i).toNat) true ε1
  | _ => False
theorem si_rng2 {n : Nat} {t : TA} {f : DTA} (hf : SA w n t f) : SI w false (iRng2 t) (dRng2 f) := by
  constructor
  · intro ε A B h q
    refine hf.mono _ _ _ (fun r ε1 q => ?_) q
    split at q
    · exact ⟨q.1, h _ _ _ q.2⟩
    · exact q.elim
  · intro Z O σ ε L H R X q
    refine hf.run Z O σ ε L H _ X (hf.mono _ _ _ (fun r ε1 q => ?_) q)
    intro vs L1 H1 X1 e1 r1 hl np
    split at q
    · rename_i i j
      cases r1 with
      | cons r1 r2 =>
        cases r2 with
        | cons r2 r3 =>
          cases r3
          cases (show DV L1 _ (.int i) from r1)
          cases (show DV L1 _ (.int j) from r2)
          exact ⟨i, j, rfl, q.1, q.2 _ L1 H1 X1 e1 walkS_rg.e fun _ => walkS_rg⟩
    · exact q.elim
end
abbrev DTG := PyData → Env → (Env → Prop) → Prop
/-- but for the slots js all is as it was -/
def But (js : List Nat) (σ σ' : L2.St) : Prop := σ'.length = σ.length ∧ ∀ i : Nat, i ∉ js → σ'[i]? = σ[i]?
structure SG (w : Wx) (pk : Bool) (js : List Nat) (g : TG) (γ : DTG) : Prop where
  mono : ∀ d ε (A B : Env → Prop), (∀ ε', A ε' → B ε') → γ d ε A → γ d ε B
  run : ∀ (Z : Zx) (O : Addr → Prop) (σ : L2.St) (ε : Env) (L H : Hp) (v : V) (d : PyData) (Q : L2.St → Hp → Prop), Rep w Z O L H σ ε → VI pk L H v d → γ d ε (fun ε' => ∀ σ', Rep w Z O L H σ' ε' → But js σ σ' → Q σ' H) → g v σ H Q
abbrev DTGs := List PyData → Env → (Env → Prop) → Prop
structure SGs (w : Wx) (js : List Nat) (g : TGs) (γ : DTGs) : Prop where
  mono : ∀ d ε (A B : Env → Prop), (∀ ε', A ε' → B ε') → γ d ε A → γ d ε B
  run : ∀ (Z : Zx) (O : Addr → Prop) (σ : L2.St) (ε : Env) (L H : Hp) (v : List V) (d : List PyData) (Q : L2.St → Hp → Prop), Rep w Z O L H σ ε → DVs L v d → γ d ε (fun ε' => ∀ σ', Rep w Z O L H σ' ε' → But js σ σ' → Q σ' H) → g v σ H Q
section
variable {w : Wx} {K : PySem.W.Frag}
def dName (i : Nat)  (d : PyData) (ε : Env) (Q : Env → Prop) : Prop := Q (ε.set i (.sh d))
theorem sg_name {i : Nat} : SG w false [i] (gName i) (dName i) := ⟨fun _ _ _ _ h q => h _ q, fun Z O σ ε L H v d Q X r q => q _ (X.sh r) ⟨List.length_set, fun j hj => by
  rw [List.getElem?_set, if_neg (fun e => hj (by rw [e]; exact List.mem_singleton.mpr rfl))]⟩⟩
def dGNil  (ds : List PyData) (ε : Env) (Q : Env → Prop) : Prop := match ds with
  | [] => Q ε
  | _ => False
def dGCons (γ : DTG) (γs : DTGs)  (ds : List PyData) (ε : Env) (Q : Env → Prop) : Prop := match ds with
  | d :: ds => γ d ε fun ε1 => γs ds ε1 Q
  | _ => False
theorem sgs_nil : SGs w [] gNil dGNil := by
  constructor
  · intro ds ε A B h q
    cases ds with
    | nil => exact h _ q
    | cons _ _ => exact q.elim
  · intro Z O σ ε L H v d Q X r q
    cases r with
    | nil => exact ⟨rfl, q _ X ⟨rfl, fun _ _ => rfl⟩⟩
    | cons _ _ => exact q.elim
theorem sgs_cons {g : TG} {gs : TGs} {γ : DTG} {γs : DTGs} {js ks : List Nat} (hg : SG w false js g γ) (hs : SGs w ks gs γs) : SGs w (js ++ ks) (gCons g gs) (dGCons γ γs) := by
  constructor
  · intro ds ε A B h q
    cases ds with
    | nil => exact q.elim
    | cons d ds => exact hg.mono _ _ _ _ (fun ε1 q => hs.mono _ _ _ _ h q) q
  · intro Z O σ ε L H v d Q X r q
    cases r with
    | nil => exact q.elim
    | cons r rr =>
      refine ⟨_, _, rfl, hg.run Z O σ ε L H _ _ _ X r (hg.mono _ _ _ _ (fun ε1 q σ1 X1 b1 => ?_) q)⟩
      refine hs.run Z O σ1 ε1 L H _ _ _ X1 rr (hs.mono _ _ _ _ (fun ε2 q σ2 X2 b2 => ?_) q)
      exact q σ2 X2 ⟨b2.1.trans b1.1, fun i hi => (b2.2 i fun h => hi (List.mem_append_right _ h)).trans (b1.2 i fun h => hi (List.mem_append_left _ h))⟩
def dGTup (n : Nat) (γs : DTGs)  (d : PyData) (ε : Env) (Q : Env → Prop) : Prop := match d with
  | .tuple ds => ds.length = n ∧ γs ds ε Q
  | _ => False
theorem sg_tup {pk : Bool} {n : Nat} {gs : TGs} {γs : DTGs} {js : List Nat} (hs : SGs w js gs γs) : SG w pk js (gTup K n gs) (dGTup n γs) := by
  constructor
  · intro d ε A B h q
    cases d with
    | tuple ds => exact ⟨q.1, hs.mono _ _ _ _ h q.2⟩
    | _ => exact q.elim
  · intro Z O σ ε L H v d Q X r q
    have solid : DV L v d → gTup K n gs v σ H Q := fun r => by
      cases r with
      | tup h1 h2 => exact ⟨_, _, rfl, (h1.to X.lh).seq, by rw [h2.len]; exact q.1, hs.run Z O σ ε L H _ _ _ X h2 q.2⟩
      | _ => exact q.elim
    cases pk with
    | false => exact solid r
    | true =>
      rcases r with r | ⟨a, xs, ds, rfl, rfl, h1, h2⟩
      · exact solid r
      · exact ⟨_, _, rfl, SqT.of h1, by rw [h2.len]; exact q.1, hs.run Z O σ ε L H _ _ _ X h2 q.2⟩
variable {ta : TE} {f : DTE}
def dAsg (f : DTE) (γ : DTG)  (Δ : DEnds) (ε : Env) : Prop := f ε fun r ε1 => match r.pub with
  | .sh d => γ d ε1 Δ.nx
  | _ => False
def forD (γ : DTG) (p : DTS) (Δ : DEnds) : List PyData → Env → Prop
  | [], ε => Δ.nx ε
  | d :: ds, ε => γ d ε fun ε1 => p { nx := forD γ p Δ ds, rt := Δ.rt, bk := Δ.nx, ct := forD γ p Δ ds } ε1
def dFor (i : DTI) (γ : DTG) (p : DTS)  (Δ : DEnds) (ε : Env) : Prop := i ε fun ds fl ε1 => fl = true ∧ forD γ p Δ ds ε1
/-- what is known of the pinned view may be forgotten -/
theorem Rep.unpin {Z : Zx} {O : Addr → Prop} {σ : L2.St} {ε : Env} {L H P : Hp} (h : Same Z.P P) (ph : w.Φ Z) (x : Rep w { Z with P := P } O L H σ ε) : Rep w Z O L H σ ε :=
  ⟨x.lh, h.trans x.pn, x.ex, x.bo, x.oh, x.len, x.sl, x.di, ph⟩
theorem Rep.pin {Z : Zx} {O : Addr → Prop} {σ : L2.St} {ε : Env} {L H P : Hp} (h0 : Same Z.P P) (h : Same P L) (x : Rep w Z O L H σ ε) : Rep w { Z with P := P } O L H σ ε :=
  ⟨x.lh, h, x.ex, x.bo, x.oh, x.len, x.sl, x.di, w.up _ _ h0 x.ph⟩
theorem forD_mono {pk : Bool} {γ : DTG} {p : DTS} {t : TS} {g : TG} {js : List Nat} (hg : SG w pk js g γ) (hp : SS w t p) {Δ Δ' : DEnds} (l : DEnds.le Δ Δ') : ∀ (ds : List PyData) (ε : Env), forD γ p Δ ds ε → forD γ p Δ' ds ε
  | [], ε, z => l.nx ε z
  | d :: ds, ε, z => hg.mono _ _ _ _ (fun ε1 z => hp.mono { nx := forD γ p Δ ds, rt := Δ.rt, bk := Δ.nx, ct := forD γ p Δ ds } _ ε1 ⟨forD_mono hg hp l ds, l.rt, l.nx, forD_mono hg hp l ds⟩ z) z
theorem ss_for {pk : Bool} {wi : TI} {i : DTI} {g : TG} {γ : DTG} {t : TS} {p : DTS} {js : List Nat} (hi : SI w pk wi i) (hg : SG w pk js g γ) (hp : SS w t p) : SS w (tFor wi g t) (dFor i γ p) := by
  constructor
  · intro Δ Δ' ε l z
    exact hi.mono _ _ _ (fun ds b ε1 z => ⟨z.1, forD_mono hg hp l ds ε1 z.2⟩) z
  · intro Z O σ ε L H D Δ X E z
    refine hi.run Z O σ ε L H _ X (hi.mono _ _ _ (fun ds b ε1 z => ?_) z)
    intro J L1 H1 X1 e1 _ W
    obtain ⟨hb, z⟩ := z
    have W := W hb
    have sP := X1.pn
    refine ⟨fun i m σ H => i + m = ds.length ∧ ∃ O L ε, Rep w { Z with P := L1 } O L H σ ε ∧ forD γ p Δ (ds.drop i) ε, ⟨ds.length, by omega, O, L1, ε1, X1.pin X1.pn (Same.refl _), by rw [List.drop_zero]; exact z⟩, ?_⟩
    rintro i m σ2 H2 ⟨him, O2, L2, ε2, X2, z2⟩
    by_cases hlt : i < ds.length
    · refine .inr ⟨W.go i L2 H2 X2.pn X2.lh hlt, fun σ' H' => ∃ O L ε, Rep w { Z with P := L1 } O L H' σ' ε ∧ forD γ p Δ (ds.drop (i + 1)) ε, fun σ' H' q => ⟨m - 1, by omega, by omega, q⟩, fun x H' y => ?_⟩
      have hd : ds[i]? = some ds[i] := List.getElem?_eq_getElem hlt
      rw [List.drop_eq_getElem_cons hlt] at z2
      obtain ⟨L3, e3, s3, r3⟩ := W.yld i ds[i] L2 H2 x H' X2.pn X2.lh hd y
      have X3 := X2.step e3 s3
      refine hg.run _ O2 σ2 ε2 L3 H' x ds[i] _ X3 r3 (hg.mono _ _ _ _ (fun ε3 z3 σ3 X4 _ => ?_) z2)
      refine hp.run _ O2 σ3 ε3 L3 H' _ { nx := forD γ p Δ (ds.drop (i + 1)), rt := Δ.rt, bk := Δ.nx, ct := forD γ p Δ (ds.drop (i + 1)) } X4 ⟨fun O σ ε L H X z => ⟨O, L, ε, X, z⟩, fun O σ ε L H v r X q z => E.rt O σ ε L H v r (X.unpin sP X1.ph) q z, fun O σ ε L H X z => E.nx O σ ε L H (X.unpin sP X1.ph) z, fun O σ ε L H X z => ⟨O, L, ε, X, z⟩⟩ z3
    · have e : i = ds.length := by omega
      subst e
      rw [List.drop_length] at z2
      exact .inl ⟨W.stop L2 H2 X2.pn X2.lh, E.nx O2 σ2 ε2 L2 H2 (X2.unpin sP X1.ph) z2⟩
def whileN (c : DTT) (p : DTS) (Δ : DEnds) : Nat → Env → Prop
  | 0, _ => False
  | n + 1, ε => c ε fun b ε1 => if b = true then p { nx := whileN c p Δ n, rt := Δ.rt, bk := Δ.nx, ct := whileN c p Δ n } ε1 else Δ.nx ε1
def dWhile (c : DTT) (p : DTS)  (Δ : DEnds) (ε : Env) : Prop := ∃ n, whileN c p Δ n ε
theorem whileN_mono {c : DTT} {p : DTS} {tc : TT} {t : TS} (hc : ST w tc c) (hp : SS w t p) {Δ Δ' : DEnds} (l : DEnds.le Δ Δ') : ∀ (n : Nat) (ε : Env), whileN c p Δ n ε → whileN c p Δ' n ε
  | 0, ε, z => z
  | n + 1, ε, z => by
    refine hc.mono _ _ _ (fun b ε1 z => ?_) z
    cases b with
    | true => exact iteT (hp.mono { nx := whileN c p Δ n, rt := Δ.rt, bk := Δ.nx, ct := whileN c p Δ n } _ ε1 ⟨whileN_mono hc hp l n, l.rt, l.nx, whileN_mono hc hp l n⟩ (by rw [if_pos rfl] at z; exact z))
    | false => exact iteF (l.nx _ (by rw [if_neg Bool.false_ne_true] at z; exact z))
theorem ss_while {c : DTT} {p : DTS} {tc : TT} {t : TS} (hc : ST w tc c) (hp : SS w t p) : SS w (tWhile tc t) (dWhile c p) := by
  constructor
  · rintro Δ Δ' ε l ⟨n, z⟩
    exact ⟨n, whileN_mono hc hp l n ε z⟩
  · rintro Z O σ ε L H D Δ X E ⟨n, z⟩
    refine ⟨fun m σ H => ∃ O L ε, Rep w Z O L H σ ε ∧ whileN c p Δ m ε, ⟨n, O, L, ε, X, z⟩, ?_⟩
    rintro m σ1 H1 ⟨O1, L1, ε1, X1, z1⟩
    cases m with
    | zero => exact z1.elim
    | succ m =>
      refine hc.run Z O1 σ1 ε1 L1 H1 _ X1 (hc.mono _ _ _ (fun b ε2 z2 => ?_) z1)
      intro L2 H2 X2 e2
      cases b with
      | true =>
        rw [if_pos rfl] at z2
        refine iteT ⟨fun σ' H' => ∃ O L ε, Rep w Z O L H' σ' ε ∧ whileN c p Δ m ε, fun σ' H' q => ⟨m, Nat.lt_succ_self m, q⟩, ?_⟩
        exact hp.run Z O1 σ1 ε2 L2 H2 _ { nx := whileN c p Δ m, rt := Δ.rt, bk := Δ.nx, ct := whileN c p Δ m } X2 ⟨fun O σ ε L H X z => ⟨O, L, ε, X, z⟩, E.rt, E.nx, fun O σ ε L H X z => ⟨O, L, ε, X, z⟩⟩ z2
      | false =>
        rw [if_neg Bool.false_ne_true] at z2
        exact iteF (E.nx O1 σ1 ε2 L2 H2 X2 z2)
end
end Lp

namespace Lp
open PySem PySem.Spec PyProof.Rows L2
theorem Rep.exts {w : Wx} {Z : Zx} {O : Addr → Prop} {σ : L2.St} {ε : Env} {L H L' H' : Hp} {c : Nat} (x : Rep w Z O L H σ ε) (e : Ext Z.b L H L' H') (s : Same L' H') (hc : ∀ b, Z.b = some b → Box H' b c) : Rep w Z O L' H' σ ⟨ε.s, c⟩ := by
  refine ⟨s, x.pn.trans e.ll, x.ex.trans e, fun b hb => ?_, fun a h => ⟨e.dom a (x.oh a h).1, (x.oh a h).2⟩, x.len, fun i y hy => ?_, x.di, x.ph⟩
  · obtain ⟨h1, h2, h3⟩ := x.bo b hb
    exact ⟨e.fr b h1 h2.there, hc b hb, h3⟩
  · obtain ⟨o, h1, h2⟩ := x.sl i y hy
    refine ⟨o, h1, ?_⟩
    cases y with
    | un => trivial
    | sh d =>
      obtain ⟨v, e1, e2⟩ := h2
      exact ⟨v, e1, e2.to e.ll⟩
    | ow ds =>
      obtain ⟨a, xs, e1, e2, e3, e4, e5, e6⟩ := h2
      exact ⟨a, xs, e1, e2, e.fr a e3 (by rw [e5]; exact (fun z => nomatch z)), e4, e.hh _ _ e5 (x.nob e4), e6.to e.ll⟩
    | bx => exact h2
    | st S n =>
      obtain ⟨a, e1, e2, e3, e4, e5⟩ := h2
      exact ⟨a, e1, e2, e.fr a e3 (by rw [e5]; exact (fun z => nomatch z)), e4, e.hh _ _ e5 (x.nob e4)⟩
    | raw u => exact h2
    | exn x => obtain ⟨v, e1, e2⟩ := h2; exact ⟨v, e1, e2.to e.ll⟩
    | dco xs =>
      obtain ⟨a, e1, e2, e3, e4, ⟨ob, e5⟩, e6⟩ := h2
      exact ⟨a, e1, e2, e.fr a e3 (by rw [e5]; exact (fun z => nomatch z)), e4, ⟨ob, e.hh _ _ e5 (x.nob e4)⟩, e6.to e.ll⟩
    | sto M =>
      obtain ⟨a, A, e1, e2, e3, e4, e5, e6⟩ := h2
      exact ⟨a, A, e1, e2, e.fr a e3 (by rw [e5]; exact (fun z => nomatch z)), e4, e.hh _ _ e5 (x.nob e4), e6.to e.ll⟩
    | dsh xs => obtain ⟨v, e1, e2⟩ := h2; exact ⟨v, e1, e2.to e.ll⟩
abbrev DSp := List SV → Nat → (R → Nat → Prop) → Prop
def MonF (F : DSp) : Prop := ∀ args c (A B : R → Nat → Prop), (∀ r c', A r c' → B r c') → F args c A → F args c B
def CallZ (b : Option Addr) (L H : Hp) (c : Nat) : Prop := Same L H ∧ ∀ a, b = some a → L a = none ∧ Box H a c
def ArgR (b : Option Addr) (L : Hp) (v : V) : SV → Prop
  | .sh d => DV L v d
  | .bx => ∃ a, b = some a ∧ v = .ref a
  | .raw u => v = u
  | _ => False
inductive ArgsR (b : Option Addr) (L : Hp) : List V → List SV → Prop
  | nil : ArgsR b L [] []
  | cons {v : V} {vs : List V} {x : SV} {xs : List SV} : ArgR b L v x → ArgsR b L vs xs → ArgsR b L (v :: vs) (x :: xs)
def spD (n : Nat) (F : DSp) : Sp := fun vs H Q _ => ∃ (b : Option Addr) (L : Hp) (c : Nat) (args : List SV), vs.length = n ∧ CallZ b L H c ∧ ArgsR b L vs args ∧
  F args c fun r c' => ∀ v L' H', CallZ b L' H' c' → Ext b L H L' H' → VR0 H L' H' v r → Q v H'
def R.arg : R → Option SV
  | .sh d => some (.sh d)
  | .br _ ds => some (.sh (.list ds))
  | .bx => some .bx
  | .raw v => some (.raw v)
  | _ => none
def argsOf : List R → Option (List SV)
  | [] => some []
  | r :: rs => match r.arg, argsOf rs with
    | some x, some xs => some (x :: xs)
    | _, _ => none
def hasBr : List R → Bool
  | [] => false
  | .br _ _ :: _ => true
  | _ :: rs => hasBr rs
def immR : R → Bool
  | .sh d => imm d
  | .nw ds => imms ds
  | _ => false
def dArgs (F : DSp) (rs : List R) (ε : Env) (Q : R → Env → Prop) : Prop := match argsOf rs with
  | some args => F args ε.c fun r c => match hasBr rs with
    | true => immR r = true ∧ Q r ⟨ε.s, c⟩
    | false => Q r ⟨ε.s, c⟩
  | none => False
theorem dArgs_mono {F : DSp} (hF : MonF F) {rs : List R} {ε : Env} {A B : R → Env → Prop} (h : ∀ r ε, A r ε → B r ε) (q : dArgs F rs ε A) : dArgs F rs ε B := by
  unfold dArgs at q ⊢
  split at q
  · refine hF _ _ _ _ (fun r c q => ?_) q
    split at q
    · exact ⟨q.1, h _ _ q.2⟩
    · exact h _ _ q
  · exact q.elim
section
variable {w : Wx} {Z : Zx} {O : Addr → Prop} {σ : L2.St} {ε : Env} {L H Hs : Hp}
theorem args_plain : ∀ {vs : List V} {rs : List R} {args : List SV}, VRs w Z O σ Hs L H vs rs → argsOf rs = some args → hasBr rs = false → ArgsR Z.b L vs args
  | _, _, _, .nil, e, _ => by cases e; exact .nil
  | _, r :: rs, args, .cons a b, e, h => by
    unfold argsOf at e
    split at e
    · rename_i x xs hx hxs
      cases e
      have h2 : hasBr rs = false := by cases r <;> first | exact h | cases h
      refine .cons ?_ (args_plain b hxs h2)
      cases r with
      | sh d => cases hx; exact a
      | br i ds => cases h
      | bx => cases hx; exact a
      | raw u => cases hx; exact a
      | nw ds => cases hx
      | sr i S n => cases hx
      | exn y => cases hx
      | dnw xs => cases hx
      | dbr i xs => cases hx
      | srt i M => cases hx
      | dsh xs => cases hx
    · cases e
/-- the lists that slots own and arguments lend -/
def lent (σ : L2.St) (rs : List R) (a : Addr) : Prop := ∃ i ds, R.br i ds ∈ rs ∧ σ[i]? = some (some (.ref a))
theorem args_lent {L2 : Hp} (s : Same L L2) : ∀ {vs : List V} {rs : List R} {args : List SV}, VRs w Z O σ Hs L H vs rs → argsOf rs = some args → (∀ a, lent σ rs a → L2 a = H a) → ArgsR Z.b L2 vs args
  | _, _, _, .nil, e, _ => by cases e; exact .nil
  | _, r :: rs, args, .cons x y, e, h => by
    unfold argsOf at e
    split at e
    · rename_i z zs hz hzs
      cases e
      refine .cons ?_ (args_lent s y hzs fun a ⟨i, ds, h1, h2⟩ => h a ⟨i, ds, List.mem_cons_of_mem _ h1, h2⟩)
      cases r with
      | sh d => cases hz; exact DV.to x s
      | br i ds =>
        cases hz
        obtain ⟨a, xs, rfl, h1, h2, h3, h4, h5, h6⟩ := x
        exact .lst (by rw [h a ⟨i, ds, List.mem_cons_self, h1⟩]; exact h5) (h6.to s)
      | bx => cases hz; exact x
      | raw u => cases hz; exact x
      | nw ds => cases hz
      | sr i S n => cases hz
      | exn y => cases hz
      | dnw xs => cases hz
      | dbr i xs => cases hz
      | srt i M => cases hz
      | dsh xs => cases hz
    · cases e
theorem lent_own : ∀ {vs : List V} {rs : List R} {a : Addr}, VRs w Z O σ Hs L H vs rs → lent σ rs a → O a ∧ Z.H0 a = none ∧ L a = none ∧ ∃ xs, H a = some (.lst xs)
  | _, _, _, .nil, h => by obtain ⟨i, ds, h1, _⟩ := h; cases h1
  | _, r :: rs, a, .cons x y, h => by
    obtain ⟨i, ds, h1, h2⟩ := h
    rcases List.mem_cons.mp h1 with rfl | h1
    · obtain ⟨b, xs, _, g1, g2, g3, g4, g5, g6⟩ := x
      rw [h2] at g1
      cases g1
      exact ⟨g2, g3, g4, xs, g5⟩
    · exact lent_own y ⟨i, ds, h1, h2⟩
open Classical in
theorem run_args {n : Nat} {F : DSp} (hF : MonF F) {vs : List V} {rs : List R} {Q : VK} {E : XK} {L0 H0 : Hp} (X : Rep w Z O L H σ ε) (e : Ext Z.b L0 H0 L H) (r : VRs w Z O σ Hs L H vs rs) (hn : vs.length = n)
    (q : dArgs F rs ε fun r ε' => ∀ v L' H', Rep w Z O L' H' σ ε' → Ext Z.b L0 H0 L' H' → VR w Z O σ H0 L' H' v r → Q v H') : spD n F vs H Q E := by
  unfold dArgs at q
  split at q
  · rename_i args ha
    have cz : ∀ b, Z.b = some b → L b = none ∧ Box H b ε.c := fun b hb => ⟨(X.bo b hb).1, (X.bo b hb).2.1⟩
    cases hb : hasBr rs with
    | false =>
      rw [hb] at q
      refine ⟨Z.b, L, ε.c, args, hn, ⟨X.lh, cz⟩, args_plain r ha hb, hF _ _ _ _ (fun r c q => ?_) q⟩
      intro v L' H' z' e' r'
      exact q v L' H' (X.exts e' z'.1 fun b hb => (z'.2 b hb).2) (e.trans e') ((r'.vr X).back e)
    | true =>
      rw [hb] at q
      let L2 : Hp := fun a => if lent σ rs a then H a else L a
      have h1 : ∀ a, lent σ rs a → L2 a = H a := fun a h => if_pos h
      have h0 : ∀ a, ¬ lent σ rs a → L2 a = L a := fun a h => if_neg h
      have s1 : Same L L2 := fun a o h => by
        by_cases q : lent σ rs a
        · rw [h1 a q]; exact X.lh a o h
        · rw [h0 a q]; exact h
      have s2 : Same L2 H := fun a o h => by
        by_cases q : lent σ rs a
        · rw [h1 a q] at h; exact h
        · rw [h0 a q] at h; exact X.lh a o h
      refine ⟨Z.b, L2, ε.c, args, hn, ⟨s2, fun b hb => ⟨?_, (cz b hb).2⟩⟩, args_lent s1 r ha h1, hF _ _ _ _ (fun u c q => ?_) q⟩
      · rw [h0 b fun h => (X.bo b hb).2.2 (lent_own r h).2.1]; exact (cz b hb).1
      intro v L' H' z' e' r'
      obtain ⟨hi, q⟩ := q
      let L3 : Hp := fun a => if lent σ rs a then none else L' a
      have k1 : ∀ a, lent σ rs a → L3 a = none := fun a h => if_pos h
      have k0 : ∀ a, ¬ lent σ rs a → L3 a = L' a := fun a h => if_neg h
      have s3 : Same L3 H' := fun a o h => by
        by_cases q : lent σ rs a
        · rw [k1 a q] at h; cases h
        · rw [k0 a q] at h; exact z'.1 a o h
      have e3 : Ext Z.b L H L3 H' := by
        refine ⟨fun a o h => ?_, e'.hh, e'.dom, fun a h d => ?_⟩
        · by_cases q : lent σ rs a
          · rw [(lent_own r q).2.2.1] at h; cases h
          · rw [k0 a q]; exact e'.ll a o (s1 a o h)
        · by_cases q : lent σ rs a
          · exact k1 a q
          · rw [k0 a q]; exact e'.fr a (by rw [h0 a q]; exact h) d
      have tups : ∀ a xs, Sol L' a xs → Sol L3 a xs := fun a xs ⟨o, ho, h⟩ => by
        by_cases q : lent σ rs a
        · obtain ⟨_, _, _, ys, hy⟩ := lent_own r q
          have := e'.ll a _ (by rw [h1 a q]; exact hy)
          rw [this] at h; cases h
        · exact ⟨o, ho, by rw [k0 a q]; exact h⟩
      have r3 : VR0 H L3 H' v u := by
        cases u with
        | sh d => exact DV.imm tups d v hi r'
        | nw ds =>
          obtain ⟨a, xs, rfl, g1, g2, g3, g4⟩ := r'
          refine ⟨a, xs, rfl, g1, ?_, g3, DVs.imm tups ds xs hi g4⟩
          by_cases q : lent σ rs a
          · exact k1 a q
          · rw [k0 a q]; exact g2
        | dnw xs => cases hi
        | dsh xs => cases hi
        | _ => exact r'.elim
      exact q v L3 H' (X.exts e3 s3 fun b hb => (z'.2 b hb).2) (e.trans e3) ((r3.vr X).back e)
  · exact q.elim
end
section
variable {w : Wx} {K : PySem.W.Frag} {ta te : TE} {f : DTE}
def dCall (F : DSp) (f : DTA)  (ε : Env) (Q : R → Env → Prop) : Prop := f ε fun rs ε1 => dArgs F rs ε1 Q
theorem se_call {n : Nat} {F : DSp} {t : TA} {f : DTA} {E : XK} (hF : MonF F) (hf : SA w n t f) : SE w (tCall (spD n F) [] E t) (dCall F f) := by
  constructor
  · intro ε A B h q
    exact hf.mono _ _ _ (fun rs ε1 q => dArgs_mono hF h q) q
  · intro Z O σ ε L H Q X q
    refine hf.run Z O σ ε L H _ X (hf.mono _ _ _ (fun rs ε1 q => ?_) q)
    intro vs L1 H1 X1 e1 r1 hl np
    rw [List.append_nil]
    exact run_args hF X1 e1 r1 (by rw [r1.len, hl]) q
def dCallR (F : DSp) (f : DTA)  (ε : Env) (Q : R → Env → Prop) : Prop := f ε fun rs ε1 => dArgs F rs.reverse ε1 Q
theorem VRs.snoc {Z : Zx} {O : Addr → Prop} {σ : L2.St} {Hs L H : Hp} {v : V} {r : R} (x : VR w Z O σ Hs L H v r) : ∀ {vs : List V} {rs : List R}, VRs w Z O σ Hs L H vs rs → VRs w Z O σ Hs L H (vs ++ [v]) (rs ++ [r])
  | _, _, .nil => .cons x .nil
  | _, _, .cons a b => .cons a (VRs.snoc x b)
def wipeE (ε : Env) : List Nat → List SV
  | [] => ε.s
  | v :: vs => (wipeE ε vs).set v .un
theorem wipe_get (σ : L2.St) (i : Nat) : ∀ vs : List Nat, (wipe σ vs)[i]? = if i ∈ vs then (if i < σ.length then some none else none) else σ[i]?
  | [] => by rw [if_neg List.not_mem_nil]; rfl
  | v :: vs => by
    unfold wipe
    rw [List.getElem?_set, wipe_length, wipe_get σ i vs]
    by_cases e : v = i
    · subst e
      rw [if_pos rfl, if_pos List.mem_cons_self]
    · rw [if_neg e]
      by_cases m : i ∈ vs
      · rw [if_pos m, if_pos (List.mem_cons_of_mem _ m)]
      · rw [if_neg m, if_neg (fun h => (List.mem_cons.mp h).elim (fun q => e q.symm) m)]
theorem wipe_but {σ σ' : L2.St} {vs : List Nat} (h : But vs (wipe σ vs) σ') : wipe σ' vs = wipe σ vs := by
  have hl : σ'.length = σ.length := by rw [h.1, wipe_length]
  refine List.ext_getElem? fun i => ?_
  rw [wipe_get, wipe_get]
  by_cases m : i ∈ vs
  · rw [if_pos m, if_pos m, hl]
  · rw [if_neg m, if_neg m, h.2 i m, wipe_get, if_neg m]
theorem wipeE_len (ε : Env) : ∀ vs : List Nat, (wipeE ε vs).length = ε.s.length
  | [] => rfl
  | v :: vs => by unfold wipeE; rw [List.length_set, wipeE_len ε vs]
theorem wipeE_get (ε : Env) (i : Nat) : ∀ (vs : List Nat) (x : SV), (wipeE ε vs)[i]? = some x → (i ∈ vs ∧ x = .un) ∨ (i ∉ vs ∧ ε.s[i]? = some x)
  | [], x, h => .inr ⟨List.not_mem_nil, h⟩
  | v :: vs, x, h => by
    unfold wipeE at h
    rcases get_set h with ⟨rfl, rfl, _⟩ | ⟨ne, h⟩
    · exact .inl ⟨List.mem_cons_self, rfl⟩
    · rcases wipeE_get ε i vs x h with ⟨m, e⟩ | ⟨m, e⟩
      · exact .inl ⟨List.mem_cons_of_mem _ m, e⟩
      · exact .inr ⟨fun q => (List.mem_cons.mp q).elim (fun z => ne z.symm) m, e⟩
theorem Rep.wipe {Z : Zx} {O : Addr → Prop} {σ : L2.St} {ε : Env} {L H : Hp} (x : Rep w Z O L H σ ε) (vs : List Nat) : Rep w Z O L H (L2.wipe σ vs) ⟨wipeE ε vs, ε.c⟩ := by
  refine ⟨x.lh, x.pn, x.ex, x.bo, x.oh, ?_, fun i y hy => ?_, fun i j y z a hij hy hz oy oz hi hj => ?_, x.ph⟩
  · show (L2.wipe σ vs).length = (wipeE ε vs).length
    rw [wipe_length, wipeE_len]; exact x.len
  · have hl : i < σ.length := by
      have := (List.getElem?_eq_some_iff.mp hy).1
      rw [wipeE_len] at this
      rw [x.len]; exact this
    rcases wipeE_get ε i vs y hy with ⟨m, rfl⟩ | ⟨m, e⟩
    · exact ⟨none, by rw [wipe_get, if_pos m, if_pos hl], trivial⟩
    · obtain ⟨o, h1, h2⟩ := x.sl i y e
      exact ⟨o, by rw [wipe_get, if_neg m]; exact h1, h2⟩
  · rcases wipeE_get ε i vs y hy with ⟨m, rfl⟩ | ⟨m, e⟩
    · cases oy
    · rcases wipeE_get ε j vs z hz with ⟨m', rfl⟩ | ⟨m', e'⟩
      · cases oz
      · rw [wipe_get, if_neg m] at hi
        rw [wipe_get, if_neg m'] at hj
        exact x.di i j y z a hij e e' oy oz hi hj
def lcD (γ : DTG) (c : DTT) (f : DTE) (vs : List Nat) (s : List SV) (Q : R → Env → Prop) : List PyData → List PyData → Nat → Prop
  | [], acc, n => Q (.nw acc) ⟨s, n⟩
  | d :: ds, acc, n => γ d ⟨wipeE ⟨s, n⟩ vs, n⟩ fun ε1 => c ε1 fun b ε2 => if b = true then f ε2 fun r ε3 => match r.pub with
      | .sh e => acc.length < sizeLine ∧ lcD γ c f vs s Q ds (acc ++ [e]) ε3.c
      | _ => False
    else lcD γ c f vs s Q ds acc ε2.c
def dLc (i : DTI) (γ : DTG) (c : DTT) (f : DTE) (vs : List Nat)  (ε : Env) (Q : R → Env → Prop) : Prop := i ε fun ds _ ε1 => lcD γ c f vs ε1.s Q ds [] ε1.c
theorem lcD_mono {pk : Bool} {g : TG} {γ : DTG} {tt : TT} {c : DTT} {js vs : List Nat} {s : List SV} {A B : R → Env → Prop} (hg : SG w pk js g γ) (hc : ST w tt c) (hf : SE w te f) (h : ∀ r ε, A r ε → B r ε) : ∀ (ds acc : List PyData) (n : Nat), lcD γ c f vs s A ds acc n → lcD γ c f vs s B ds acc n
  | [], acc, n, z => h _ _ z
  | d :: ds, acc, n, z => by
    refine hg.mono _ _ _ _ (fun ε1 z => hc.mono _ _ _ (fun b ε2 z => ?_) z) z
    cases b with
    | true =>
      rw [if_pos rfl] at z ⊢
      refine hf.mono _ _ _ (fun r ε3 z => ?_) z
      split at z
      · exact ⟨z.1, lcD_mono hg hc hf h ds _ _ z.2⟩
      · exact z.elim
    | false =>
      rw [if_neg Bool.false_ne_true] at z ⊢
      exact lcD_mono hg hc hf h ds _ _ z
theorem se_lc {pk : Bool} {wi : TI} {i : DTI} {g : TG} {γ : DTG} {tt : TT} {c : DTT} {vs : List Nat} (hi : SI w pk wi i) (hg : SG w pk vs g γ) (hc : ST w tt c) (hf : SE w te f) : SE w (tLc wi g tt te vs) (dLc i γ c f vs) := by
  constructor
  · intro ε A B h z
    exact hi.mono _ _ _ (fun ds b ε1 z => lcD_mono hg hc hf h ds [] _ z) z
  · intro Z O σ ε L H Q X z
    refine hi.run Z O σ ε L H _ X (hi.mono _ _ _ (fun ds b ε1 z => ?_) z)
    intro J L1 H1 X1 e1 W _ D nD
    have eD : Ext none L1 H1 L1 (upd H1 D (.lst [])) := Ext.own nD
    have X1' := X1.step eD (same_own X1.lh (X1.lh.free nD))
    have n0 : Z.H0 D = none := X1.ex.free nD
    have nO : ¬ O D := fun o => (X1.oh D o).1 nD
    have bD : Z.b ≠ some D := X1.nob n0
    refine ⟨fun k m H2 => k + m = ds.length ∧ ∃ L2 n acc xs, Rep w Z O L2 H2 σ ⟨ε1.s, n⟩ ∧ Ext Z.b L1 H1 L2 H2 ∧ H2 D = some (.lst xs) ∧ DVs L2 xs acc ∧ L2 D = none ∧ lcD γ c f vs ε1.s (fun r ε' => ∀ v L' H', Rep w Z O L' H' σ ε' → Ext Z.b L H L' H' → VR w Z O σ H L' H' v r → Q v H') (ds.drop k) acc n,
      ⟨ds.length, by omega, L1, ε1.c, [], [], X1', eD.any, upd_same, .nil, X1.lh.free nD, by rw [List.drop_zero]; exact z⟩, ?_⟩
    rintro k m H2 ⟨hkm, L2, n, acc, xs, X2, e2, hD, rD, lD, z2⟩
    have e2' := e2
    by_cases hlt : k < ds.length
    · refine .inr ⟨W.go k L2 H2 e2' X2.lh hlt, fun H' => ∃ L2 n acc xs, Rep w Z O L2 H' σ ⟨ε1.s, n⟩ ∧ Ext Z.b L1 H1 L2 H' ∧ H' D = some (.lst xs) ∧ DVs L2 xs acc ∧ L2 D = none ∧ lcD γ c f vs ε1.s (fun r ε' => ∀ v L' H', Rep w Z O L' H' σ ε' → Ext Z.b L H L' H' → VR w Z O σ H L' H' v r → Q v H') (ds.drop (k + 1)) acc n,
        fun H' q => ⟨m - 1, by omega, by omega, q⟩, fun x H' y => ?_⟩
      have hd : ds[k]? = some ds[k] := List.getElem?_eq_getElem hlt
      rw [List.drop_eq_getElem_cons hlt] at z2
      obtain ⟨L3, e3, s3, r3⟩ := W.yld k ds[k] L2 H2 x H' e2' X2.lh hd y
      have X3 := X2.step e3 s3
      have hD3 := e3.hh D _ hD (fun z => nomatch z)
      have lD3 : L3 D = none := e3.fr D lD (by rw [hD]; exact (fun z => nomatch z))
      refine hg.run Z O _ _ L3 H' x ds[k] _ (X3.wipe vs) r3 (hg.mono _ _ _ _ (fun ε3 z3 σ3 X4 b3 => ⟨wipe_but b3, ?_⟩) z2)
      refine hc.run Z O σ3 ε3 L3 H' _ X4 (hc.mono _ _ _ (fun b ε4 z4 => ?_) z3)
      intro L5 H5 X5 e5
      have hD5 := e5.hh D _ hD3 bD
      have lD5 : L5 D = none := e5.fr D lD3 (by rw [hD3]; exact (fun z => nomatch z))
      have e35 := (e3.any (b := Z.b)).trans e5
      cases b with
      | true =>
        rw [if_pos rfl] at z4 ⊢
        refine hf.run Z O σ3 ε4 L5 H5 _ X5 (hf.mono _ _ _ (fun r ε6 z6 => ?_) z4)
        intro v L6 H6 X6 e6 r6
        split at z6
        · rename_i d' hd'
          obtain ⟨L7, X7, e7, r7⟩ := publ X6 e6 r6
          rw [hd'] at r7
          have hD6 := e7.hh D _ hD5 bD
          have lD7 : L7 D = none := e7.fr D lD5 (by rw [hD5]; exact (fun z => nomatch z))
          have et := e35.trans e7
          have rD7 : DVs L7 xs acc := rD.to et.ll
          have X8 : Rep w Z O L7 H6 σ ⟨ε1.s, ε6.c⟩ := X2.exts et X7.lh fun b hb => (X7.bo b hb).2.1
          refine ⟨xs, hD6, by rw [rD7.len]; exact z6.1, L7, ε6.c, acc ++ [d'], xs ++ [v], ?_, ?_, upd_same, rD7.app (.one r7), lD7, z6.2⟩
          · refine ⟨same_own X8.lh lD7, X8.pn, ⟨X8.ex.ll, fun a o h nb => ?_, fun a h => ?_, X8.ex.fr⟩, fun b hb => ?_, fun a h => ⟨?_, (X8.oh a h).2⟩, X8.len, fun i y hy => ?_, X8.di, X8.ph⟩
            · rw [upd_ne (ne_of_none h n0)]; exact X8.ex.hh a o h nb
            · by_cases q : a = D
              · rw [q, upd_same]; exact (fun z => nomatch z)
              · rw [upd_ne q]; exact X8.ex.dom a h
            · obtain ⟨q1, q2, q3⟩ := X8.bo b hb
              exact ⟨q1, q2.keep (upd_ne (ne_at q3 n0)), q3⟩
            · rw [upd_ne (fun q => nO (by rw [← q]; exact h))]; exact (X8.oh a h).1
            · obtain ⟨o, q1, q2⟩ := X8.sl i y hy
              refine ⟨o, q1, ?_⟩
              cases y with
              | ow ds =>
                obtain ⟨a, ys, g1, g2, g3, g4, g5, g6⟩ := q2
                exact ⟨a, ys, g1, g2, g3, g4, by rw [upd_ne (fun q => nO (by rw [← q]; exact g2))]; exact g5, g6⟩
              | st S n =>
                obtain ⟨a, g1, g2, g3, g4, g5⟩ := q2
                exact ⟨a, g1, g2, g3, g4, by rw [upd_ne (fun q => nO (by rw [← q]; exact g2))]; exact g5⟩
              | dco xs =>
                obtain ⟨a, g1, g2, g3, g4, ⟨ob, g5⟩, g6⟩ := q2
                exact ⟨a, g1, g2, g3, g4, ⟨ob, by rw [upd_ne (fun q => nO (by rw [← q]; exact g2))]; exact g5⟩, g6⟩
              | sto M =>
                obtain ⟨a, A, g1, g2, g3, g4, g5, g6⟩ := q2
                exact ⟨a, A, g1, g2, g3, g4, by rw [upd_ne (fun q => nO (by rw [← q]; exact g2))]; exact g5, g6⟩
              | _ => exact q2
          · have e27 := e2.trans et
            refine ⟨e27.ll, fun a o h nb => ?_, fun a h => ?_, e27.fr⟩
            · rw [upd_ne (ne_of_none h nD)]; exact e27.hh a o h nb
            · by_cases q : a = D
              · rw [q, upd_same]; exact (fun z => nomatch z)
              · rw [upd_ne q]; exact e27.dom a h
        · exact z6.elim
      | false =>
        rw [if_neg Bool.false_ne_true] at z4 ⊢
        have X8 : Rep w Z O L5 H5 σ ⟨ε1.s, ε4.c⟩ := X2.exts e35 X5.lh fun b hb => (X5.bo b hb).2.1
        exact ⟨L5, ε4.c, acc, xs, X8, e2.trans e35, hD5, rD.to e35.ll, lD5, z4⟩
    · have e : k = ds.length := by omega
      subst e
      rw [List.drop_length] at z2
      refine .inl ⟨W.stop L2 H2 e2' X2.lh, z2 _ L2 H2 X2 (e1.trans e2') ⟨D, xs, rfl, e1.free nD, nO, n0, lD, hD, rD⟩⟩
def env0 (args : List SV) (k : Nat) (c : Nat) : Env := ⟨args ++ List.replicate k .un, c⟩
def defF (k : Nat) (p : DTS) (args : List SV) (c : Nat) (Q : R → Nat → Prop) : Prop := p { nx := fun ε => Q (.sh .none) ε.c, rt := fun r ε => Q r ε.c } (env0 args k c)
theorem ArgsR.len {b : Option Addr} {L : Hp} : ∀ {vs : List V} {xs : List SV}, ArgsR b L vs xs → vs.length = xs.length
  | _, _, .nil => rfl
  | _, _, .cons _ r => by rw [List.length_cons, List.length_cons, r.len]
theorem ArgsR.get {b : Option Addr} {L : Hp} : ∀ {vs : List V} {xs : List SV} {i : Nat} {x : SV}, ArgsR b L vs xs → xs[i]? = some x → ∃ v, vs[i]? = some v ∧ ArgR b L v x
  | _, _, _, _, .nil, e => by simp at e
  | _, _, 0, _, .cons a _, e => by simp at e; subst e; exact ⟨_, rfl, a⟩
  | _, _, i + 1, x, .cons _ r, e => by
    obtain ⟨v, h1, h2⟩ := ArgsR.get (i := i) (x := x) r (by simpa using e)
    exact ⟨v, by simpa using h1, h2⟩
theorem rep_start {N : List Str} {b : Option Addr} {L H : Hp} {c k : Nat} {vs : List V} {args : List SV} (z : CallZ b L H c) (a : ArgsR b L vs args) (hk : N.length = vs.length + k) (ph : w.Φ ⟨b, L, H, fun _ => none⟩) : Rep w ⟨b, L, H, fun _ => none⟩ (fun _ => False) L H (start N vs) (env0 args k c) := by
  have hl := a.len
  have un : ∀ (i : Nat) (x : SV), (env0 args k c).s[i]? = some x → (∃ v, vs[i]? = some v ∧ ArgR b L v x) ∨ (vs.length ≤ i ∧ x = .un) := by
    intro i x hx
    have hx : (args ++ List.replicate k SV.un)[i]? = some x := hx
    by_cases hi : i < args.length
    · rw [List.getElem?_append_left hi] at hx
      exact .inl (a.get hx)
    · rw [List.getElem?_append_right (by omega)] at hx
      have := List.mem_of_getElem? hx
      exact .inr ⟨by omega, List.eq_of_mem_replicate this⟩
  have nown : ∀ (i : Nat) (x : SV), (env0 args k c).s[i]? = some x → Own x = true → False := by
    intro i x hx ho
    rcases un i x hx with ⟨v, _, r⟩ | ⟨_, rfl⟩
    · cases x with
      | ow ds => exact r
      | st S n => exact r
      | dco xs => exact r
      | sto M => exact r
      | _ => cases ho
    · cases ho
  refine ⟨z.1, (fun _ _ h => nomatch h), Ext.refl _ _ _, fun d hd => ⟨(z.2 d hd).1, (z.2 d hd).2, (z.2 d hd).2.there⟩, fun _ h => h.elim, ?_, fun i x hx => ?_, fun i j x y d _ hx _ ox => (nown i x hx ox).elim, ph⟩
  · show (start N vs).length = (args ++ List.replicate k SV.un).length
    unfold L2.start
    rw [List.length_append, List.length_map, List.length_replicate, List.length_append, List.length_replicate]
    omega
  · have hi : i < vs.length + k := by
      have := (List.getElem?_eq_some_iff.mp hx).1
      have e : (env0 args k c).s.length = args.length + k := by
        show (args ++ List.replicate k SV.un).length = _
        rw [List.length_append, List.length_replicate]
      omega
    rcases un i x hx with ⟨v, h1, r⟩ | ⟨h1, rfl⟩
    · have hv : i < vs.length := (List.getElem?_eq_some_iff.mp h1).1
      refine ⟨some v, ?_, ?_⟩
      · unfold L2.start
        rw [List.getElem?_append_left (by rw [List.length_map]; exact hv), List.getElem?_map, h1]; rfl
      · cases x with
        | sh d => exact ⟨v, rfl, r⟩
        | bx =>
          obtain ⟨d, h2, rfl⟩ := r
          exact ⟨d, h2, rfl⟩
        | raw u =>
          cases (show v = u from r)
          rfl
        | _ => exact r.elim
    · refine ⟨none, ?_, trivial⟩
      unfold L2.start
      rw [List.getElem?_append_right (by rw [List.length_map]; exact h1), List.getElem?_replicate, if_pos (by rw [List.length_map]; omega)]
end
section
variable {P : Program} {w : World} {K : PySem.W.Frag} {mg : Str → Option Value} {base : Heap}
theorem run_def {N ps : List Str} {t : TS} {p : DTS} {k : Nat} (hp : SS (W0 w) t p) (hk : N.length = ps.length + k) {vs : List V} {H : Hp} {Q : VK} {E : XK} (h : spD ps.length (defF k p) vs H Q E) : t { nx := fun _ H' => Q .non H', rt := Q } (start N vs) H := by
  obtain ⟨b, L, c, args, hn, z, a, q⟩ := h
  refine hp.run _ _ _ _ L H _ _ (rep_start (w := W0 w) z a (by omega) trivial) ?_ q
  refine ⟨fun O σ ε L' H' X q => ?_, fun O σ ε L' H' v r X hr q => ?_, fun O σ ε L' H' X q => q.elim, fun O σ ε L' H' X q => q.elim⟩
  · exact q .non L' H' ⟨X.lh, fun a ha => ⟨(X.bo a ha).1, (X.bo a ha).2.1⟩⟩ X.ex DV.non
  · exact q v L' H' ⟨X.lh, fun a ha => ⟨(X.bo a ha).1, (X.bo a ha).2.1⟩⟩ X.ex hr
theorem spD_len {n : Nat} {F : DSp} {vs : List V} {H : Hp} {Q : VK} {E : XK} (h : spD n F vs H Q E) : vs.length = n := by
  obtain ⟨b, L, c, args, hn, _⟩ := h
  exact hn
theorem spD_imp {n : Nat} {F G : DSp} (h : ∀ args c Q, F args c Q → G args c Q) {vs : List V} {H : Hp} {Q : VK} {E : XK} (x : spD n F vs H Q E) : spD n G vs H Q E := by
  obtain ⟨b, L, c, args, hn, z, a, q⟩ := x
  exact ⟨b, L, c, args, hn, z, a, h _ _ _ q⟩
/-- a def by its data -/
theorem okD {x qual : Str} {st : Stmt} {f : Addr} {fd : FuncData} {N ps : List Str} {k j : Nat} {p : DTS} {F : DSp} (G : Fun K x qual st f fd) (S : FnScope N ps (defScope st)) (hj : N.length = ps.length + j)
    (body : ∀ (cdv : Value) (A : Around) (outer : List PySem.Env) (s : Shared) (H : Hp) (E : XK), Room k (A.deeper (envOfC qual (defScope st) s.heap.objs.size f cdv)) → ∃ t, PSs (cxOf CX0 P w K mg base N qual (defScope st) f cdv A outer s H E).nox (defBody st) t ∧ SS (W0 w) t p)
    (h : ∀ args c Q, F args c Q → defF j p args c Q) : FnOk P w K mg base CX0 (k + 1) f fd ps (spD ps.length F) := by
  refine G.ok S (fun vs H Q E h => spD_len h) fun cdv A outer s H vs Q E hr q => ?_
  obtain ⟨t, ht, hs⟩ := body cdv A outer s H E hr
  exact ⟨t, ht, run_def hs hj (spD_imp h q)⟩
end
end Lp

namespace Lp
open PySem PySem.Spec PyProof.Rows L2
theorem op_or {X : Cx} {f : Value → Value → Sem Value} {r r' : R2} (h : OpR X f r) (h' : OpR X f r') : OpR X f (fun x y H Q => r x y H Q ∨ r' x y H Q) :=
  fun pins s σ H x y v u Q I rx ry q => q.elim (h pins s σ H x y v u Q I rx ry) (h' pins s σ H x y v u Q I rx ry)
theorem cr_or {X : Cx} {f : Value} {r r' : List V → Hp → VK → Prop} (h : CallR X f r) (h' : CallR X f r') : CallR X f (fun x H Q => r x H Q ∨ r' x H Q) :=
  fun pins s σ H xs us Q I rx q => q.elim (h pins s σ H xs us Q I rx) (h' pins s σ H xs us Q I rx)
theorem sl_or {X : Cx} {r r' : V → Option Int → Option Int → Hp → VK → Prop} (h : SlR X r) (h' : SlR X r') : SlR X (fun x l u H Q => r x l u H Q ∨ r' x l u H Q) := by
  intro pins s σ H x v vl vu lo hi sl Q I rx hs pl pu q
  rcases q with q | q
  · exact h pins s σ H x v vl vu lo hi sl Q I rx hs pl pu q
  · exact h' pins s σ H x v vl vu lo hi sl Q I rx hs pl pu q
/-- ints in, an int out -/
def φI (h : Int → Int → Int)  (x y : PyData) (Q : R → Prop) : Prop := match x, y with
  | .int i, .int j => Q (.sh (.int (h i j)))
  | _, _ => False
def φB (h : Int → Int → Bool)  (x y : PyData) (Q : R → Prop) : Prop := match x, y with
  | .int i, .int j => Q (.sh (.bool (h i j)))
  | _, _ => False
def φC (C : Int → Int → Prop) (h : Int → Int → Int)  (x y : PyData) (Q : R → Prop) : Prop := match x, y with
  | .int i, .int j => C i j ∧ Q (.sh (.int (h i j)))
  | _, _ => False
theorem r2_I {h : Int → Int → Int} : R2K (rI0 fun i j => .int (h i j)) (φI h) := by
  constructor
  · intro x y A B hAB q
    unfold φI at q ⊢
    split at q
    · exact hAB _ q
    · exact q.elim
  · intro L H x y dx dy Q s hx hy q
    unfold φI at q
    split at q
    · exact ⟨_, _, hx.int, hy.int, q _ L H (Ext.refl _ _ _) s (.int _)⟩
    · exact q.elim
theorem r2_B {h : Int → Int → Bool} : R2K (rI0 fun i j => .bl (h i j)) (φB h) := by
  constructor
  · intro x y A B hAB q
    unfold φB at q ⊢
    split at q
    · exact hAB _ q
    · exact q.elim
  · intro L H x y dx dy Q s hx hy q
    unfold φB at q
    split at q
    · exact ⟨_, _, hx.int, hy.int, q _ L H (Ext.refl _ _ _) s (.bl _)⟩
    · exact q.elim
theorem r2_C {C : Int → Int → Prop} {h : Int → Int → Int} : R2K (rI C fun i j => .int (h i j)) (φC C h) := by
  constructor
  · intro x y A B hAB q
    unfold φC at q ⊢
    split at q
    · exact ⟨q.1, hAB _ q.2⟩
    · exact q.elim
  · intro L H x y dx dy Q s hx hy q
    unfold φC at q
    split at q
    · exact ⟨_, _, hx.int, hy.int, q.1, q.2 _ L H (Ext.refl _ _ _) s (.int _)⟩
    · exact q.elim
def φNeg (x : PyData) (Q : R → Prop) : Prop := match x with
  | .int i => Q (.sh (.int (-i)))
  | _ => False
theorem ru_neg : RUK (rU fun i => .int (-i)) φNeg := by
  constructor
  · intro x A B hAB q
    cases x <;> first | exact hAB _ q | exact q.elim
  · intro L H x dx Q s hx q
    cases dx <;> first | exact ⟨_, hx.int, q _ L H (Ext.refl _ _ _) s (.int _)⟩ | exact q.elim
abbrev rAdd (K : PySem.W.Frag) : R2 := fun x y H Q => rI0 (fun i j => .int (i + j)) x y H Q ∨ (rCat x y H Q ∨ rCatS K x y H Q)
theorem op_addA {X : Cx} : OpR X (binaryOp .Add) (rAdd X.K) := op_or op_add (op_or op_cat op_catS)
def φAdd  (x y : PyData) (Q : R → Prop) : Prop := match x, y with
  | .int i, .int j => Q (.sh (.int (i + j)))
  | .list a, .list b => a.length + b.length ≤ sizeLine ∧ Q (.nw (a ++ b))
  | .tuple a, .tuple b => a.length + b.length ≤ sizeLine ∧ Q (.sh (.tuple (a ++ b)))
  | _, _ => False
theorem DVs.nil_iff {H : Hp} {vs : List V} {ds : List PyData} (h : DVs H vs ds) : vs = [] ↔ ds = [] := by
  cases h with
  | nil => exact ⟨fun _ => rfl, fun _ => rfl⟩
  | cons _ _ => exact ⟨(fun z => nomatch z), (fun z => nomatch z)⟩
theorem r2_add {K : PySem.W.Frag} : R2K (rAdd K) φAdd := by
  constructor
  · intro x y A B hAB q
    unfold φAdd at q ⊢
    split at q
    · exact hAB _ q
    · exact ⟨q.1, hAB _ q.2⟩
    · exact ⟨q.1, hAB _ q.2⟩
    · exact q.elim
  · intro L H x y dx dy Q s hx hy q
    unfold φAdd at q
    split at q
    · exact .inl ⟨_, _, hx.int, hy.int, q _ L H (Ext.refl _ _ _) s (.int _)⟩
    · obtain ⟨a, xs, rfl, h1, h2⟩ := hx.lst s
      obtain ⟨b, ys, rfl, h3, h4⟩ := hy.lst s
      refine .inr (.inl ⟨a, b, xs, ys, rfl, rfl, h1, h3, by rw [h2.len, h4.len]; exact q.1, fun p np => ?_⟩)
      exact q.2 _ L _ (Ext.own np) (same_own s (s.free np)) ⟨p, _, rfl, np, s.free np, upd_same, h2.app h4⟩
    · obtain ⟨a, xs, rfl, h1, h2⟩ := hx.tup
      obtain ⟨b, ys, rfl, h3, h4⟩ := hy.tup
      refine .inr (.inr ⟨a, b, xs, ys, rfl, rfl, (h1.to s).seq, (h3.to s).seq, by rw [h2.len, h4.len]; exact q.1, fun e => ?_, fun e => ?_, fun p o np no => ?_⟩)
      · have e2 := h2.nil_iff.mp e
        rw [e2, List.nil_append] at q
        exact q.2 _ L H (Ext.refl _ _ _) s (.tup h3 h4)
      · have e2 := h4.nil_iff.mp e
        rw [e2, List.append_nil] at q
        exact q.2 _ L H (Ext.refl _ _ _) s (.tup h1 h2)
      · have e1 : Ext none L H (upd L p (.frz o (.tup (xs ++ ys)))) (upd H p (.frz o (.tup (xs ++ ys)))) := Ext.new s np
        exact q.2 _ _ _ e1 (same_both s) (.tup ⟨o, no, upd_same⟩ ((h2.app h4).to e1.ll))
    · exact q.elim
abbrev rMulA : R2 := fun x y H Q => rI CMulW (fun i j => .int (i * j)) x y H Q ∨ rRep x y H Q
theorem op_mulA {X : Cx} : OpR X (binaryOp .Mult) rMulA := op_or op_mulW op_rep
def φMul  (x y : PyData) (Q : R → Prop) : Prop := match x, y with
  | .int i, .int j => CMulW i j ∧ Q (.sh (.int (i * j)))
  | .list a, .int k => (-(2 ^ 63) ≤ k ∧ k < 2 ^ 63 ∧ a.length * k.toNat ≤ sizeLine) ∧ Q (.nw (List.replicate k.toNat a).flatten)
  | _, _ => False
theorem DVs.rep {H : Hp} {vs : List V} {ds : List PyData} (h : DVs H vs ds) : ∀ n : Nat, DVs H (List.replicate n vs).flatten (List.replicate n ds).flatten
  | 0 => .nil
  | n + 1 => by rw [List.replicate_succ, List.replicate_succ, List.flatten_cons, List.flatten_cons]; exact h.app (h.rep n)
theorem r2_mul : R2K rMulA φMul := by
  constructor
  · intro x y A B hAB q
    unfold φMul at q ⊢
    split at q
    · exact ⟨q.1, hAB _ q.2⟩
    · exact ⟨q.1, hAB _ q.2⟩
    · exact q.elim
  · intro L H x y dx dy Q s hx hy q
    unfold φMul at q
    split at q
    · exact .inl ⟨_, _, hx.int, hy.int, q.1, q.2 _ L H (Ext.refl _ _ _) s (.int _)⟩
    · obtain ⟨a, xs, rfl, h1, h2⟩ := hx.lst s
      refine .inr ⟨a, _, xs, rfl, hy.int, h1, q.1.1, q.1.2.1, by rw [h2.len]; exact q.1.2.2, fun p np => ?_⟩
      exact q.2 _ L _ (Ext.own np) (same_own s (s.free np)) ⟨p, _, rfl, np, s.free np, upd_same, h2.rep _⟩
    · exact q.elim
def PyData.its : PyData → Option (List PyData)
  | .list ds => some ds
  | .tuple ds => some ds
  | _ => none
def φIx  (x y : PyData) (Q : R → Prop) : Prop := match PyData.its x, y with
  | some ds, .int i => ∃ d, atI ds i = some d ∧ Q (.sh d)
  | _, _ => False
theorem atI_dv {H : Hp} {vs : List V} {ds : List PyData} {i : Int} {d : PyData} (h : DVs H vs ds) (e : atI ds i = some d) : ∃ v, atI vs i = some v ∧ DV H v d := by
  unfold atI at e ⊢
  rw [← h.len] at e
  cases hx : ixN vs.length i with
  | none => rw [hx] at e; cases e
  | some j =>
    rw [hx] at e
    exact h.get e
theorem r2_ix {K : PySem.W.Frag} : R2K (rIx K) φIx := by
  constructor
  · intro x y A B hAB q
    unfold φIx at q ⊢
    split at q
    · obtain ⟨d, h1, h2⟩ := q
      exact ⟨d, h1, hAB _ h2⟩
    · exact q.elim
  · intro L H x y dx dy Q s hx hy q
    unfold φIx at q
    split at q
    · rename_i ds i hd
      obtain ⟨d, e, q⟩ := q
      cases dx with
      | list es =>
        cases hd
        obtain ⟨a, xs, rfl, h1, h2⟩ := hx.lst s
        obtain ⟨v, h3, h4⟩ := atI_dv h2 e
        exact .inl ⟨a, xs, i, v, rfl, hy.int, SqL.of h1, h3, q v L H (Ext.refl _ _ _) s h4⟩
      | tuple es =>
        cases hd
        obtain ⟨a, xs, rfl, h1, h2⟩ := hx.tup
        obtain ⟨v, h3, h4⟩ := atI_dv h2 e
        exact .inr (.inl ⟨a, xs, i, v, rfl, hy.int, (h1.to s).seq, h3, q v L H (Ext.refl _ _ _) s h4⟩)
      | _ => cases hd
    · exact q.elim
mutual
theorem DV.uniq {H : Hp} : ∀ {v : V} (d e : PyData), DV H v d → DV H v e → d = e
  | _, .none, _, .non, h => by cases h; rfl
  | _, .bool _, _, .bl _, h => by cases h; rfl
  | _, .int _, _, .int _, h => by cases h; rfl
  | _, .str _, _, .str _, h => by cases h; rfl
  | _, .list ds, e, .lst h1 h2, h => by
    cases h with
    | lst g1 g2 =>
      rw [h1] at g1
      cases g1
      rw [DVs.uniq' ds _ h2 g2]
    | tup g1 g2 =>
      obtain ⟨o, _, g⟩ := g1
      rw [h1] at g; cases g
  | _, .tuple ds, e, .tup h1 h2, h => by
    cases h with
    | tup g1 g2 =>
      cases h1.inj g1
      rw [DVs.uniq' ds _ h2 g2]
    | lst g1 g2 =>
      obtain ⟨o, _, g⟩ := h1
      rw [g] at g1; cases g1
theorem DVs.uniq' {H : Hp} : ∀ {vs : List V} (ds es : List PyData), DVs H vs ds → DVs H vs es → ds = es
  | _, [], _, .nil, h => by cases h; rfl
  | _, d :: ds, _, .cons h1 h2, h => by
    cases h with
    | cons g1 g2 => rw [DV.uniq d _ h1 g1, DVs.uniq' ds _ h2 g2]
end
theorem DVs.uniq {H : Hp} {vs : List V} {ds es : List PyData} (h : DVs H vs ds) (k : DVs H vs es) : ds = es := DVs.uniq' ds es h k
def cutD (ds : List PyData) (lo hi : Option Int) : List PyData := (ds.drop (HT.sIx ds.length 0 lo)).take (HT.sIx ds.length ds.length hi - HT.sIx ds.length 0 lo)
theorem cut_dv {H : Hp} {vs : List V} {ds : List PyData} (h : DVs H vs ds) (lo hi : Option Int) : DVs H (cutV vs lo hi) (cutD ds lo hi) := by
  unfold cutV cutD
  rw [h.len]
  exact (h.drop _).take _
def φSl (x : PyData) (l h : Option Int) (Q : R → Prop) : Prop := match x with
  | .list ds => Q (.nw (cutD ds l h))
  | .tuple ds => Q (.sh (.tuple (cutD ds l h)))
  | _ => False
abbrev rSlB (K : PySem.W.Frag) : V → Option Int → Option Int → Hp → VK → Prop := fun x l u H Q => rSlL K x l u H Q ∨ rSlS K x l u H Q
theorem sl_both {X : Cx} : SlR X (rSlB X.K) := sl_or sl_list sl_tupS
theorem rs_sl {K : PySem.W.Frag} : RSK (rSlB K) φSl := by
  constructor
  · intro x l h A B hAB q
    cases x <;> first | exact hAB _ q | exact q.elim
  · intro L H x d l h Q s hx q
    cases d with
    | list ds =>
      obtain ⟨a, xs, rfl, h1, h2⟩ := hx.lst s
      exact .inl ⟨a, xs, rfl, SqL.of h1, fun p np => q _ L _ (Ext.own np) (same_own s (s.free np)) ⟨p, _, rfl, np, s.free np, upd_same, cut_dv h2 l h⟩⟩
    | tuple ds =>
      obtain ⟨a, xs, rfl, h1, h2⟩ := hx.tup
      refine .inr ⟨a, xs, rfl, (h1.to s).seq, fun e => ?_, fun p o np no => ?_⟩
      · have e2 : cutD ds l h = ds := by
          have k1 := cut_dv h2 l h
          rw [e] at k1
          exact DVs.uniq k1 h2
        have q2 : (fun r => ∀ v L' H', Ext none L H L' H' → Same L' H' → VR0 H L' H' v r → Q v H') (.sh (.tuple ds)) := by
          rw [← e2]; exact q
        exact q2 _ L H (Ext.refl _ _ _) s (.tup h1 h2)
      · have e1 : Ext none L H (upd L p (.frz o (.tup (cutV xs l h)))) (upd H p (.frz o (.tup (cutV xs l h)))) := Ext.new s np
        exact q _ _ _ e1 (same_both s) (.tup ⟨o, no, upd_same⟩ ((cut_dv h2 l h).to e1.ll))
    | _ => exact q.elim
abbrev rEqI : R2 := rI0 fun i j => .bl (decide (i = j))
theorem op_eqI {X : Cx} : OpR X (compareOp .Eq) rEqI := fun pins s σ H x y v u Q I rx ry q => by
  obtain ⟨i, j, rfl, rfl, q⟩ := q
  refine op_eq pins s σ H _ _ v u Q I rx ry ⟨rfl, ?_⟩
  have e : decide (V.int i = V.int j) = decide (i = j) := by simp
  rw [e]; exact q
abbrev rNeI : R2 := rI0 fun i j => .bl (!decide (i = j))
theorem op_neI {X : Cx} : OpR X (compareOp .NotEq) rNeI := fun pins s σ H x y v u Q I rx ry q => by
  obtain ⟨i, j, rfl, rfl, q⟩ := q
  refine op_ne pins s σ H _ _ v u Q I rx ry ⟨rfl, ?_⟩
  have e : decide (V.int i = V.int j) = decide (i = j) := by simp
  rw [e]; exact q
/-- two texts -/
abbrev rEqS : R2 := fun x y H Q => ∃ a b : Str, x = .str a ∧ y = .str b ∧ Q (.bl (decide (a = b))) H
theorem op_eqS {X : Cx} : OpR X (compareOp .Eq) rEqS := fun pins s σ H x y v u Q I rx ry q => by
  obtain ⟨i, j, rfl, rfl, q⟩ := q
  refine op_eq pins s σ H _ _ v u Q I rx ry ⟨rfl, ?_⟩
  have e : decide (V.str i = V.str j) = decide (i = j) := by simp
  rw [e]; exact q
abbrev rNeS : R2 := fun x y H Q => ∃ a b : Str, x = .str a ∧ y = .str b ∧ Q (.bl (!decide (a = b))) H
theorem op_neS {X : Cx} : OpR X (compareOp .NotEq) rNeS := fun pins s σ H x y v u Q I rx ry q => by
  obtain ⟨i, j, rfl, rfl, q⟩ := q
  refine op_ne pins s σ H _ _ v u Q I rx ry ⟨rfl, ?_⟩
  have e : decide (V.str i = V.str j) = decide (i = j) := by simp
  rw [e]; exact q
abbrev rEqA (K : PySem.W.Frag) : R2 := fun x y H Q => rEqI x y H Q ∨ (rEqS x y H Q ∨ rEqD K x y H Q)
abbrev rNeA (K : PySem.W.Frag) : R2 := fun x y H Q => rNeI x y H Q ∨ (rNeS x y H Q ∨ rNeD K x y H Q)
theorem op_eqA {X : Cx} (hu : X.A.units + 64 < cLine) : OpR X (compareOp .Eq) (rEqA X.K) := op_or op_eqI (op_or op_eqS (op_eqD hu))
theorem op_neA {X : Cx} (hu : X.A.units + 64 < cLine) : OpR X (compareOp .NotEq) (rNeA X.K) := op_or op_neI (op_or op_neS (op_neD hu))
def φEq (neg : Bool)  (x y : PyData) (Q : R → Prop) : Prop := match x, y with
  | .int i, .int j => Q (.sh (.bool (if neg then !decide (i = j) else decide (i = j))))
  | .str i, .str j => Q (.sh (.bool (if neg then !decide (i = j) else decide (i = j))))
  | x, y => (SeqAt.shaped x = true ∧ SeqAt.shaped y = true) ∧ Q (.sh (.bool (if neg then !PyData.eqv x y else PyData.eqv x y)))
theorem φEq_mono {neg : Bool} {x y : PyData} {A B : R → Prop} (hAB : ∀ r, A r → B r) (q : φEq neg x y A) : φEq neg x y B := by
  cases x <;> cases y <;> first | exact hAB _ q | exact ⟨q.1, hAB _ q.2⟩
theorem r2_eq {K : PySem.W.Frag} : R2K (rEqA K) (φEq false) := by
  constructor
  · intro x y A B hAB q
    exact φEq_mono hAB q
  · intro L H x y dx dy Q s hx hy q
    unfold φEq at q
    split at q
    · exact .inl ⟨_, _, hx.int, hy.int, q _ L H (Ext.refl _ _ _) s (.bl _)⟩
    · exact .inr (.inl ⟨_, _, hx.str, hy.str, q _ L H (Ext.refl _ _ _) s (.bl _)⟩)
    · exact .inr (.inr ⟨_, _, DV.dp _ _ (hx.dv s), DV.dp _ _ (hy.dv s), q.1.1, q.1.2, q.2 _ L H (Ext.refl _ _ _) s (.bl _)⟩)
theorem r2_ne {K : PySem.W.Frag} : R2K (rNeA K) (φEq true) := by
  constructor
  · intro x y A B hAB q
    exact φEq_mono hAB q
  · intro L H x y dx dy Q s hx hy q
    unfold φEq at q
    split at q
    · exact .inl ⟨_, _, hx.int, hy.int, q _ L H (Ext.refl _ _ _) s (.bl _)⟩
    · exact .inr (.inl ⟨_, _, hx.str, hy.str, q _ L H (Ext.refl _ _ _) s (.bl _)⟩)
    · exact .inr (.inr ⟨_, _, DV.dp _ _ (hx.dv s), DV.dp _ _ (hy.dv s), q.1.1, q.1.2, q.2 _ L H (Ext.refl _ _ _) s (.bl _)⟩)
def isN : PyData → Bool
  | .none => true
  | _ => false
theorem isN_V {L H : Hp} {v : V} {d : PyData} (h : VL L H v d) : decide (v = .non) = isN d := by
  cases d with
  | none => rw [h.non]; rfl
  | bool b => rw [h.bl]; rfl
  | int i => rw [h.int]; rfl
  | str x => rw [h.str]; rfl
  | list ds =>
    rcases h with h | ⟨a, xs, es, e, rfl, _⟩
    · cases h; rfl
    · rfl
  | tuple ds => obtain ⟨a, xs, rfl, _⟩ := h.tup; rfl
  | dict _ =>
    rcases h with h | ⟨a, xs, es, e, rfl, _⟩
    · cases h
    · rfl
def φIsN (neg : Bool)  (x y : PyData) (Q : R → Prop) : Prop := match y with
  | .none => Q (.sh (.bool (if neg then !isN x else isN x)))
  | _ => False
abbrev rIsN : R2 := fun x y H Q => y = .non ∧ Q (.bl (decide (x = .non))) H
abbrev rNotN : R2 := fun x y H Q => y = .non ∧ Q (.bl (!decide (x = .non))) H
theorem r2_isN : R2K rIsN (φIsN false) := by
  constructor
  · intro x y A B hAB q
    cases y <;> first | exact hAB _ q | exact q.elim
  · intro L H x y dx dy Q s hx hy q
    cases dy with
    | none => exact ⟨hy.non, q _ L H (Ext.refl _ _ _) s (by rw [isN_V hx]; exact .bl _)⟩
    | _ => exact q.elim
theorem r2_notN : R2K rNotN (φIsN true) := by
  constructor
  · intro x y A B hAB q
    cases y <;> first | exact hAB _ q | exact q.elim
  · intro L H x y dx dy Q s hx hy q
    cases dy with
    | none => exact ⟨hy.non, q _ L H (Ext.refl _ _ _) s (by rw [isN_V hx]; exact .bl _)⟩
    | _ => exact q.elim
def flatD : PyData → Option V
  | .none => some .non
  | .bool b => some (.bl b)
  | .int i => some (.int i)
  | .str x => some (.str x)
  | _ => none
def flatsD : List PyData → Option (List V)
  | [] => some []
  | d :: ds => match flatD d, flatsD ds with
    | some v, some vs => some (v :: vs)
    | _, _ => none
theorem flat_is {H : Hp} {v u : V} {d : PyData} (h : DV H v d) (e : flatD d = some u) : v = u ∧ flatV v = true := by
  cases h <;> first | (cases e; exact ⟨rfl, rfl⟩) | cases e
theorem flats_is {H : Hp} : ∀ {vs us : List V} {ds : List PyData}, DVs H vs ds → flatsD ds = some us → vs = us ∧ vs.all flatV = true
  | _, _, _, .nil, e => by cases e; exact ⟨rfl, rfl⟩
  | _, _, _, .cons a r, e => by
    unfold flatsD at e
    split at e
    · rename_i x xs hx hxs
      cases e
      obtain ⟨h1, h2⟩ := flat_is a hx
      obtain ⟨h3, h4⟩ := flats_is r hxs
      exact ⟨by rw [h1, h3], by rw [List.all_cons, h2, h4]; rfl⟩
    · cases e
/-- flat things by what they are; others by data -/
def φIn (neg : Bool)  (x y : PyData) (Q : R → Prop) : Prop := match PyData.its y with
  | some ds => match flatD x, flatsD ds with
    | some v, some vs => Q (.sh (.bool (if neg then !inV v vs else inV v vs)))
    | _, _ => (y = .list ds ∧ SeqAt.shaped x = true ∧ SeqAt.shaped y = true) ∧ Q (.sh (.bool (if neg then !(ds.any fun z => PyData.eqv z x) else ds.any fun z => PyData.eqv z x)))
  | none => False
theorem φIn_mono {neg : Bool} {x y : PyData} {A B : R → Prop} (hAB : ∀ r, A r → B r) (q : φIn neg x y A) : φIn neg x y B := by
  unfold φIn at q ⊢
  split at q
  · split at q
    · exact hAB _ q
    · exact ⟨q.1, hAB _ q.2⟩
  · exact q.elim
abbrev rInA (K : PySem.W.Frag) : R2 := fun x y H Q => rIn K false x y H Q ∨ rInD K x y H Q
theorem op_inA {X : Cx} (hu : X.A.units + 65 < cLine) : OpR X (compareOp .In) (rInA X.K) := op_or op_in_seq (op_inD hu)
theorem its_seq {K : PySem.W.Frag} {L H : Hp} {v : V} {d : PyData} {ds : List PyData} (h : VL L H v d) (s : Same L H) (e : PyData.its d = some ds) : ∃ a xs, v = .ref a ∧ (SqL K H a xs ∨ SqT K H a xs) ∧ DVs L xs ds := by
  cases d with
  | list es =>
    cases e
    obtain ⟨a, xs, rfl, h1, h2⟩ := h.lst s
    exact ⟨a, xs, rfl, .inl (SqL.of h1), h2⟩
  | tuple es =>
    cases e
    obtain ⟨a, xs, rfl, h1, h2⟩ := h.tup
    exact ⟨a, xs, rfl, .inr (h1.to s).seq, h2⟩
  | _ => cases e
theorem r2_in {K : PySem.W.Frag} : R2K (rInA K) (φIn false) := by
  constructor
  · intro x y A B hAB q
    exact φIn_mono hAB q
  · intro L H x y dx dy Q s hx hy q
    unfold φIn at q
    split at q
    · rename_i ds hds
      obtain ⟨a, xs, rfl, h1, h2⟩ := its_seq (K := K) hy s hds
      split at q
      · rename_i v vs hv hvs
        obtain ⟨e1, f1⟩ := flat_is (hx.dv s) hv
        obtain ⟨e2, f2⟩ := flats_is h2 hvs
        subst e1
        subst e2
        exact .inl ⟨a, _, rfl, h1, f1, f2, q _ L H (Ext.refl _ _ _) s (.bl _)⟩
      · obtain ⟨⟨e, s1, s2⟩, q⟩ := q
        subst e
        exact .inr ⟨_, ds, DV.dp _ _ (hx.dv s), DV.dp _ _ (hy.dv s), s1, s2, q _ L H (Ext.refl _ _ _) s (.bl _)⟩
    · exact q.elim
end Lp

namespace Lp
open PySem PySem.Spec PyProof.Rows L2
abbrev IL (ns : List Int) : List V := ns.map V.int
abbrev dI (ns : List Int) : List PyData := ns.map PyData.int
theorem sz {n : Nat} (h : n ≤ 100000) : n ≤ sizeLine := Nat.le_trans h (by decide)
theorem szl {n : Nat} (h : n < 100000) : n < sizeLine := Nat.lt_of_lt_of_le h (by decide)
theorem dvs_ints {H : Hp} : ∀ ns : List Int, DVs H (IL ns) (dI ns)
  | [] => .nil
  | x :: r => .cons (.int x) (dvs_ints r)
theorem ints_dvs {H : Hp} : ∀ {vs : List V} {ns : List Int}, DVs H vs (dI ns) → vs = IL ns
  | _, [], .nil => rfl
  | _, _ :: _, .cons (.int _) r => by rw [ints_dvs r]; rfl
theorem IL_get {ns : List Int} {i : Nat} {z : Int} (h : ns[i]? = some z) : (IL ns)[i]? = some (.int z) := by
  rw [List.getElem?_map, h]; rfl
/-- all ints of ns lie in 0 .. n - 1 -/
def Low (n : Nat) (ns : List Int) : Prop := ∀ z ∈ ns, 0 ≤ z ∧ z < (n : Int)
theorem Low.app {n : Nat} {fs : List Int} {z : Int} (h : Low n fs) (h0 : 0 ≤ z) (h1 : z < (n : Int)) : Low n (fs ++ [z]) := fun y hy => by
  rcases List.mem_append.mp hy with h2 | h2
  · exact h y h2
  · rw [List.mem_singleton] at h2
    subst h2; exact ⟨h0, h1⟩
theorem Low.set {n : Nat} {fs : List Int} {z : Int} {i : Nat} (h : Low n fs) (h0 : 0 ≤ z) (h1 : z < (n : Int)) : Low n (fs.set i z) := fun y hy => by
  rcases List.mem_or_eq_of_mem_set hy with h2 | h2
  · exact h y h2
  · subst h2; exact ⟨h0, h1⟩
theorem Low.at {n : Nat} {fs : List Int} {z : Int} {i : Nat} (h : Low n fs) (e : fs[i]? = some z) : 0 ≤ z ∧ z < (n : Int) := h z (List.mem_of_getElem? e)
/-- data that are all ints -/
def intsD : List PyData → Option (List Int)
  | [] => some []
  | .int i :: ds => match intsD ds with
    | some ns => some (i :: ns)
    | none => none
  | _ :: _ => none
theorem intsD_dI : ∀ ns : List Int, intsD (dI ns) = some ns
  | [] => rfl
  | x :: r => by
    show (match intsD (dI r) with | some ns => some (x :: ns) | none => none) = _
    rw [intsD_dI r]
theorem intsD_is : ∀ {ds : List PyData} {ns : List Int}, intsD ds = some ns → ds = dI ns
  | [], _, h => by cases h; rfl
  | .int i :: ds, ns, h => by
    unfold intsD at h
    split at h
    · rename_i ms hm
      cases h
      rw [intsD_is hm]; rfl
    · cases h
  | .none :: _, _, h => by cases h
  | .bool _ :: _, _, h => by cases h
  | .str _ :: _, _, h => by cases h
  | .list _ :: _, _, h => by cases h
  | .tuple _ :: _, _, h => by cases h
  | .dict _ :: _, _, h => by cases h
def boolsD : List PyData → Option (List Bool)
  | [] => some []
  | .bool i :: ds => match boolsD ds with
    | some ns => some (i :: ns)
    | none => none
  | _ :: _ => none
abbrev dB (bs : List Bool) : List PyData := bs.map PyData.bool
theorem boolsD_dB : ∀ bs : List Bool, boolsD (dB bs) = some bs
  | [] => rfl
  | x :: r => by
    show (match boolsD (dB r) with | some ns => some (x :: ns) | none => none) = _
    rw [boolsD_dB r]
theorem boolsD_is : ∀ {ds : List PyData} {ns : List Bool}, boolsD ds = some ns → ds = dB ns
  | [], _, h => by cases h; rfl
  | .bool i :: ds, ns, h => by
    unfold boolsD at h
    split at h
    · rename_i ms hm
      cases h
      rw [boolsD_is hm]; rfl
    · cases h
  | .none :: _, _, h => by cases h
  | .int _ :: _, _, h => by cases h
  | .str _ :: _, _, h => by cases h
  | .list _ :: _, _, h => by cases h
  | .tuple _ :: _, _, h => by cases h
  | .dict _ :: _, _, h => by cases h
theorem bools_dvs {H : Hp} : ∀ {vs : List V} {ns : List Bool}, DVs H vs (dB ns) → vs = ns.map V.bl
  | _, [], .nil => rfl
  | _, _ :: _, .cons (.bl _) r => by rw [bools_dvs r]; rfl
/-- data that are all tuples of ints, none empty -/
def tupsD : List PyData → Option (List (List Int))
  | [] => some []
  | .tuple es :: ds => match intsD es, tupsD ds with
    | some (n :: ns), some nss => some ((n :: ns) :: nss)
    | _, _ => none
  | _ :: _ => none
abbrev dT (nss : List (List Int)) : List PyData := nss.map fun ns => .tuple (dI ns)
end Lp

namespace Lp
open PySem PySem.Spec PyProof.Rows L2
theorem lex_eq : ∀ xs ys : List Int, HT.lexLt xs ys = false → HT.lexLt ys xs = false → xs = ys
  | [], [], _, _ => rfl
  | [], _ :: _, h, _ => by cases h
  | _ :: _, [], _, h => by cases h
  | x :: xs, y :: ys, h1, h2 => by
    rw [HT.lexLt_cons] at h1 h2
    by_cases e : x = y
    · rw [if_pos e] at h1
      rw [if_pos e.symm] at h2
      rw [e, lex_eq xs ys h1 h2]
    · rw [if_neg e] at h1
      rw [if_neg (Ne.symm e)] at h2
      have := of_decide_eq_false h1
      have := of_decide_eq_false h2
      omega
section
variable {prog : Program} {w : World} {A : Around} {E : Value → Shared → Prop} {s : Shared}
end
/-- L' is L in ascending order -/
def Ranked (L' : List (Addr × List Int)) : Prop := L'.Pairwise fun x y => HT.lexLt y.2 x.2 = false
section
variable {X : Cx}
end
end Lp

namespace Lp
open PySem PySem.Spec PyProof.Rows L2
end Lp

namespace Lp
open PySem PySem.Spec PyProof.Rows L2
section
variable {prog : Program} {w : World} {A : Around} {E : Value → Shared → Prop} {s : Shared} {l : Addr}
theorem min_tupI {xs : Array (Int × Tok)} {Q : Value → Shared → Prop} (calm : A.handled = none) (ht : s.heap.IsTuple l (intItems xs)) (ne : 0 < xs.size)
    (q : ∀ v h' tk, (intItems xs)[argBest (fun i j => decide (numAt xs i < numAt xs j)) (xs.size - 1)]? = some v → (∀ b o, s.heap.get? b = some o → h'.get? b = some o) → Q v { s with heap := h', toks := tk }) :
    wpAny (model prog w) A (call (.builtin "min") [.ref l]) Q E s := by
  have lt : l < s.heap.objs.size := by obtain ⟨_, e, _⟩ := ht; exact Heap.lt_size e
  refine call_min_walk (wpAny_pyIter_tuple ht ?_)
  refine ⟨_, [_, l], [_], _, _, _, _, rfl, Walks.tuple (A := A.in1) calm _ l (Nat.ne_of_lt lt) (intItems xs), ⟨⟨_, Heap.get?_push_size _ rfl, rfl, rfl⟩, ht.push _⟩, fun c hc => ?_, by simpa [intItems] using ne, CmpOf.ints_lt (numAt xs) (fun _ _ => intItems_at), fun v h' tk hP hk => ?_⟩
  · have e : c = s.heap.objs.size ∨ c = l := by simpa using hc
    have z : (s.heap.push { cls := .type "tuple_iterator", data := .fields #[.ref l, .int 0 0] }).objs.size = s.heap.objs.size + 1 := Heap.size_push ..
    show c < _
    rw [z]
    rcases e with rfl | rfl
    · exact Nat.lt_succ_self _
    · exact Nat.lt_succ_of_lt lt
  · refine q v h' tk (by simpa [intItems] using hP) fun c o e => hk c o (fun hm => ?_) (Heap.get?_push_of_some _ e)
    have ec : c = s.heap.objs.size := by simpa using hm
    rw [ec] at e
    exact Nat.lt_irrefl _ (Heap.lt_size e)
theorem min_tupN {its : List Value} {ns : List Int} {Q : Value → Shared → Prop} (calm : A.handled = none) (ht : s.heap.IsTuple l its.toArray) (hi : IntsAre its ns) (ne : 0 < ns.length)
    (q : ∀ h' tk M t', (∀ b o, s.heap.get? b = some o → h'.get? b = some o) → M ∈ ns → (∀ a, a ∈ ns → M ≤ a) → Q (.int M t') { s with heap := h', toks := tk }) : wpAny (model prog w) A (call (.builtin "min") [.ref l]) Q E s := by
  obtain ⟨xs, e⟩ := hi.allInts.items
  have en : numsOf (intItems xs).toList = ns := e ▸ hi.numsOf
  rw [nums_intItems] at en
  subst en
  rw [e] at ht
  refine min_tupI calm ht (by simpa using ne) fun v h' tk hv hk => ?_
  obtain ⟨t, rfl⟩ := intItems_at hv
  have best := (argBest_lt (numAt xs) (xs.size - 1)).2
  have size : 0 < xs.size := by simpa using ne
  have len : (xs.toList.map (·.1)).length = xs.size := by rw [List.length_map, Array.length_toList]
  have le := (argBest_lt (numAt xs) (xs.size - 1)).1
  refine q h' tk _ t hk (by rw [numAt_eq]; exact PySem.getD_mem (by rw [len]; omega)) fun a ha => ?_
  obtain ⟨j, hj, rfl⟩ := mem_getD ha
  rw [len] at hj
  rw [← numAt_eq]
  exact best j (by omega)
end
section
variable {X : Cx}
def rMinT (K : PySem.W.Frag) : List V → Hp → VK → Prop := fun vs H Q => ∃ (a : Addr) (ns : List Int), vs = [V.ref a] ∧ SqT K H a (IL ns) ∧ 0 < ns.length ∧ ∀ m, m ∈ ns → (∀ y, y ∈ ns → m ≤ y) → Q (.int m) H
theorem cr_minT (hc : X.calm = true) : CallR X (.builtin "min") (rMinT X.K) := by
  intro pins s σ H vs us Q I r h
  obtain ⟨a, ns, rfl, hs, ne, q⟩ := h
  obtain ⟨its, rv, ht, _⟩ := I.tuple hs
  rw [Vals.ref1 r]
  exact min_tupN (I.ok.hd hc) ht rv.ints ne fun h' tk m t' hk h1 h2 => ⟨.int m, H, I.kept hk, ⟨t', rfl⟩, q m h1 h2⟩
end
end Lp

namespace Lp
open PySem PySem.Spec PyProof.Rows L2
def φLen  (ds : List PyData) (Q : R → Prop) : Prop := match ds with
  | [d] => match PyData.its d with
    | some es => Q (.sh (.int es.length))
    | none => False
  | _ => False
abbrev rLen (K : PySem.W.Frag) : List V → Hp → VK → Prop := fun xs H Q => ∃ p ys, xs = [.ref p] ∧ (SqL K H p ys ∨ SqT K H p ys) ∧ Q (.int ys.length) H
theorem rc_len {K : PySem.W.Frag} : RCK (rLen K) φLen := by
  constructor
  · intro x A B hAB q
    unfold φLen at q ⊢
    split at q
    · split at q
      · exact hAB _ q
      · exact q.elim
    · exact q.elim
  · intro L H xs ds Q s hx q
    unfold φLen at q
    split at q
    · split at q
      · rename_i es he
        cases hx with
        | cons h1 h2 =>
          cases h2
          obtain ⟨a, ys, rfl, k1, k2⟩ := its_seq (K := K) h1 s he
          exact ⟨a, ys, rfl, k1, by rw [k2.len]; exact q _ L H (Ext.refl _ _ _) s (.int _)⟩
      · exact q.elim
    · exact q.elim
def φList  (ds : List PyData) (Q : R → Prop) : Prop := match ds with
  | [d] => match PyData.its d with
    | some es => Q (.nw es)
    | none => False
  | _ => False
abbrev rList (K : PySem.W.Frag) : List V → Hp → VK → Prop := fun xs H Q => ∃ p ys, xs = [.ref p] ∧ (SqL K H p ys ∨ SqT K H p ys) ∧ ∀ l, H l = none → Q (.ref l) (upd H l (.lst ys))
theorem rc_list {K : PySem.W.Frag} : RCK (rList K) φList := by
  constructor
  · intro x A B hAB q
    unfold φList at q ⊢
    split at q
    · split at q
      · exact hAB _ q
      · exact q.elim
    · exact q.elim
  · intro L H xs ds Q s hx q
    unfold φList at q
    split at q
    · split at q
      · rename_i es he
        cases hx with
        | cons h1 h2 =>
          cases h2
          obtain ⟨a, ys, rfl, k1, k2⟩ := its_seq (K := K) h1 s he
          exact ⟨a, ys, rfl, k1, fun p np => q _ L _ (Ext.own np) (same_own s (s.free np)) ⟨p, _, rfl, np, s.free np, upd_same, k2⟩⟩
      · exact q.elim
    · exact q.elim
def φTuple  (ds : List PyData) (Q : R → Prop) : Prop := match ds with
  | [d] => match PyData.its d with
    | some es => Q (.sh (.tuple es))
    | none => False
  | _ => False
theorem rc_tuple {K : PySem.W.Frag} : RCK (rTuple K) φTuple := by
  constructor
  · intro x A B hAB q
    unfold φTuple at q ⊢
    split at q
    · split at q
      · exact hAB _ q
      · exact q.elim
    · exact q.elim
  · intro L H xs ds Q s hx q
    unfold φTuple at q
    split at q
    · split at q
      · rename_i d _ es he
        cases hx with
        | cons h1 h2 =>
          cases h2
          cases d with
          | list es' =>
            cases he
            obtain ⟨a, ys, rfl, k1, k2⟩ := h1.lst s
            refine ⟨a, ys, rfl, .inl ⟨SqL.of k1, fun p o np no => ?_⟩⟩
            have e1 : Ext none L H (upd L p (.frz o (.tup ys))) (upd H p (.frz o (.tup ys))) := Ext.new s np
            exact q _ _ _ e1 (same_both s) (.tup ⟨o, no, upd_same⟩ (k2.to e1.ll))
          | tuple es' =>
            cases he
            obtain ⟨a, ys, rfl, k1, k2⟩ := h1.tup
            exact ⟨a, ys, rfl, .inr ⟨(k1.to s).seq, q _ L H (Ext.refl _ _ _) s (.tup k1 k2)⟩⟩
          | _ => cases he
      · exact q.elim
    · exact q.elim
def φAbs  (ds : List PyData) (Q : R → Prop) : Prop := match ds with
  | [.int i] => Q (.sh (.int (if i < 0 then -i else i)))
  | _ => False
def φInt  (ds : List PyData) (Q : R → Prop) : Prop := match ds with
  | [.int i] => Q (.sh (.int i))
  | [.bool b] => Q (.sh (.int (if b then 1 else 0)))
  | _ => False
def IsMin (ns : List Int) (m : Int) : Prop := m ∈ ns ∧ ∀ y ∈ ns, m ≤ y
def φMin  (ds : List PyData) (Q : R → Prop) : Prop := match ds with
  | [.int i, .int j] => Q (.sh (.int (if j < i then j else i)))
  | [d] => match (PyData.its d).bind intsD with
    | some ns => 0 < ns.length ∧ ∀ m, IsMin ns m → Q (.sh (.int m))
    | none => False
  | _ => False
abbrev rMinA (K : PySem.W.Frag) : List V → Hp → VK → Prop := fun xs H Q => (∃ i j, xs = [.int i, .int j] ∧ Q (.int (if j < i then j else i)) H) ∨ (rMin K xs H Q ∨ rMinT K xs H Q)
theorem cr_minA {X : Cx} (hc : X.calm = true) : CallR X (.builtin "min") (rMinA X.K) := cr_or (call_min2 hc) (cr_or (cr_min hc) (cr_minT hc))
theorem rc_min {K : PySem.W.Frag} : RCK (rMinA K) φMin := by
  constructor
  · intro x A B hAB q
    unfold φMin at q ⊢
    split at q
    · exact hAB _ q
    · split at q
      · exact ⟨q.1, fun m hm => hAB _ (q.2 m hm)⟩
      · exact q.elim
    · exact q.elim
  · intro L H xs ds Q s hx q
    unfold φMin at q
    split at q
    · cases hx with
      | cons h1 h2 =>
        cases h2 with
        | cons h2 h3 =>
          cases h3
          cases h1.int
          cases h2.int
          exact .inl ⟨_, _, rfl, q _ L H (Ext.refl _ _ _) s (.int _)⟩
    · rename_i d
      split at q
      · rename_i ns hn
        cases hx with
        | cons h1 h2 =>
          cases h2
          cases d with
          | list es =>
            obtain ⟨a, ys, rfl, k1, k2⟩ := h1.lst s
            rw [intsD_is (show intsD es = some ns from hn)] at k2
            cases ints_dvs k2
            exact .inr (.inl ⟨a, ns, rfl, SqL.of k1, q.1, fun m h1 h2 => q.2 m ⟨h1, h2⟩ _ L H (Ext.refl _ _ _) s (.int _)⟩)
          | tuple es =>
            obtain ⟨a, ys, rfl, k1, k2⟩ := h1.tup
            rw [intsD_is (show intsD es = some ns from hn)] at k2
            cases ints_dvs k2
            exact .inr (.inr ⟨a, ns, rfl, (k1.to s).seq, q.1, fun m h1 h2 => q.2 m ⟨h1, h2⟩ _ L H (Ext.refl _ _ _) s (.int _)⟩)
          | _ => cases hn
      · exact q.elim
    · exact q.elim
def φMax  (ds : List PyData) (Q : R → Prop) : Prop := match ds with
  | [.int i, .int j] => Q (.sh (.int (if j > i then j else i)))
  | _ => False
theorem rc_max : RCK (fun xs H Q => ∃ i j, xs = [.int i, .int j] ∧ Q (.int (if j > i then j else i)) H) φMax := by
  constructor
  · intro x A B hAB q
    unfold φMax at q ⊢
    split at q
    · exact hAB _ q
    · exact q.elim
  · intro L H xs ds Q s hx q
    unfold φMax at q
    split at q
    · cases hx with
      | cons h1 h2 =>
        cases h2 with
        | cons h2 h3 =>
          cases h3
          cases h1.int
          cases h2.int
          exact ⟨_, _, rfl, q _ L H (Ext.refl _ _ _) s (.int _)⟩
    · exact q.elim
def φSum  (ds : List PyData) (Q : R → Prop) : Prop := match ds with
  | [.list es] => match intsD es with
    | some ns => Q (.sh (.int ns.sum))
    | none => False
  | _ => False
theorem rc_sum {K : PySem.W.Frag} : RCK (rSum K) φSum := by
  constructor
  · intro x A B hAB q
    unfold φSum at q ⊢
    split at q
    · split at q
      · exact hAB _ q
      · exact q.elim
    · exact q.elim
  · intro L H xs ds Q s hx q
    unfold φSum at q
    split at q
    · split at q
      · rename_i ns hn
        cases hx with
        | cons h1 h2 =>
          cases h2
          obtain ⟨a, ys, rfl, k1, k2⟩ := h1.lst s
          rw [intsD_is hn] at k2
          cases ints_dvs k2
          exact ⟨a, ns, rfl, SqL.of k1, q _ L H (Ext.refl _ _ _) s (.int _)⟩
      · exact q.elim
    · exact q.elim
def φAll (any : Bool)  (ds : List PyData) (Q : R → Prop) : Prop := match ds with
  | [.list es] => match boolsD es with
    | some bs => Q (.sh (.bool (if any then bs.any id else bs.all id)))
    | none => False
  | _ => False
theorem rc_all {K : PySem.W.Frag} : RCK (rAll K) (φAll false) := by
  constructor
  · intro x A B hAB q
    unfold φAll at q ⊢
    split at q
    · split at q
      · exact hAB _ q
      · exact q.elim
    · exact q.elim
  · intro L H xs ds Q s hx q
    unfold φAll at q
    split at q
    · split at q
      · rename_i ns hn
        cases hx with
        | cons h1 h2 =>
          cases h2
          obtain ⟨a, ys, rfl, k1, k2⟩ := h1.lst s
          rw [boolsD_is hn] at k2
          cases bools_dvs k2
          exact ⟨a, ns, rfl, SqL.of k1, q _ L H (Ext.refl _ _ _) s (.bl _)⟩
      · exact q.elim
    · exact q.elim
theorem Ranked.asc {P : List (Addr × List Int)} (h : Ranked P) : (P.map (·.2)).Pairwise (fun x y => HT.lexLt y x = false) := List.pairwise_map.mpr h
section
variable {w : Wx} {K : PySem.W.Frag} {te : TE} {f : DTE}
/-- RS: the items of nss, each once, ascending -/
def Asc (nss RS : List (List Int)) : Prop := RS.Nodup ∧ RS.Pairwise (fun x y => HT.lexLt y x = false) ∧ ∀ k, k ∈ RS ↔ k ∈ nss
/-- sorted(set(xs)), xs a list of tuples of ints -/
def dSortSet (f : DTE)  (ε : Env) (Q : R → Env → Prop) : Prop := f ε fun r ε1 => match r.dat with
  | some (.list ds) => match tupsD ds with
    | some nss => nss.length < 64 ∧ ∀ RS, Asc nss RS → Q (.nw (dT RS)) ε1
    | none => False
  | _ => False
def dListRg (f : DTE)  (ε : Env) (Q : R → Env → Prop) : Prop := f ε fun r ε1 => match r.dat with
  | some (.int n) => n ≤ 16777216 ∧ -(2 ^ 62) ≤ n ∧ Q (.nw (rgD 0 n.toNat)) ε1
  | _ => False
end
section
variable {X : Cx}
def rIndexT (K : PySem.W.Frag) : V → List V → Hp → VK → Prop := fun x xs H Q => ∃ (a : Addr) (ys : List V) (y : V) (j : Nat) (z : V), x = V.ref a ∧ xs = [y] ∧ SqT K H a ys ∧ flatV y = true ∧ ys.all flatV = true ∧ ys[j]? = some z ∧ eqV z y = true ∧
  (∀ (m : Nat) (z' : V), m < j → ys[m]? = some z' → eqV z' y = false) ∧ Q (.int (j : Nat)) H
theorem mt_indexT : MtR X "tuple.index" (rIndexT X.K) := by
  rintro pins s σ H x xs v us Q J rx rxs ⟨a, ys, y, j, z, rfl, rfl, at_a, fy, fys, hz, hit, miss, q⟩
  cases rx
  obtain ⟨uy, rfl, ry⟩ := vals1 rxs
  obtain ⟨its, rv, pl, _⟩ := J.tuple at_a
  obtain ⟨⟨cls, dd, dt, sl⟩, look, isT, n, seq⟩ := pl
  simp only at isT seq
  subst isT
  subst seq
  have many : its.toArray.size = ys.length := by rw [List.size_toArray]; exact rv.length.symm
  have place : ∀ (m : Nat) (hm : m < its.toArray.size), ∃ z', ys[m]? = some z' ∧ eqU y its.toArray[m] = eqV z' y := fun m hm => by
    have hm' : m < ys.length := by rw [← many]; exact hm
    obtain ⟨u, hu, ru⟩ := rv.get (i := m) (x := ys[m]) (List.getElem?_eq_getElem hm')
    refine ⟨ys[m], List.getElem?_eq_getElem hm', ?_⟩
    have e : its.toArray[m] = u := by simpa using (List.getElem?_eq_some_iff.mp hu).2
    rw [e]
    exact eqU_of ru (flat_at fys (List.getElem?_eq_getElem hm'))
  have hj : j < its.toArray.size := by rw [many]; exact (List.getElem?_eq_some_iff.mp hz).1
  refine call_meets PySem.F.slot_tuple_index ⟨_, look, rfl⟩ PySem.F.entry_tuple_index (PySem.F.args_tuple_index_2 _ _) (TI.tuple_indexAt a its.toArray n dd sl uy (eqU y) j hj ?_ ?_)
    ⟨look, fun u hu => mem_eqAt ry fy rv fys u (by simpa using hu), ⟨.int (j : Nat), H, J.tok _, ⟨_, rfl⟩, q⟩⟩
  · obtain ⟨z', h1, h2⟩ := place j hj
    rw [hz] at h1
    cases h1
    rw [h2]; exact hit
  · intro m hm hmj
    obtain ⟨z', h1, h2⟩ := place m hm
    rw [h2]; exact miss m z' hmj h1
/-- a list, or a tuple without a dict -/
def tIndex (K : PySem.W.Frag) (to : TE) (t : TA) : TE := fun σ H Q => to σ H fun x H1 => (tyV K "list" x H1 ∧ t σ H1 fun xs H2 => rIndex K x xs H2 Q) ∨ ((∃ a ys, x = .ref a ∧ Sol H1 a ys) ∧ t σ H1 fun xs H2 => rIndexT K x xs H2 Q)
theorem pe_index {o e : Expr} {to : TE} {t : TA} {apos cpos : Pos} (ho : PE X o to) (ha : PA X [e] t)
    (hbase : attributeBase o "index" X.env (eval o X.env) = eval o X.env := by rfl)
    (hfew : ((backTo cpos (starEach [e] X.env)).all (fun x => !x.1) && (backToKw cpos (keywordEach [] X.env)).all (fun x => x.1.isSome) && decide ([e].length + ([] : List Keyword).length + (if ([] : List Keyword).isEmpty then 0 else 1) < 30)) = true := by rfl)
    (hline : (apos.endLine == cpos.line) = true := by rfl) (hs : starEach [e] X.env = (false, eval e X.env) :: starEach [] X.env := by rfl) (hplain : (backTo cpos (starEach [] X.env)).any (·.1) = false := by rfl) :
    PE X (.Call (.Attribute o "index" apos) [e] [] cpos) (tIndex X.K to t) := by
  constructor
  intro pins s σ H Q J want
  refine wpAny_Call_method_late hbase hfew hline rfl (thn (ho.run pins s σ H _ J want) ?_)
  rintro v s' ⟨x, H', J', rx, ways⟩
  have go : ∀ (id : String) (r : V → List V → Hp → VK → Prop), MtR X id r → (t σ H' fun xs H2 => r x xs H2 Q) → wpAny (model X.prog X.w) X.A (callWith cpos (.builtin id) [v] (backTo cpos (starEach [e] X.env)) []) (EP X pins σ Q) X.xe s' := by
    intro id r hm hq
    have hA := ha.run cpos pins s' σ H' _ J' hq
    rw [hs] at hA ⊢
    refine Calls.callWith_builtin (by show (false || (backTo cpos (starEach [] X.env)).any (·.1)) = false; rw [hplain]; rfl) (Calls.evalArgs_plain (thn hA ?_))
    rintro us s2 ⟨xs, H2, J2, rs, q2⟩
    exact hm pins s2 σ H2 x xs v us Q J2 rx rs q2
  rcases ways with ⟨ty, hq⟩ | ⟨⟨a, ys, rfl, o', nd, at_a⟩, hq⟩
  · obtain ⟨h1, h2⟩ := tyV_is J' rx ty
    exact ⟨"list", _, PySem.F.plainAttrs_list, PySem.F.slot_list_index, PySem.F.type_list_index, h1, h2, go _ _ mt_index hq⟩
  · cases rx
    have ok : ObjOk X.prog X.w H' s'.heap a (.frz o' (.tup ys)) := J'.hok a _ at_a
    obtain ⟨k1, k2, its, rv, k3⟩ := ok
    refine ⟨"tuple", _, PySem.F.plainAttrs_tuple, PySem.F.slot_tuple_index, PySem.F.type_tuple_index, k3.typeIs, fun b e => ?_, go _ _ mt_indexT hq⟩
    cases e
    exact ⟨o', k1, nd⟩
end
section
variable {w : Wx} {K : PySem.W.Frag} {ta te : TE} {f g : DTE}
/-- the first place of an int among ints -/
def dIndex (f g : DTE)  (ε : Env) (Q : R → Env → Prop) : Prop := f ε fun x ε1 => match x.dat.bind PyData.its with
  | some ds => g ε1 fun y ε2 => match y.dat, intsD ds with
    | some (.int k), some ns => k ∈ ns ∧ Q (.sh (.int (ns.idxOf k : Nat))) ε2
    | _, _ => False
  | none => False
theorem idx_get {ms : List Int} {z : Int} (h : z ∈ ms) : ms[ms.idxOf z]? = some z := by
  have hl := List.idxOf_lt_length_of_mem h
  rw [List.getElem?_eq_getElem hl, List.getElem_idxOf hl]
theorem idx_first : ∀ (ms : List Int) (z : Int) (j : Nat), j < ms.idxOf z → ms[j]? ≠ some z
  | [], z, j, h => by simp at h
  | x :: ms, z, j, h => by
    rw [List.idxOf_cons] at h
    by_cases q : x = z
    · subst q; simp at h
    · have qb : (x == z) = false := beq_eq_false_iff_ne.mpr q
      rw [qb] at h
      cases j with
      | zero => intro e; exact q (Option.some.inj e)
      | succ j =>
        intro e
        exact idx_first ms z j (by simp at h; omega) e
theorem flat_ints (ns : List Int) : (IL ns).all flatV = true := by
  rw [List.all_eq_true]
  intro x hx
  obtain ⟨z, _, rfl⟩ := List.mem_map.mp hx
  rfl
theorem eqV_int (a b : Int) : eqV (.int a) (.int b) = decide (a = b) := by
  simp [eqV]
  rfl
theorem se_index (hf : SE w ta f) (hg : SE w te g) : SE w (tIndex K ta (tCons te tNil)) (dIndex f g) := by
  constructor
  · intro ε A B h q
    refine hf.mono _ _ _ (fun x ε1 q => ?_) q
    split at q
    · refine hg.mono _ _ _ (fun y ε2 q => ?_) q
      split at q
      · exact ⟨q.1, h _ _ q.2⟩
      · exact q.elim
    · exact q.elim
  · intro Z O σ ε L H Q X q
    refine hf.run Z O σ ε L H _ X (hf.mono _ _ _ (fun x ε1 q => ?_) q)
    intro v L1 H1 X1 e1 r1
    have miss : ∀ (ns : List Int) (k : Int) (m : Nat) (z' : V), m < ns.idxOf k → (IL ns)[m]? = some z' → eqV z' (.int k) = false := by
      intro ns k m z' hm hz
      rw [List.getElem?_map] at hz
      cases hn : ns[m]? with
      | none => rw [hn] at hz; cases hz
      | some n =>
        rw [hn] at hz
        cases hz
        rw [eqV_int]
        exact decide_eq_false fun e => idx_first ns k m hm (by rw [hn, e])
    split at q
    · rename_i ds hds
      cases hx : x.dat with
      | none => rw [hx] at hds; cases hds
      | some d =>
        rw [hx] at hds
        cases d with
        | list es =>
          cases hds
          obtain ⟨a, ys, rfl, k1, k2⟩ := (r1.vl hx).lst X1.lh
          refine .inl ⟨.inl ⟨rfl, _, SqL.of k1⟩, hg.run Z O σ ε1 L1 H1 _ X1 (hg.mono _ _ _ (fun y ε2 q => ?_) q)⟩
          intro u L2 H2 X2 e2 r2
          split at q
          · rename_i k ns hk hn
            cases (r2.vl hk).int
            obtain ⟨_, _, ea, k3, k4⟩ := ((r1.mono X1 e2).vl hx).lst X2.lh
            cases ea
            rw [intsD_is hn] at k4
            cases ints_dvs k4
            exact ⟨a, _, .int k, ns.idxOf k, .int k, rfl, rfl, SqL.of k3, rfl, flat_ints ns, IL_get (idx_get q.1), by rw [eqV_int, decide_eq_true rfl], miss ns k, q.2 _ L2 H2 X2 (e1.trans e2) (.int _)⟩
          · exact q.elim
        | tuple es =>
          cases hds
          obtain ⟨a, ys, rfl, k1, k2⟩ := (r1.vl hx).tup
          refine .inr ⟨⟨a, ys, rfl, k1.to X1.lh⟩, hg.run Z O σ ε1 L1 H1 _ X1 (hg.mono _ _ _ (fun y ε2 q => ?_) q)⟩
          intro u L2 H2 X2 e2 r2
          split at q
          · rename_i k ns hk hn
            cases (r2.vl hk).int
            rw [intsD_is hn] at k2
            cases ints_dvs k2
            exact ⟨a, _, .int k, ns.idxOf k, .int k, rfl, rfl, ((k1.to e2.ll).to X2.lh).seq, rfl, flat_ints ns, IL_get (idx_get q.1), by rw [eqV_int, decide_eq_true rfl], miss ns k, q.2 _ L2 H2 X2 (e1.trans e2) (.int _)⟩
          · exact q.elim
        | _ => cases hds
    · exact q.elim
end
end Lp

namespace Lp
open PySem PySem.Spec PyProof.Rows L2
section
variable {w : Wx} {K : PySem.W.Frag} {ta te : TE} {f g : DTE}
def enD (ds : List PyData) : List PyData := ds.mapIdx fun i d => .tuple [.int (i : Nat), d]
theorem enD_len (ds : List PyData) : (enD ds).length = ds.length := by unfold enD; rw [List.length_mapIdx]
theorem enD_get {ds : List PyData} {i : Nat} {e : PyData} (h : (enD ds)[i]? = some e) : ∃ d, ds[i]? = some d ∧ e = .tuple [.int (i : Nat), d] := by
  unfold enD at h
  rw [List.getElem?_mapIdx] at h
  cases q : ds[i]? with
  | none => rw [q] at h; cases h
  | some d => rw [q] at h; cases h; exact ⟨d, rfl, rfl⟩
theorem walkS_enum {L : Hp} {a : Addr} {xs : List V} {ds : List PyData} (h : L a = some (.lst xs)) (r : DVs L xs ds) : WalkS true L (Ite K a) (enD ds) := by
  have hl := r.len
  refine ⟨fun i L' H' s1 s2 hi => ?_, fun L' H' s1 s2 => ?_, fun i d L' H' x H2 s1 s2 hd y => ?_⟩
  · rw [enD_len] at hi
    exact ⟨xs, xs[i]'(by omega), SqL.of (s2 _ _ (s1 _ _ h)), List.getElem?_eq_getElem (by omega)⟩
  · rw [enD_len]
    exact ⟨xs, SqL.of (s2 _ _ (s1 _ _ h)), by omega⟩
  · obtain ⟨T, z, rfl, nT, rfl, y2⟩ := y
    have hx := y2 xs (SqL.of (s2 _ _ (s1 _ _ h)))
    obtain ⟨d', hd', rfl⟩ := enD_get hd
    obtain ⟨v, h1, h2⟩ := r.get hd'
    rw [hx] at h1
    cases h1
    exact ⟨L', Ext.own nT, same_own s2 (s2.free nT), .inr ⟨T, _, _, rfl, rfl, upd_same, .cons (.int _) (.cons (h2.to s1) .nil)⟩⟩
def dEnum (f : DTA)  (ε : Env) (Q : List PyData → Bool → Env → Prop) : Prop := f ε fun rs ε1 => match rs with
  | [.sh (.list ds)] => Q (enD ds) true ε1
  | _ => False
def zipDs (xs ys : List PyData) : List PyData := List.zipWith (fun a b => .tuple [a, b]) xs ys
theorem zipDs_len (xs ys : List PyData) : (zipDs xs ys).length = min xs.length ys.length := by unfold zipDs; rw [List.length_zipWith]
theorem zipDs_get {xs ys : List PyData} {i : Nat} {e : PyData} (h : (zipDs xs ys)[i]? = some e) : ∃ a b, xs[i]? = some a ∧ ys[i]? = some b ∧ e = .tuple [a, b] := by
  unfold zipDs at h
  rw [List.getElem?_zipWith] at h
  cases q : xs[i]? with
  | none => rw [q] at h; cases h
  | some a =>
    rw [q] at h
    cases q2 : ys[i]? with
    | none => rw [q2] at h; cases h
    | some b => rw [q2] at h; cases h; exact ⟨a, b, rfl, rfl, rfl⟩
theorem walkS_zipL {L : Hp} {a b : Addr} {xs ys : List V} {ds es : List PyData} (h : L a = some (.lst xs)) (k : L b = some (.lst ys)) (r : DVs L xs ds) (q : DVs L ys es) : WalkS true L (Itz K a b) (zipDs ds es) := by
  have hl := r.len
  have kl := q.len
  refine ⟨fun i L' H' s1 s2 hi => ?_, fun L' H' s1 s2 => ?_, fun i d L' H' x H2 s1 s2 hd y => ?_⟩
  · rw [zipDs_len] at hi
    exact ⟨xs, ys, xs[i]'(by omega), ys[i]'(by omega), SqL.of (s2 _ _ (s1 _ _ h)), SqL.of (s2 _ _ (s1 _ _ k)), List.getElem?_eq_getElem (by omega), List.getElem?_eq_getElem (by omega)⟩
  · rw [zipDs_len]
    exact ⟨xs, ys, SqL.of (s2 _ _ (s1 _ _ h)), SqL.of (s2 _ _ (s1 _ _ k)), by omega⟩
  · obtain ⟨T, z, z', rfl, nT, rfl, y2, y3⟩ := y
    have hx := y2 xs (SqL.of (s2 _ _ (s1 _ _ h)))
    have hy := y3 ys (SqL.of (s2 _ _ (s1 _ _ k)))
    obtain ⟨d', e', hd', he', rfl⟩ := zipDs_get hd
    obtain ⟨v, h1, h2⟩ := r.get hd'
    obtain ⟨u, k1, k2⟩ := q.get he'
    rw [hx] at h1
    rw [hy] at k1
    cases h1
    cases k1
    exact ⟨L', Ext.own nT, same_own s2 (s2.free nT), .inr ⟨T, _, _, rfl, rfl, upd_same, .cons (h2.to s1) (.cons (k2.to s1) .nil)⟩⟩
theorem walkS_zipT {L : Hp} {a b : Addr} {xs ys : List V} {ds es : List PyData} (h : Sol L a xs) (k : Sol L b ys) (r : DVs L xs ds) (q : DVs L ys es) : WalkS true L (RZ.ItzT K a b) (zipDs ds es) := by
  have hl := r.len
  have kl := q.len
  refine ⟨fun i L' H' s1 s2 hi => ?_, fun L' H' s1 s2 => ?_, fun i d L' H' x H2 s1 s2 hd y => ?_⟩
  · rw [zipDs_len] at hi
    exact ⟨xs, ys, xs[i]'(by omega), ys[i]'(by omega), ((h.to s1).to s2).seq, ((k.to s1).to s2).seq, List.getElem?_eq_getElem (by omega), List.getElem?_eq_getElem (by omega)⟩
  · rw [zipDs_len]
    exact ⟨xs, ys, ((h.to s1).to s2).seq, ((k.to s1).to s2).seq, by omega⟩
  · obtain ⟨T, z, z', rfl, nT, rfl, y2, y3⟩ := y
    have hx := y2 xs ((h.to s1).to s2).seq
    have hy := y3 ys ((k.to s1).to s2).seq
    obtain ⟨d', e', hd', he', rfl⟩ := zipDs_get hd
    obtain ⟨v, h1, h2⟩ := r.get hd'
    obtain ⟨u, k1, k2⟩ := q.get he'
    rw [hx] at h1
    rw [hy] at k1
    cases h1
    cases k1
    exact ⟨L', Ext.own nT, same_own s2 (s2.free nT), .inr ⟨T, _, _, rfl, rfl, upd_same, .cons (h2.to s1) (.cons (k2.to s1) .nil)⟩⟩
def dZip (f : DTA)  (ε : Env) (Q : List PyData → Bool → Env → Prop) : Prop := f ε fun rs ε1 => match rs with
  | [.sh (.list xs), .sh (.list ys)] => Q (zipDs xs ys) true ε1
  | [.sh (.tuple xs), .sh (.tuple ys)] => Q (zipDs xs ys) true ε1
  | _ => False
theorem si_zip {n : Nat} {t : TA} {f : DTA} (hf : SA w n t f) : SI w true (RZ.iZipA K t) (dZip f) := by
  constructor
  · intro ε A B h q
    refine hf.mono _ _ _ (fun r ε1 q => ?_) q
    split at q
    · exact h _ _ _ q
    · exact h _ _ _ q
    · exact q.elim
  · intro Z O σ ε L H R X q
    refine hf.run Z O σ ε L H _ X (hf.mono _ _ _ (fun r ε1 q => ?_) q)
    intro vs L1 H1 X1 e1 r1 hl np
    split at q
    · rename_i xs ys
      cases r1 with
      | cons r1 r2 =>
        cases r2 with
        | cons r2 r3 =>
          cases r3
          cases (show DV L1 _ (.list xs) from r1) with
          | lst h1 h2 =>
            cases (show DV L1 _ (.list ys) from r2) with
            | lst k1 k2 =>
              have W := walkS_zipL (K := K) h1 k1 h2 k2
              exact ⟨_, _, _, _, rfl, .inl ⟨SqL.of (X1.lh _ _ h1), SqL.of (X1.lh _ _ k1), q _ L1 H1 X1 e1 W.e fun _ => W⟩⟩
    · rename_i xs ys
      cases r1 with
      | cons r1 r2 =>
        cases r2 with
        | cons r2 r3 =>
          cases r3
          cases (show DV L1 _ (.tuple xs) from r1) with
          | tup h1 h2 =>
            cases (show DV L1 _ (.tuple ys) from r2) with
            | tup k1 k2 =>
              have W := walkS_zipT (K := K) h1 k1 h2 k2
              exact ⟨_, _, _, _, rfl, .inr ⟨(h1.to X1.lh).seq, (k1.to X1.lh).seq, q _ L1 H1 X1 e1 W.e fun _ => W⟩⟩
    · exact q.elim
def scD (γ : DTG) (f : DTE) (vs : List Nat) (s : List SV) (Q : R → Env → Prop) : List PyData → List (List Int) → Nat → Prop
  | [], acc, n => ∀ RS, Asc acc RS → Q (.nw (dT RS)) ⟨s, n⟩
  | d :: ds, acc, n => γ d ⟨wipeE ⟨s, n⟩ vs, n⟩ fun ε1 => f ε1 fun r ε3 => match r with
      | .sh (.tuple es) => match intsD es with
        | some (x :: ns) => acc.length + 1 < 64 ∧ scD γ f vs s Q ds (acc ++ [x :: ns]) ε3.c
        | _ => False
      | _ => False
def dSortSc (i : DTI) (γ : DTG) (f : DTE) (vs : List Nat)  (ε : Env) (Q : R → Env → Prop) : Prop := i ε fun ds _ ε1 => scD γ f vs ε1.s Q ds [] ε1.c
end
section
variable {w : Wx} {K : PySem.W.Frag} {te : TE} {f : DTE}
def tyD : PyData → String
  | .none => "NoneType"
  | .bool _ => "bool"
  | .int _ => "int"
  | .str _ => "str"
  | .list _ => "list"
  | .tuple _ => "tuple"
  | .dict _ => "dict"
theorem tyX_of {L H : Hp} {v : V} {d : PyData} (h : VL L H v d) (s : Same L H) : TyX K H v (.type (tyD d)) := by
  cases d with
  | none => rw [h.non]; exact .base .non
  | bool b => rw [h.bl]; exact .base (.bl _)
  | int i => rw [h.int]; exact .base (.int _)
  | str x => rw [h.str]; exact .base (.str _)
  | list ds =>
    obtain ⟨a, xs, rfl, h1, _⟩ := h.lst s
    exact .base (.lst h1)
  | tuple ds =>
    obtain ⟨a, xs, rfl, h1, _⟩ := h.tup
    obtain ⟨o, _, e⟩ := h1.to s
    exact .fTuple e
  | dict _ =>
    rcases h with h | ⟨a, xs, es, e, _⟩
    · cases h
    · cases e
/-- is a value of type a one of type b -/
def isaT (a b : String) : Bool := a == b || (a == "bool" && b == "int")
def TyIn (T : String) : Prop := T = "int" ∨ T = "bool" ∨ T = "str" ∨ T = "list" ∨ T = "tuple"
theorem kit_all : ∀ a ∈ ["NoneType", "bool", "int", "str", "list", "tuple", "dict"], ∀ b ∈ ["int", "bool", "str", "list", "tuple"], kitB a b = some (isaT a b) := by decide +kernel
theorem kit_tyD {T : String} (hT : TyIn T) (d : PyData) : kitB (tyD d) T = some (isaT (tyD d) T) := by
  refine kit_all _ ?_ _ ?_
  · cases d <;> simp [tyD]
  · rcases hT with rfl | rfl | rfl | rfl | rfl <;> simp
def dIsi (T : String) (f : DTE)  (ε : Env) (Q : R → Env → Prop) : Prop := f ε fun r ε1 => match r.dat with
  | some d => Q (.sh (.bool (isaT (tyD d) T))) ε1
  | none => False
theorem se_isi {T : String} (hT : TyIn T) (hf : SE w te f) : SE w (tCB (rIsi K) (tCons te (tCons (tC (.ty T)) tNil))) (dIsi T f) := by
  constructor
  · intro ε A B h q
    refine hf.mono _ _ _ (fun r ε1 q => ?_) q
    split at q
    · exact h _ _ q
    · exact q.elim
  · intro Z O σ ε L H Q X q
    refine hf.run Z O σ ε L H _ X (hf.mono _ _ _ (fun r ε1 q => ?_) q)
    intro v L1 H1 X1 e1 r1
    split at q
    · rename_i d hd
      exact ⟨v, .ty T, .type (tyD d), .type T, _, rfl, .ty T, tyX_of (r1.vl hd) X1.lh, kit_ty (kit_tyD hT d), q _ L1 H1 X1 e1 (.bl _)⟩
    · exact q.elim
/-- isinstance(x, (list, tuple)) -/
def dIsi2 (T T' : String) (f : DTE)  (ε : Env) (Q : R → Env → Prop) : Prop := f ε fun r ε1 => match r.dat with
  | some d => Q (.sh (.bool (isaT (tyD d) T || isaT (tyD d) T'))) ε1
  | none => False
theorem se_isi2 {T T' : String} (hT : TyIn T) (hT' : TyIn T') (hf : SE w te f) : SE w (tCB (rIsiT K) (tCons te (tCons (tTup (tCons (tC (.ty T)) (tCons (tC (.ty T')) tNil))) tNil))) (dIsi2 T T' f) := by
  constructor
  · intro ε A B h q
    refine hf.mono _ _ _ (fun r ε1 q => ?_) q
    split at q
    · exact h _ _ q
    · exact q.elim
  · intro Z O σ ε L H Q X q
    refine hf.run Z O σ ε L H _ X (hf.mono _ _ _ (fun r ε1 q => ?_) q)
    intro v L1 H1 X1 e1 r1
    split at q
    · rename_i d hd
      refine ⟨by show 2 ≤ sizeLine; decide, fun p np => ?_⟩
      have e2 : Ext none L1 H1 L1 (upd H1 p (.tup [.ty T, .ty T'])) := Ext.own np
      have X2 := X1.step e2 (same_own X1.lh (X1.lh.free np))
      refine ⟨v, p, _, .type (tyD d), [.type T, .type T'], _, rfl, upd_same, .cons (.ty T) (.cons (.ty T') .nil), tyX_of ((r1.mono X1 e2.any).vl hd) X2.lh, ?_, q _ L1 _ X2 (e1.trans e2.any) (.bl _)⟩
      refine kitAny_cons (kit_ty (kit_tyD hT d)) (fun h => ?_) (fun h => by rw [h]; rfl)
      refine kitAny_cons (kit_ty (kit_tyD hT' d)) (fun h' => ?_) (fun h' => by rw [h', Bool.or_true])
      rw [h, h']; rfl
    · exact q.elim
end
end Lp

namespace Lp
open PySem PySem.Spec PyProof.Rows L2
/-- the module's names that are the built-ins' -/
structure Bi (mg : Str → Option Value) : Prop where
  len : mg "len" = none
  list : mg "list" = none
  tuple : mg "tuple" = none
  range : mg "range" = none
  enumerate : mg "enumerate" = none
  all : mg "all" = none
  isinstance : mg "isinstance" = none
  zip : mg "zip" = none
  abs : mg "abs" = none
  int : mg "int" = none
  str : mg "str" = none
  bool : mg "bool" = none
  repr : mg "repr" = none
  set : mg "set" = none
  min : mg "min" = none
  max : mg "max" = none
  sorted : mg "sorted" = none
  sum : mg "sum" = none
  any : mg "any" = none
def φIsB  (x y : PyData) (Q : R → Prop) : Prop := match x, y with
  | .bool a, .bool b => Q (.sh (.bool (decide (a = b))))
  | _, _ => False
def dNotT (f : DTE)  (ε : Env) (Q : R → Env → Prop) : Prop := f ε fun r ε1 => match r.dat.bind truD with
  | some k => Q (.sh (.bool (!k))) ε1
  | _ => False
section
variable {X : Cx} {K : PySem.W.Frag}
theorem ixK (e : X.K = K) : IxR X (rIx K) := e ▸ ix_seq
theorem slK (e : X.K = K) : SlR X (rSlB K) := e ▸ sl_both
theorem addK (e : X.K = K) : OpR X (binaryOp .Add) (rAdd K) := e ▸ op_addA
theorem eqK (e : X.K = K) (hu : X.A.units + 64 < cLine) : OpR X (compareOp .Eq) (rEqA K) := e ▸ op_eqA hu
theorem neK (e : X.K = K) (hu : X.A.units + 64 < cLine) : OpR X (compareOp .NotEq) (rNeA K) := e ▸ op_neA hu
theorem inK (e : X.K = K) (hu : X.A.units + 65 < cLine) : OpR X (compareOp .In) (rInA K) := e ▸ op_inA hu
theorem lenK (e : X.K = K) : CallR X (.builtin "len") (rLen K) := e ▸ call_len_seq
theorem listK (e : X.K = K) : CallR X (.type "list") (rList K) := e ▸ call_list_of
theorem tupleK (e : X.K = K) : CallR X (.type "tuple") (rTuple K) := e ▸ call_tupleS
theorem minK (e : X.K = K) (hc : X.calm = true) : CallR X (.builtin "min") (rMinA K) := e ▸ cr_minA hc
theorem sumK (e : X.K = K) (hc : X.calm = true) : CallR X (.builtin "sum") (rSum K) := e ▸ cr_sum hc
theorem allK (e : X.K = K) (hc : X.calm = true) : CallR X (.builtin "all") (rAll K) := e ▸ cr_all hc
theorem seqK {tg o : Expr} {to : TE} (e : X.K = K) (ho : PE X o to) : PI X tg o (iSeq K to) := e ▸ pi_seq ho
theorem indexK {o e : Expr} {to : TE} {t : TA} {apos cpos : Pos} (h : X.K = K) (x : PE X (.Call (.Attribute o "index" apos) [e] [] cpos) (tIndex X.K to t)) : PE X (.Call (.Attribute o "index" apos) [e] [] cpos) (tIndex K to t) := h ▸ x
theorem gtupK {es : List Expr} {k : Nat} {t : TGs} {n : Nat} {pos : Pos} (e : X.K = K) (h : PG X (.Tuple es k pos) (gTup X.K n t)) : PG X (.Tuple es k pos) (gTup K n t) := e ▸ h
theorem isiK (e : X.K = K) : CallR X (.builtin "isinstance") (rIsi K) := e ▸ call_isi
theorem isiTK (e : X.K = K) : CallR X (.builtin "isinstance") (rIsiT K) := e ▸ call_isiT
theorem zipA {ta : TA} {p pos tpos : Pos} {elts : List Expr} {kk : Nat} {a a' : Expr} (e : X.K = K) (hg : Gl X "zip") (hm : X.mg "zip" = none) (ha : PA X [a, a'] ta) (hs : starEach [a, a'] X.env = (false, eval a X.env) :: starEach [a'] X.env := by rfl) (hpl : (backTo pos (starEach [a'] X.env)).any (·.1) = false := by rfl) : PI X (.Tuple elts kk tpos) (.Call (.Name "zip" p) [a, a'] [] pos) (RZ.iZipA K ta) := e ▸ RZ.pi_zipA hg hm ha hs hpl
theorem hu65 {k : Nat} {A : Around} (hr : Room k A) : A.units + 65 < cLine := by have := hr.un; omega
theorem bmK {e : Expr} {T : String} {r : V → List V → Hp → VK → Prop} {to : TE} {t : TA} (h : X.K = K) (x : PE X e (tBM X.K T r to t)) : PE X e (tBM K T r to t) := h ▸ x
theorem set0K {w : World} (e : X.w = w) : CallR X (.type "set") (rSet0 w) := e ▸ cr_set0
theorem saddK {w : World} {e : Expr} {to : TE} {t : TA} (h : X.w = w) (x : PE X e (tSAdd X.w to t)) : PE X e (tSAdd w to t) := h ▸ x
theorem snotinK {w : World} (e : X.w = w) : OpR X (compareOp .NotIn) (rSNotIn w) := e ▸ or_snotin
end
/-- a def that may be called -/
structure Cal (P : Program) (w : World) (K : PySem.W.Frag) (mg : Str → Option Value) (base : Heap) (x : Str) (k : Nat) (ps : List Str) (sp : Sp) (f : Addr) (fd : FuncData) : Prop where
  ok : FnOk P w K mg base CX0 k f fd ps sp
  g : mg x = some (.ref f)
  kp : PySem.W.keepIn K (.ref f) = true
  bd : Binds K fd ps []
def KbR (fd : FuncData) (ps : List Str) : Prop := ∀ (s : Shared) (ws : List Value), ws.length = ps.length → BindsTo s fd ⟨[], ps.reverse.zip ws⟩ (ps.zip ws.reverse)
theorem Fun.kbr {K : PySem.W.Frag} {x qual : Str} {st : Stmt} {f : Addr} {fd : FuncData} {ps : List Str} (F : Fun K x qual st f fd)
    (h : ∀ (kV doc pm : Value) (an : Option Addr) (cdv ct : Value) (ws : List Value), ws.length = ps.length → bindArgs (PySem.W.fnOf x qual (defArgs st) (defBody st) (defScope st) .none kV doc pm an cdv ct) ⟨[], ps.reverse.zip ws⟩ = pure (ps.zip ws.reverse)) : KbR fd ps := by
  obtain ⟨oc, od, kV, doc, pm, an, cdv, ct, osl, rfl, lk, hcd⟩ := F.ex
  exact fun s ws hl => .of_eq (h kV doc pm an cdv ct ws hl)
theorem inV_ints (z : Int) : ∀ ns : List Int, inV (.int z) (IL ns) = decide (z ∈ ns)
  | [] => by simp [inV]
  | x :: r => by
    have ih := inV_ints z r
    unfold inV at ih ⊢
    show (eqV (.int x) (.int z) || (IL r).any fun y => eqV y (V.int z)) = _
    rw [ih]
    simp only [eqV]
    by_cases h : x = z
    · subst h; simp
    · have h2 : ¬ z = x := fun e => h e.symm
      simp [h, h2]
section
variable {P : Program} {w : World} {K : PySem.W.Frag} {mg : Str → Option Value} {base : Heap}
end
def Dx (K : PySem.W.Frag) (x : Str) (st : Stmt) : Prop := ∃ (f : Addr) (oc : Value) (od an : Option Addr) (sl : Array (Option Value)) (kV dc pm cd ct : Value), PySem.W.nsIn K mainGlobals x = some (some (.ref f)) ∧
  K.lookup f = some ⟨oc, od, .func (PySem.W.fnOf x x (defArgs st) (defBody st) (defScope st) .none kV dc pm an cd ct), sl⟩ ∧ PySem.W.codeIn K cd x = true ∧ PySem.W.keepIn K (.ref f) = true
theorem dx_mk {K : PySem.W.Frag} {x : Str} {st : Stmt} {f : Addr} {oc : Value} {od an : Option Addr} {sl : Array (Option Value)} {kV dc pm cd ct : Value} (a : PySem.W.nsIn K mainGlobals x = some (some (.ref f)))
    (l : K.lookup f = some ⟨oc, od, .func (PySem.W.fnOf x x (defArgs st) (defBody st) (defScope st) .none kV dc pm an cd ct), sl⟩) (c : PySem.W.codeIn K cd x = true) (k : PySem.W.keepIn K (.ref f) = true) : Dx K x st := ⟨f, oc, od, an, sl, kV, dc, pm, cd, ct, a, l, c, k⟩
theorem Dx.fn {K : PySem.W.Frag} {x : Str} {st : Stmt} {h : Heap} {mg : Str → Option Value} (d : Dx K x st) (X : K.In h) (G : h.Ns mainGlobals mg) : ∃ f fd, Fun K x x st f fd ∧ mg x = some (.ref f) := by
  obtain ⟨f, oc, od, an, sl, kV, dc, pm, cd, ct, a, l, c, k⟩ := d
  exact ⟨f, _, fun_mk l c k, PySem.W.mg_of X G a⟩
structure Zs (K : PySem.W.Frag) : Prop where
  len : PySem.W.nsIn K mainGlobals "len" = some none
  list : PySem.W.nsIn K mainGlobals "list" = some none
  tuple : PySem.W.nsIn K mainGlobals "tuple" = some none
  range : PySem.W.nsIn K mainGlobals "range" = some none
  enumerate : PySem.W.nsIn K mainGlobals "enumerate" = some none
  all : PySem.W.nsIn K mainGlobals "all" = some none
  isinstance : PySem.W.nsIn K mainGlobals "isinstance" = some none
  zip : PySem.W.nsIn K mainGlobals "zip" = some none
  abs : PySem.W.nsIn K mainGlobals "abs" = some none
  int : PySem.W.nsIn K mainGlobals "int" = some none
  str : PySem.W.nsIn K mainGlobals "str" = some none
  bool : PySem.W.nsIn K mainGlobals "bool" = some none
  repr : PySem.W.nsIn K mainGlobals "repr" = some none
  set : PySem.W.nsIn K mainGlobals "set" = some none
  min : PySem.W.nsIn K mainGlobals "min" = some none
  max : PySem.W.nsIn K mainGlobals "max" = some none
  sorted : PySem.W.nsIn K mainGlobals "sorted" = some none
  sum : PySem.W.nsIn K mainGlobals "sum" = some none
  any : PySem.W.nsIn K mainGlobals "any" = some none
theorem Zs.bi {K : PySem.W.Frag} {h : Heap} {mg : Str → Option Value} (z : Zs K) (X : K.In h) (G : h.Ns mainGlobals mg) : Bi mg := by
  constructor
  · exact PySem.W.mg_none_of X G z.len
  · exact PySem.W.mg_none_of X G z.list
  · exact PySem.W.mg_none_of X G z.tuple
  · exact PySem.W.mg_none_of X G z.range
  · exact PySem.W.mg_none_of X G z.enumerate
  · exact PySem.W.mg_none_of X G z.all
  · exact PySem.W.mg_none_of X G z.isinstance
  · exact PySem.W.mg_none_of X G z.zip
  · exact PySem.W.mg_none_of X G z.abs
  · exact PySem.W.mg_none_of X G z.int
  · exact PySem.W.mg_none_of X G z.str
  · exact PySem.W.mg_none_of X G z.bool
  · exact PySem.W.mg_none_of X G z.repr
  · exact PySem.W.mg_none_of X G z.set
  · exact PySem.W.mg_none_of X G z.min
  · exact PySem.W.mg_none_of X G z.max
  · exact PySem.W.mg_none_of X G z.sorted
  · exact PySem.W.mg_none_of X G z.sum
  · exact PySem.W.mg_none_of X G z.any
abbrev FnT (x : Str) (st : Stmt) (kV doc pm : Value) (an : Option Addr) (cdv ct : Value) : FuncData := PySem.W.fnOf x x (defArgs st) (defBody st) (defScope st) .none kV doc pm an cdv ct
section
variable {K : PySem.W.Frag} {x : Str} {st : Stmt} {f : Addr} {fd : FuncData} {p p' p'' : Str} (F : Fun K x x st f fd)
include F
theorem b1 (h : ∀ kV doc pm an cdv ct u, bindArgs (FnT x st kV doc pm an cdv ct) ⟨[u], []⟩ = pure [(p, u)]) : Binds K fd [p] [] :=
  F.binds fun kV doc pm an cdv ct us hl => match us, hl with | [u], _ => h kV doc pm an cdv ct u
theorem b2 (h : ∀ kV doc pm an cdv ct u v, bindArgs (FnT x st kV doc pm an cdv ct) ⟨[u, v], []⟩ = pure [(p, u), (p', v)]) : Binds K fd [p, p'] [] :=
  F.binds fun kV doc pm an cdv ct us hl => match us, hl with | [u, v], _ => h kV doc pm an cdv ct u v
theorem b3 (h : ∀ kV doc pm an cdv ct u v t, bindArgs (FnT x st kV doc pm an cdv ct) ⟨[u, v, t], []⟩ = pure [(p, u), (p', v), (p'', t)]) : Binds K fd [p, p', p''] [] :=
  F.binds fun kV doc pm an cdv ct us hl => match us, hl with | [u, v, t], _ => h kV doc pm an cdv ct u v t
theorem r1 (h : ∀ kV doc pm an cdv ct u, bindArgs (FnT x st kV doc pm an cdv ct) ⟨[], [(p, u)]⟩ = pure [(p, u)]) : KbR fd [p] :=
  Fun.kbr F fun kV doc pm an cdv ct us hl => match us, hl with | [u], _ => h kV doc pm an cdv ct u
theorem r2 (h : ∀ kV doc pm an cdv ct u v, bindArgs (FnT x st kV doc pm an cdv ct) ⟨[], [(p', u), (p, v)]⟩ = pure [(p, v), (p', u)]) : KbR fd [p, p'] :=
  Fun.kbr F fun kV doc pm an cdv ct us hl => match us, hl with | [u, v], _ => h kV doc pm an cdv ct u v
theorem r3 (h : ∀ kV doc pm an cdv ct u v t, bindArgs (FnT x st kV doc pm an cdv ct) ⟨[], [(p'', u), (p', v), (p, t)]⟩ = pure [(p, t), (p', v), (p'', u)]) : KbR fd [p, p', p''] :=
  Fun.kbr F fun kV doc pm an cdv ct us hl => match us, hl with | [u, v, t], _ => h kV doc pm an cdv ct u v t
end
theorem Cal.up {P : Program} {w : World} {K : PySem.W.Frag} {mg : Str → Option Value} {base : Heap} {x : Str} {j k : Nat} {ps : List Str} {sp : Sp} {f : Addr} {fd : FuncData} (c : Cal P w K mg base x j ps sp f fd) (h : j ≤ k) : Cal P w K mg base x k ps sp f fd := ⟨c.ok.mono h, c.g, c.kp, c.bd⟩
end Lp

namespace Lp
open PySem PySem.Spec PyProof.Rows L2
section
variable {P : Program} {w : World} {K : PySem.W.Frag} {mg : Str → Option Value} {base : Heap}
end
theorem lay_ints : ∀ ns : List Int, PyData.canLayAll0 (dI ns) = true
  | [] => by simp [PyData.canLayAll0]
  | x :: r => by
    have := lay_ints r
    simp only [List.map_cons, PyData.canLayAll0, PyData.canLay0, this, Bool.and_self]
theorem depth_ints : ∀ ns : List Int, PyData.depthAll (dI ns) = 0
  | [] => by simp [PyData.depthAll]
  | x :: r => by
    have := depth_ints r
    simp only [List.map_cons, PyData.depthAll, PyData.depth, this]
    rfl
theorem shL (ns : List Int) : SeqAt.shaped (.list (dI ns)) = true := by
  unfold SeqAt.shaped
  simp only [PyData.canLay0, PyData.depth, lay_ints, depth_ints]
  decide
theorem eqv_ints : ∀ a b : List Int, PyData.eqvAll (dI a) (dI b) = decide (a = b)
  | [], [] => by simp [PyData.eqvAll]
  | [], _ :: _ => by simp [PyData.eqvAll]
  | _ :: _, [] => by simp [PyData.eqvAll]
  | x :: r, y :: t => by
    have ih := eqv_ints r t
    simp only [List.map_cons, PyData.eqvAll, PyData.eqv, ih]
    by_cases h : x = y
    · subst h
      by_cases h2 : r = t
      · subst h2; simp
      · simp [h2]
    · simp [h]
theorem eqvL (a b : List Int) : PyData.eqv (.list (dI a)) (.list (dI b)) = decide (a = b) := by
  simp only [PyData.eqv]; exact eqv_ints a b
end Lp

namespace Lp
open PySem PySem.Spec PyProof.Rows L2
abbrev tupIt (t : Addr) : Obj := { cls := .type "tuple_iterator", data := .fields #[.ref t, .int 0 0] }
abbrev enumOf (it : Addr) : Obj := { cls := .type "enumerate", data := .fields #[.none, .bool false, .ref it, rawInt 0, .none, .none] }
theorem meets_enT (t : Addr) (its : Array Value) : Meets (Builtin.«enumerate.__new__» ⟨[.type "enumerate", .ref t], []⟩) (fun _ R s => s.heap.IsTuple t its ∧
    R (.ok (.ret (.ref (s.heap.push (tupIt t)).objs.size))) { s with heap := (s.heap.push (tupIt t)).push (enumOf s.heap.objs.size) }) :=
  .of_wp fun prog w A R s h => by
    obtain ⟨hp, g, d, tk, os⟩ := s
    obtain ⟨ht, h⟩ := h
    have sub := sub_enumerate
    have goIt : ∀ {A' : Around} {X : Value → Shared → Prop} {Q : Value → Shared → Prop}, Q (.ref hp.objs.size) ⟨hp.push (tupIt t), g, d, tk, os⟩ → wpAny (model prog w) A' (pyIter (.ref t)) Q X ⟨hp, g, d, tk, os⟩ :=
      fun q => wpAny_pyIter_tuple ht q
    wp_walk using goIt
    refine wpAny_stack_any fun st => wpAny_pure ?_
    split
    · rename_i c _ _ _ _ _
      cases (c == Value.type "enumerate") <;> (wp_walk using goIt; exact ⟨_, rfl, h⟩)
    · wp_walk using goIt
      exact ⟨_, rfl, h⟩
theorem call_enT {prog : Program} {w : World} {A : Around} {X : Value → Shared → Prop} {s : Shared} {t : Addr} {its : Array Value} {Q : Value → Shared → Prop} (ht : s.heap.IsTuple t its)
    (h : ∀ h', IsEnum h' (s.heap.objs.size + 1) s.heap.objs.size 0 .none → h'.IsTupleIter s.heap.objs.size t 0 → (∀ b o, s.heap.get? b = some o → h'.get? b = some o) → Q (.ref (s.heap.objs.size + 1)) { s with heap := h' }) :
    wpAny (model prog w) A (call (.type "enumerate") [.ref t]) Q X s := by
  refine callType_new F.called_enumerate (by decide) (F.typeCall_enumerate_1 _) (F.newCall_enumerate_1 _) (fun obj => F.args_object_init_2 obj _) F.entry_enumerate_new (meets_enT t its) ⟨ht, ?_⟩
  have z1 : (s.heap.push (tupIt t)).objs.size = s.heap.objs.size + 1 := Heap.size_push ..
  show _ ∧ _
  rw [z1]
  have made : IsEnum ((s.heap.push (tupIt t)).push (enumOf s.heap.objs.size)) (s.heap.objs.size + 1) s.heap.objs.size 0 .none := by
    have y := Heap.get?_push_size (s.heap.push (tupIt t)) (o := enumOf s.heap.objs.size) rfl
    rw [z1] at y
    exact y
  exact ⟨⟨_, made, rfl⟩, h _ made ⟨_, Heap.get?_push_of_some _ (Heap.get?_push_size _ rfl), rfl, rfl⟩ fun b o x => Heap.get?_push_of_some _ (Heap.get?_push_of_some _ x)⟩
/-- the tuple at a, each item in a new pair -/
def IteT (K : PySem.W.Frag) (a : Addr) : It :=
  ⟨fun i H => ∃ (xs : List V) (x : V), SqT K H a xs ∧ xs[i]? = some x, fun i H v H' => ∃ T x, v = .ref T ∧ H T = none ∧ H' = upd H T (.tup [.int (i : Nat), x]) ∧ ∀ xs, SqT K H a xs → xs[i]? = some x, fun i H => ∃ xs : List V, SqT K H a xs ∧ xs.length ≤ i⟩
theorem apartT {h : Heap} {a e it : Addr} {its : Array Value} {k : Int} {old : Value} {i : Nat} (p : h.IsTuple a its) (he : IsEnum h e it k old) (hit : h.IsTupleIter it a i) : a ≠ it ∧ e ∉ [it, a] ∨ e = it := by
  obtain ⟨o, ho, hc, _⟩ := p
  obtain ⟨o2, h2, c2, _⟩ := hit
  have n1 : a ≠ it := fun z => by
    rw [z, h2] at ho
    cases ho
    rw [hc] at c2
    injection c2 with c3
    exact absurd c3 (by decide)
  have n2 : e ≠ a := fun z => by
    have he2 : h.get? e = some _ := he
    rw [z, ho] at he2
    have := congrArg (fun x => (Option.map Obj.cls x)) he2
    simp only [Option.map_some, Option.some.injEq] at this
    rw [hc] at this
    injection this with c3
    exact absurd c3 (by decide)
  by_cases q : e = it
  · exact .inr q
  · exact .inl ⟨n1, by simp [q, n2]⟩
theorem turn_enT {P : Program} {w : World} {K : PySem.W.Frag} {elts : List Expr} {kk : Nat} {tpos : Pos} (a e it : Addr) :
    Turn P w K (.Tuple elts kk tpos) (IteT K a) [e, it] e (fun i h => (∃ old, IsEnum h e it ((i : Nat) : Int) old) ∧ h.IsTupleIter it a i ∧ e ≠ it) where
  mem := by simp
  obj := fun i h st b hb => by
    obtain ⟨⟨old, he⟩, ⟨o, ho, hc, hd⟩, _⟩ := st
    rcases (show b = e ∨ b = it by simpa using hb) with z | z
    · subst z; exact ⟨_, he, fun v q => nomatch q⟩
    · subst z; exact ⟨o, ho, fun v q => by rw [hd] at q; cases q⟩
  keep := fun i h h' st k => by
    obtain ⟨⟨old, he⟩, hi, ne⟩ := st
    exact ⟨⟨old, k e (by simp) _ he⟩, hi.at fun o q => k it (by simp) o q, ne⟩
  item := by
    intro X hP hw hK hc i pins s σ H E I hf st hg
    subst hP hw hK
    obtain ⟨⟨old, he⟩, hit, ne⟩ := st
    obtain ⟨xs, x, hq, hx⟩ := hg
    obtain ⟨its, rv, p, few⟩ := I.tuple hq
    obtain ⟨u, hu, ru⟩ := rv.get hx
    have el : e < s.heap.objs.size := Heap.lt_size he
    have il : it < s.heap.objs.size := by obtain ⟨_, q, _⟩ := hit; exact Heap.lt_size q
    obtain ⟨n1, n2⟩ := (apartT p he hit).resolve_right ne
    have iu : i < its.toArray.size := by
      have := (List.getElem?_eq_some_iff.mp hu).1
      simpa using this
    refine wpAny_pyNext_enum_itemD (Draws.tuple (A := X.A.in1) (I.ok.hd hc) it a n1 its.toArray) he ⟨hit, p⟩ iu ne n2 fun y h' tk hy ho st' hT hsz hk => ?_
    have yu : y = u := by
      have hy2 : its.toArray[i]? = some y := hy
      rw [List.getElem?_toArray, hu] at hy2
      exact (Option.some.inj hy2).symm
    subst yu
    refine ⟨_, rfl, wpAny_letOwnedTupleGo_enum (s := { s with heap := h', toks := tk + 1 }) ho fun h2 he2 sb => ?_⟩
    have hT2 : h2.get? s.heap.objs.size = some { cls := .type "tuple", data := .seq #[.int i tk, y] } := (sb.2 _ (Nat.ne_of_gt el)).trans hT
    have pair : ObjOk X.prog X.w (upd H s.heap.objs.size (.tup [.int (i : Nat), x])) h2 s.heap.objs.size (.tup [.int (i : Nat), x]) :=
      ⟨by show 2 ≤ sizeLine; decide, [.int i tk, y], .cons ⟨_, rfl⟩ (.cons ru .nil), ⟨_, hT2, rfl, _, rfl⟩⟩
    have J : Inv X pins σ (upd H s.heap.objs.size (.tup [.int (i : Nat), x])) { s with heap := h2, toks := tk + 1 } :=
      I.turnedNew (ch := [e, it]) (fun b ob hb q => (sb.2 b (fun z => hb (by simp [z]))).trans (hk b ob (fun z => hb (by simp [z])) (fun z => hb (by simp [z])) q)) hf (Nat.le_refl _) pair
    refine ⟨.ref s.heap.objs.size, _, J, rfl, ⟨_, x, rfl, I.hok.fresh (Nat.le_refl _), rfl, fun ys hy => by rw [I.tuple_inj hy hq]; exact hx⟩, ⟨⟨y, ?_⟩, st'.1.at fun o q => (sb.2 it (Ne.symm ne)).trans q, ne⟩, fun b hb => ?_⟩
    · rw [show ((i + 1 : Nat) : Int) = (i : Int) + 1 by omega]; exact he2
    · have bl : b < s.heap.objs.size := by
        rcases (show b = e ∨ b = it by simpa using hb) with z | z
        · subst z; exact el
        · subst z; exact il
      rw [upd_ne (Nat.ne_of_lt bl)]
      exact (hf b hb).1
  done := by
    intro X hP hw hK hc i pins s σ H E I hf st hg
    subst hP hw hK
    obtain ⟨⟨old, he⟩, hit, ne⟩ := st
    obtain ⟨xs, hq, hx⟩ := hg
    obtain ⟨its, rv, p, few⟩ := I.tuple hq
    obtain ⟨n1, n2⟩ := (apartT p he hit).resolve_right ne
    obtain ⟨f0, f1, f2, f3, f4, f5⟩ := hf it (by simp)
    have hl := rv.length
    have hT : s.TypeIs (.ref e) "enumerate" := ⟨_, he, rfl⟩
    unfold pyNext
    refine wpAny_bind (wpAny_attempt (wpAny_callSpecial?_slot (name := Str.ofString "__next__") hT F.slot_enumerate_next
      (wpAny_call_entry F.slot_enumerate_next hT F.entry_enumerate_next ?_ (F.args_enumerate_next_1 _))))
    show wpAny _ _ (field (.ref e) 2 >>= _) _ _ _
    refine wpAny_bind (wpAny_field he rfl (x := .ref it) rfl ?_)
    refine wpAny_bind (wpAny_nextOf_tuple_end (A := X.A.in1) (I.ok.hd hc) hit p (by simp; omega) fun h' x eb hx' => ?_)
    obtain ⟨o, ho, hc'⟩ := hx'
    refine wpAny_bind (wpAny_isInstance (T := "StopIteration") (b := true) ⟨o, ho, hc'⟩ isSubtype_stop ?_)
    exact wpAny_pure ⟨rfl, I.turned (t' := s.toks) (fun b o hb q => eb b o hb q) f0 f1 f3 f4 f5⟩
  self := fun A i s Q E st h => by
    obtain ⟨⟨_, he⟩, _⟩ := st
    exact wpAny_pyIter_enum he h
/-- enumerate(e): a list or a tuple -/
def iEnA (K : PySem.W.Frag) (ta : TA) : TI := fun σ H R => ta σ H fun vs H1 => ∃ a xs, vs = [.ref a] ∧ ((SqL K H1 a xs ∧ R (Ite K a) H1) ∨ (SqT K H1 a xs ∧ R (IteT K a) H1))
theorem pi_enA {X : Cx} {e : Expr} {ta : TA} {p pos tpos : Pos} {elts : List Expr} {kk : Nat} (hg : Gl X "enumerate") (hm : X.mg "enumerate" = none) (ha : PA X [e] ta) (hs : starEach [e] X.env = [(false, eval e X.env)] := by rfl) :
    PI X (.Tuple elts kk tpos) (.Call (.Name "enumerate" p) [e] [] pos) (iEnA X.K ta) := by
  refine ⟨fun pins s σ H R I h => ?_⟩
  refine Call_ (ld_blt I hg hm boot_enumerate (PyProof.Rows.callWith_type1 (thn (ha.run pos pins s σ H _ I h) fun us s1 ⟨vs, H1, I1, r1, q1⟩ => ?_) hs rfl))
  obtain ⟨a, xs, rfl, ways⟩ := q1
  cases r1 with
  | cons r rr =>
    cases rr
    cases r
    have fresh : ∀ b, b ∈ [s1.heap.objs.size + 1, s1.heap.objs.size] → s1.heap.objs.size ≤ b := fun b hb => by
      rcases (show b = s1.heap.objs.size + 1 ∨ b = s1.heap.objs.size by simpa using hb) with z | z <;> omega
    rcases ways with ⟨hq, q⟩ | ⟨hq, q⟩
    · obtain ⟨its, rv, pl, few⟩ := I1.list hq
      refine call_enumerate_list pl.isList fun h' he hit hsz hk => wpAny_pyIter_enum he ?_
      exact ⟨s1.heap.objs.size + 1, _, _, _, H1, rfl, I1.kept (t' := s1.toks) hk, turn_enum a (s1.heap.objs.size + 1) s1.heap.objs.size, ⟨⟨.none, he⟩, hit, Nat.succ_ne_self _⟩, fun b hb => I1.fpOk (fresh b hb) (I1.hok.fresh (fresh b hb)), q⟩
    · obtain ⟨its, rv, pt, few⟩ := I1.tuple hq
      refine call_enT pt fun h' he hit hk => wpAny_pyIter_enum he ?_
      exact ⟨s1.heap.objs.size + 1, _, _, _, H1, rfl, I1.kept (t' := s1.toks) hk, turn_enT a (s1.heap.objs.size + 1) s1.heap.objs.size, ⟨⟨.none, he⟩, hit, Nat.succ_ne_self _⟩, fun b hb => I1.fpOk (fresh b hb) (I1.hok.fresh (fresh b hb)), q⟩
section
variable {w : Wx} {K : PySem.W.Frag} {ta te : TE} {f g : DTE}
theorem enumA2 {X : Cx} {ta : TA} {p pos tpos : Pos} {elts : List Expr} {kk : Nat} {a : Expr} (e : X.K = K) (hg : Gl X "enumerate") (hm : X.mg "enumerate" = none) (ha : PA X [a] ta) (hs : starEach [a] X.env = [(false, eval a X.env)] := by rfl) : PI X (.Tuple elts kk tpos) (.Call (.Name "enumerate" p) [a] [] pos) (iEnA K ta) := e ▸ pi_enA hg hm ha hs
theorem walkS_enumT {L : Hp} {a : Addr} {xs : List V} {ds : List PyData} (h : Sol L a xs) (r : DVs L xs ds) : WalkS true L (IteT K a) (enD ds) := by
  have hl := r.len
  refine ⟨fun i L' H' s1 s2 hi => ?_, fun L' H' s1 s2 => ?_, fun i d L' H' x H2 s1 s2 hd y => ?_⟩
  · rw [enD_len] at hi
    exact ⟨xs, xs[i]'(by omega), ((h.to s1).to s2).seq, List.getElem?_eq_getElem (by omega)⟩
  · rw [enD_len]
    exact ⟨xs, ((h.to s1).to s2).seq, by omega⟩
  · obtain ⟨T, z, rfl, nT, rfl, y2⟩ := y
    have hx := y2 xs ((h.to s1).to s2).seq
    obtain ⟨d', hd', rfl⟩ := enD_get hd
    obtain ⟨v, h1, h2⟩ := r.get hd'
    rw [hx] at h1
    cases h1
    exact ⟨L', Ext.own nT, same_own s2 (s2.free nT), .inr ⟨T, _, _, rfl, rfl, upd_same, .cons (.int _) (.cons (h2.to s1) .nil)⟩⟩
def dEnA (f : DTA) (ε : Env) (Q : List PyData → Bool → Env → Prop) : Prop := f ε fun rs ε1 => match rs with
  | [.sh (.list ds)] => Q (enD ds) true ε1
  | [.sh (.tuple ds)] => Q (enD ds) true ε1
  | _ => False
theorem si_enA {n : Nat} {t : TA} {f : DTA} (hf : SA w n t f) : SI w true (iEnA K t) (dEnA f) := by
  constructor
  · intro ε A B h q
    refine hf.mono _ _ _ (fun r ε1 q => ?_) q
    split at q
    · exact h _ _ _ q
    · exact h _ _ _ q
    · exact q.elim
  · intro Z O σ ε L H R X q
    refine hf.run Z O σ ε L H _ X (hf.mono _ _ _ (fun r ε1 q => ?_) q)
    intro vs L1 H1 X1 e1 r1 hl np
    split at q
    · rename_i ds
      cases r1 with
      | cons r1 r2 =>
        cases r2
        cases (show DV L1 _ (.list ds) from r1) with
        | lst h1 h2 =>
          have W := walkS_enum (K := K) h1 h2
          exact ⟨_, _, rfl, .inl ⟨SqL.of (X1.lh _ _ h1), q _ L1 H1 X1 e1 W.e fun _ => W⟩⟩
    · rename_i ds
      cases r1 with
      | cons r1 r2 =>
        cases r2
        cases (show DV L1 _ (.tuple ds) from r1) with
        | tup h1 h2 =>
          have W := walkS_enumT (K := K) h1 h2
          exact ⟨_, _, rfl, .inr ⟨(h1.to X1.lh).seq, q _ L1 H1 X1 e1 W.e fun _ => W⟩⟩
    · exact q.elim
end
section
variable {K : PySem.W.Frag} {x : Str} {st : Stmt} {f : Addr} {fd : FuncData} {p1 p2 p3 p4 p5 : Str} (F : Fun K x x st f fd)
include F
theorem b0 (h : ∀ kV doc pm an cdv ct, bindArgs (FnT x st kV doc pm an cdv ct) ⟨[], []⟩ = pure []) : Binds K fd [] [] :=
  F.binds fun kV doc pm an cdv ct us hl => match us, hl with | [], _ => h kV doc pm an cdv ct
theorem b4 (h : ∀ kV doc pm an cdv ct u1 u2 u3 u4, bindArgs (FnT x st kV doc pm an cdv ct) ⟨[u1, u2, u3, u4], []⟩ = pure [(p1, u1), (p2, u2), (p3, u3), (p4, u4)]) : Binds K fd [p1, p2, p3, p4] [] :=
  F.binds fun kV doc pm an cdv ct us hl => match us, hl with | [u1, u2, u3, u4], _ => h kV doc pm an cdv ct u1 u2 u3 u4
theorem r4 (h : ∀ kV doc pm an cdv ct u1 u2 u3 u4, bindArgs (FnT x st kV doc pm an cdv ct) ⟨[], [(p4, u1), (p3, u2), (p2, u3), (p1, u4)]⟩ = pure [(p1, u4), (p2, u3), (p3, u2), (p4, u1)]) : KbR fd [p1, p2, p3, p4] :=
  Fun.kbr F fun kV doc pm an cdv ct us hl => match us, hl with | [u1, u2, u3, u4], _ => h kV doc pm an cdv ct u1 u2 u3 u4
end
def φIsNB (x y : PyData) (Q : R → Prop) : Prop := match x, y with
  | .bool a, .bool b => Q (.sh (.bool (!decide (a = b))))
  | _, _ => False
end Lp

namespace Lp
open PySem PySem.Spec PyProof.Rows L2
def gt (ns : List Int) (i : Int) : Int := ns.getD i.toNat 0
def call1 (ns : List Int) (w : Int) : List Int := ns.set w.toNat (gt ns (gt ns w))
def callAll (ns ws : List Int) : List Int := ws.foldl call1 ns
theorem call1_len (ns : List Int) (w : Int) : (call1 ns w).length = ns.length := by unfold call1; rw [List.length_set]
theorem callAll_len : ∀ (ws ns : List Int), (callAll ns ws).length = ns.length
  | [], _ => rfl
  | w :: ws, ns => by
    show (callAll (call1 ns w) ws).length = ns.length
    rw [callAll_len ws, call1_len]
theorem gt_get {ns : List Int} {i : Int} (h0 : 0 ≤ i) (h1 : i < (ns.length : Int)) : ns[i.toNat]? = some (gt ns i) := by
  unfold gt
  have hl : i.toNat < ns.length := by omega
  rw [List.getD_eq_getElem?_getD, List.getElem?_eq_getElem hl]; rfl
theorem gt_low {n : Nat} {ns : List Int} {i : Int} (h : Low n ns) (h0 : 0 ≤ i) (h1 : i < (ns.length : Int)) : 0 ≤ gt ns i ∧ gt ns i < (n : Int) := h.at (gt_get h0 h1)
theorem call1_low {n : Nat} {ns : List Int} {w : Int} (h : Low n ns) (hn : ns.length = n) (h0 : 0 ≤ w) (h1 : w < (n : Int)) : Low n (call1 ns w) := by
  have a := gt_low h h0 (by omega)
  have b := gt_low h a.1 (by omega)
  exact h.set b.1 b.2
theorem callAll_low {n : Nat} : ∀ (ws ns : List Int), Low n ns → ns.length = n → Low n ws → Low n (callAll ns ws)
  | [], _, h, _, _ => h
  | w :: ws, ns, h, hn, hw => by
    have q := hw w (List.mem_cons_self)
    exact callAll_low ws (call1 ns w) (call1_low h hn q.1 q.2) (by rw [call1_len]; exact hn) fun z hz => hw z (List.mem_cons_of_mem _ hz)
theorem Low.take {n : Nat} {ws : List Int} (h : Low n ws) (i : Nat) : Low n (ws.take i) := fun z hz => h z (List.mem_of_mem_take hz)
def itr (ns : List Int) (p : Int) : Nat → Int
  | 0 => p
  | k + 1 => gt ns (itr ns p k)
theorem itr_succ (ns : List Int) (p : Int) : ∀ k, itr ns p (k + 1) = itr ns (gt ns p) k
  | 0 => rfl
  | k + 1 => by
    show gt ns (itr ns p (k + 1)) = gt ns (itr ns (gt ns p) k)
    rw [itr_succ ns p k]
theorem itr_low {ns : List Int} (lo : Low ns.length ns) {p : Int} (h0 : 0 ≤ p) (h1 : p < (ns.length : Int)) : ∀ k, 0 ≤ itr ns p k ∧ itr ns p k < (ns.length : Int)
  | 0 => ⟨h0, h1⟩
  | k + 1 => by
    have ih := itr_low lo h0 h1 k
    exact gt_low lo ih.1 ih.2
def itrs (ns : List Int) (p : Int) (m : Nat) : List Int := (List.range m).map (itr ns p)
theorem itrs_len (ns : List Int) (p : Int) (m : Nat) : (itrs ns p m).length = m := by unfold itrs; rw [List.length_map, List.length_range]
theorem itrs_succ (ns : List Int) (p : Int) (m : Nat) : itrs ns p (m + 1) = itrs ns p m ++ [itr ns p m] := by
  unfold itrs; rw [List.range_succ, List.map_append]; rfl
theorem itrs_get {ns : List Int} {p : Int} {m i : Nat} (h : i < m) : (itrs ns p m)[i]? = some (itr ns p i) := by
  unfold itrs
  rw [List.getElem?_map, List.getElem?_range h]; rfl
theorem itrs_mem {ns : List Int} {p z : Int} {m : Nat} : z ∈ itrs ns p m ↔ ∃ i, i < m ∧ itr ns p i = z := by
  unfold itrs
  rw [List.mem_map]
  constructor
  · rintro ⟨i, hi, e⟩; exact ⟨i, List.mem_range.mp hi, e⟩
  · rintro ⟨i, hi, e⟩; exact ⟨i, List.mem_range.mpr hi, e⟩
/-- rs: the people met from p on, each once -/
def Route (ns : List Int) (p : Int) (rs : List Int) : Prop := ∃ L, rs = itrs ns p L ∧ rs.Nodup ∧ itr ns p L ∈ rs
theorem itrs_apart {ns : List Int} {p : Int} {m i j : Nat} (nd : (itrs ns p m).Nodup) (hi : i < m) (hj : j < m) (e : itr ns p i = itr ns p j) : i = j := by
  have h1 := itrs_get (ns := ns) (p := p) hi
  have h2 := itrs_get (ns := ns) (p := p) hj
  rw [e] at h1
  exact nd_ix nd h1 h2
theorem Route.eq {ns : List Int} {p : Int} {rs rs' : List Int} (a : Route ns p rs) (b : Route ns p rs') : rs = rs' := by
  obtain ⟨L, rfl, n1, m1⟩ := a
  obtain ⟨M, rfl, n2, m2⟩ := b
  obtain ⟨i, hi, ei⟩ := itrs_mem.mp m1
  obtain ⟨j, hj, ej⟩ := itrs_mem.mp m2
  rcases Nat.lt_trichotomy L M with h | h | h
  · exact absurd (itrs_apart n2 (show i < M by omega) h ei) (by omega)
  · rw [h]
  · exact absurd (itrs_apart n1 (show j < L by omega) h ej) (by omega)
theorem Nodup.snoc {l : List Int} {z : Int} (h : l.Nodup) (n : z ∉ l) : (l ++ [z]).Nodup := by
  rw [List.nodup_append]
  refine ⟨h, List.nodup_cons.mpr ⟨List.not_mem_nil, List.nodup_nil⟩, fun a ha b hb => ?_⟩
  rw [List.mem_singleton] at hb
  subst hb
  exact fun e => n (e ▸ ha)
theorem low_len : ∀ (n : Nat) (l : List Int), l.Nodup → Low n l → l.length ≤ n
  | 0, l, _, h => by
    cases l with
    | nil => exact Nat.le_refl 0
    | cons x r => have := h x List.mem_cons_self; omega
  | n + 1, l, nd, h => by
    have h2 := low_len n (l.filter (fun z => decide (z ≠ (n : Int)))) (nd.filter _) fun z hz => by
      have q := List.mem_filter.mp hz
      have := h z q.1
      have := of_decide_eq_true q.2
      omega
    have h3 : l.length ≤ (l.filter (fun z => decide (z ≠ (n : Int)))).length + 1 := by
      clear h h2
      induction l with
      | nil => simp
      | cons x r ih =>
        have nd' := List.nodup_cons.mp nd
        by_cases hx : x = (n : Int)
        · have e : r.filter (fun z => decide (z ≠ (n : Int))) = r := List.filter_eq_self.mpr fun z hz => decide_eq_true fun e => nd'.1 (by rw [hx, ← e]; exact hz)
          rw [List.filter_cons_of_neg (by simp [hx]), e]; exact Nat.le_refl _
        · rw [List.filter_cons_of_pos (by simp [hx]), List.length_cons, List.length_cons]
          have := ih nd'.2
          omega
    omega
/-- behind the first return the pointers go round -/
theorem itr_round {ns : List Int} {p : Int} {b d : Nat} (h : itr ns p (b + d) = itr ns p b) : ∀ t, itr ns p (b + d + t) = itr ns p (b + t)
  | 0 => h
  | t + 1 => by
    show gt ns (itr ns p (b + d + t)) = gt ns (itr ns p (b + t))
    rw [itr_round h t]
theorem itr_mod {ns : List Int} {p : Int} {b d : Nat} (hd : 0 < d) (h : itr ns p (b + d) = itr ns p b) (t : Nat) : itr ns p (b + t) = itr ns p (b + t % d) := by
  induction t using Nat.strongRecOn with
  | ind t ih =>
    by_cases ht : t < d
    · rw [Nat.mod_eq_of_lt ht]
    · have e : t = d + (t - d) := by omega
      have := ih (t - d) (by omega)
      rw [e, ← Nat.add_assoc, itr_round h, this, Nat.add_mod_left]
def routeG (ns : List Int) : Nat → List Int → Int → List Int
  | 0, acc, _ => acc
  | k + 1, acc, at_ => if at_ ∈ acc then acc else routeG ns k (acc ++ [at_]) (gt ns at_)
def routeF (ns : List Int) (p : Int) : List Int := routeG ns (ns.length + 1) [] p
theorem routeG_ok {ns : List Int} (lo : Low ns.length ns) {p : Int} (p0 : 0 ≤ p) (p1 : p < (ns.length : Int)) : ∀ (k L : Nat), (itrs ns p L).Nodup → ns.length < k + L → Route ns p (routeG ns k (itrs ns p L) (itr ns p L))
  | 0, L, nd, h => by
    have := low_len ns.length _ nd fun z hz => by
      obtain ⟨i, _, ei⟩ := itrs_mem.mp hz
      have := itr_low lo p0 p1 i
      omega
    rw [itrs_len] at this
    omega
  | k + 1, L, nd, h => by
    unfold routeG
    by_cases hm : itr ns p L ∈ itrs ns p L
    · rw [if_pos hm]
      exact ⟨L, rfl, nd, hm⟩
    · rw [if_neg hm, ← itrs_succ]
      exact routeG_ok lo p0 p1 k (L + 1) (by rw [itrs_succ]; exact Nodup.snoc nd hm) (by omega)
theorem routeF_ok {ns : List Int} (lo : Low ns.length ns) {p : Int} (p0 : 0 ≤ p) (p1 : p < (ns.length : Int)) : Route ns p (routeF ns p) := routeG_ok lo p0 p1 (ns.length + 1) 0 List.nodup_nil (by omega)
def beginF (ns rs : List Int) : Nat := rs.idxOf (gt ns (rs.getLastD 0))
def minF : List Int → Int
  | [] => 0
  | x :: r => r.foldl (fun a b => if b < a then b else a) x
theorem fold_min : ∀ (r : List Int) (x : Int), (r.foldl (fun a b => if b < a then b else a) x = x ∨ r.foldl (fun a b => if b < a then b else a) x ∈ r) ∧ r.foldl (fun a b => if b < a then b else a) x ≤ x ∧ ∀ y ∈ r, r.foldl (fun a b => if b < a then b else a) x ≤ y
  | [], x => ⟨.inl rfl, Int.le_refl x, fun y h => nomatch h⟩
  | z :: r, x => by
    have ih := fold_min r (if z < x then z else x)
    show (r.foldl _ (if z < x then z else x) = x ∨ _) ∧ _
    refine ⟨?_, ?_, ?_⟩
    · rcases ih.1 with h | h
      · by_cases q : z < x
        · right
          show r.foldl _ (if z < x then z else x) ∈ z :: r
          rw [h, if_pos q]; exact List.mem_cons_self
        · left
          show r.foldl _ (if z < x then z else x) = x
          rw [h, if_neg q]
      · right; exact List.mem_cons_of_mem _ h
    · show r.foldl _ (if z < x then z else x) ≤ x
      have := ih.2.1
      split at this <;> rename_i q
      · rw [if_pos q]; omega
      · rw [if_neg q]; exact this
    · intro y hy
      show r.foldl _ (if z < x then z else x) ≤ y
      rcases List.mem_cons.mp hy with h | h
      · have := ih.2.1
        split at this <;> rename_i q
        · rw [if_pos q, h]; exact this
        · rw [if_neg q, h]; omega
      · exact ih.2.2 y h
theorem minF_ok {ms : List Int} (h : ms ≠ []) : minF ms ∈ ms ∧ ∀ y ∈ ms, minF ms ≤ y := by
  cases ms with
  | nil => exact absurd rfl h
  | cons x r =>
    have := fold_min r x
    refine ⟨?_, fun y hy => ?_⟩
    · rcases this.1 with e | e
      · show r.foldl _ x ∈ x :: r
        rw [e]; exact List.mem_cons_self
      · exact List.mem_cons_of_mem _ e
    · rcases List.mem_cons.mp hy with e | e
      · rw [e]; exact this.2.1
      · exact this.2.2 y e
/-- the list, turned so that its least member is the first -/
def turnF (ms : List Int) : List Int := ms.drop (ms.idxOf (minF ms)) ++ ms.take (ms.idxOf (minF ms))
def ringF (ns : List Int) (p : Int) : List Int := turnF ((routeF ns p).drop (beginF ns (routeF ns p)))
def heightF (ns : List Int) (p : Int) : Nat := beginF ns (routeF ns p)
theorem turnF_ne {ms : List Int} (h : ms ≠ []) : turnF ms ≠ [] := by
  intro e
  have := congrArg List.length e
  unfold turnF at this
  rw [List.length_append, List.length_drop, List.length_take, List.length_nil] at this
  have : ms.length = 0 := by omega
  exact h (List.eq_nil_of_length_eq_zero this)
/-- how a whole route begins its ring -/
theorem begin_at {ns : List Int} {p : Int} {L : Nat} (nd : (itrs ns p L).Nodup) (hin : itr ns p L ∈ itrs ns p L) {b : Nat} (hb : b < L) (eb : itr ns p b = itr ns p L) : beginF ns (itrs ns p L) = b := by
  obtain ⟨M, rfl⟩ : ∃ M, L = M + 1 := ⟨L - 1, by omega⟩
  unfold beginF
  have e : (itrs ns p (M + 1)).getLastD 0 = itr ns p M := by rw [itrs_succ]; simp
  rw [e]
  have hin' : gt ns (itr ns p M) ∈ itrs ns p (M + 1) := hin
  have h1 := idx_get hin'
  have hl := List.idxOf_lt_length_of_mem hin'
  rw [itrs_len] at hl
  rw [itrs_get hl] at h1
  exact itrs_apart nd hl hb ((Option.some.inj h1).trans eb.symm)
theorem lex_uniq : ∀ (a b : List (List Int)), a.Nodup → b.Nodup → a.Pairwise (fun x y => HT.lexLt y x = false) → b.Pairwise (fun x y => HT.lexLt y x = false) → (∀ k, k ∈ a ↔ k ∈ b) → a = b
  | [], [], _, _, _, _, _ => rfl
  | [], y :: _, _, _, _, _, h => nomatch (h y).mpr List.mem_cons_self
  | x :: _, [], _, _, _, _, h => nomatch (h x).mp List.mem_cons_self
  | x :: a, y :: b, na, nb, pa, pb, h => by
    have qa := List.pairwise_cons.mp pa
    have qb := List.pairwise_cons.mp pb
    have ra := List.nodup_cons.mp na
    have rb := List.nodup_cons.mp nb
    have e : x = y := by
      rcases List.mem_cons.mp ((h x).mp List.mem_cons_self) with e | e
      · exact e
      · rcases List.mem_cons.mp ((h y).mpr List.mem_cons_self) with e2 | e2
        · exact e2.symm
        · exact lex_eq x y (qb.1 x e) (qa.1 y e2)
    subst e
    have h2 : ∀ k, k ∈ a ↔ k ∈ b := fun k => by
      constructor
      · intro hk
        rcases List.mem_cons.mp ((h k).mp (List.mem_cons_of_mem _ hk)) with z | z
        · exact absurd (z ▸ hk) ra.1
        · exact z
      · intro hk
        rcases List.mem_cons.mp ((h k).mpr (List.mem_cons_of_mem _ hk)) with z | z
        · exact absurd (z ▸ hk) rb.1
        · exact z
    rw [lex_uniq a b ra.2 rb.2 qa.2 qb.2 h2]
/-- RS: all rings, ascending -/
def RingsOf (ns : List Int) (RS : List (List Int)) : Prop := RS.Nodup ∧ RS.Pairwise (fun x y => HT.lexLt y x = false) ∧ ∀ k, k ∈ RS ↔ ∃ j : Nat, j < ns.length ∧ ringF ns (j : Int) = k
theorem RingsOf.eq {ns : List Int} {a b : List (List Int)} (x : RingsOf ns a) (y : RingsOf ns b) : a = b := lex_uniq a b x.1 y.1 x.2.1 y.2.1 fun k => (x.2.2 k).trans (y.2.2 k).symm

theorem itr_add (ns : List Int) (p : Int) (a : Nat) : ∀ b, itr ns p (a + b) = itr ns (itr ns p a) b
  | 0 => rfl
  | b + 1 => congrArg (gt ns) (itr_add ns p a b)
theorem itrs_cat (ns : List Int) (p : Int) (a : Nat) : ∀ b, itrs ns p (a + b) = itrs ns p a ++ itrs ns (itr ns p a) b
  | 0 => (List.append_nil _).symm
  | b + 1 => by
    rw [← Nat.add_assoc, itrs_succ, itrs_cat ns p a b, itrs_succ, itr_add, List.append_assoc]
def Cyc (ns : List Int) (q : Int) (c : Nat) : Prop := 0 < c ∧ itr ns q c = q ∧ (itrs ns q c).Nodup
theorem Cyc.cut {ns : List Int} {q : Int} {c j : Nat} (h : j ≤ c) : (itrs ns q c).drop j = itrs ns (itr ns q j) (c - j) ∧ (itrs ns q c).take j = itrs ns q j := by
  obtain ⟨d, rfl⟩ : ∃ d, c = j + d := ⟨c - j, by omega⟩
  rw [itrs_cat, Nat.add_sub_cancel_left]
  have l := itrs_len ns q j
  constructor
  · conv => lhs; arg 1; rw [← l]
    rw [List.drop_left]
  · conv => lhs; arg 1; rw [← l]
    rw [List.take_left]
theorem Cyc.turn {ns : List Int} {q : Int} {c j : Nat} (x : Cyc ns q c) (h : j ≤ c) : itrs ns (itr ns q j) c = (itrs ns q c).drop j ++ (itrs ns q c).take j := by
  rw [(Cyc.cut h).1, (Cyc.cut h).2]
  have e : itrs ns (itr ns q j) c = itrs ns (itr ns q j) ((c - j) + j) := by congr 1; omega
  rw [e, itrs_cat, ← itr_add]
  have e2 : j + (c - j) = c := by omega
  rw [e2, x.2.1]
theorem Cyc.all {ns : List Int} {q : Int} {c : Nat} (x : Cyc ns q c) (t : Nat) : itr ns q t ∈ itrs ns q c := by
  have := itr_mod (ns := ns) (p := q) (b := 0) (d := c) x.1 (by rw [Nat.zero_add]; exact x.2.1) t
  rw [Nat.zero_add, Nat.zero_add] at this
  rw [this]
  exact itrs_mem.mpr ⟨t % c, Nat.mod_lt _ x.1, rfl⟩
theorem Cyc.at {ns : List Int} {q z : Int} {c : Nat} (x : Cyc ns q c) (h : z ∈ itrs ns q c) : Cyc ns z c ∧ ∀ y, y ∈ itrs ns z c ↔ y ∈ itrs ns q c := by
  obtain ⟨j, hj, rfl⟩ := itrs_mem.mp h
  have t := x.turn (j := j) (by omega)
  have pm : (itrs ns (itr ns q j) c).Perm (itrs ns q c) := by
    rw [t]
    have := List.perm_append_comm (l₁ := (itrs ns q c).drop j) (l₂ := (itrs ns q c).take j)
    rw [List.take_append_drop] at this
    exact this
  refine ⟨⟨x.1, ?_, pm.nodup_iff.mpr x.2.2⟩, fun y => pm.mem_iff⟩
  rw [← itr_add, Nat.add_comm, itr_add, x.2.1]
theorem Cyc.uniq {ns : List Int} {z : Int} {c d : Nat} (x : Cyc ns z c) (y : Cyc ns z d) : c = d := by
  rcases Nat.lt_trichotomy c d with h | h | h
  · have := itrs_apart y.2.2 (i := 0) (j := c) y.1 h x.2.1.symm
    have := x.1; omega
  · exact h
  · have := itrs_apart x.2.2 (i := 0) (j := d) x.1 h y.2.1.symm
    have := y.1; omega
theorem itrs_ne {ns : List Int} {q : Int} {c : Nat} (h : 0 < c) : itrs ns q c ≠ [] := fun e => by
  have := itrs_len ns q c
  rw [e] at this
  simp at this; omega
theorem Cyc.turnF {ns : List Int} {q : Int} {c : Nat} (x : Cyc ns q c) : turnF (itrs ns q c) = itrs ns (minF (itrs ns q c)) c := by
  have m := minF_ok (itrs_ne (ns := ns) (q := q) x.1)
  have il := List.idxOf_lt_length_of_mem m.1
  have g := idx_get m.1
  unfold Lp.turnF
  generalize hj : (itrs ns q c).idxOf (minF (itrs ns q c)) = j at il g
  rw [itrs_len] at il
  rw [itrs_get il] at g
  rw [← Option.some.inj g, x.turn (by omega)]
theorem Cyc.same {ns : List Int} {q r z : Int} {c d : Nat} (x : Cyc ns q c) (y : Cyc ns r d) (h1 : z ∈ itrs ns q c) (h2 : z ∈ itrs ns r d) : Lp.turnF (itrs ns q c) = Lp.turnF (itrs ns r d) := by
  have a := x.at h1
  have b := y.at h2
  have e := a.1.uniq b.1
  subst e
  rw [x.turnF, y.turnF]
  have m1 := minF_ok (itrs_ne (ns := ns) (q := q) x.1)
  have m2 := minF_ok (itrs_ne (ns := ns) (q := r) x.1)
  have := m1.2 _ ((a.2 _).mp ((b.2 _).mpr m2.1))
  have := m2.2 _ ((b.2 _).mp ((a.2 _).mpr m1.1))
  have e : minF (itrs ns q c) = minF (itrs ns r c) := by omega
  rw [e]
theorem ringF_cyc {ns : List Int} (lo : Low ns.length ns) {p : Int} (p0 : 0 ≤ p) (p1 : p < (ns.length : Int)) : ∃ c, Cyc ns (itr ns p (heightF ns p)) c ∧ ringF ns p = turnF (itrs ns (itr ns p (heightF ns p)) c) ∧ routeF ns p = itrs ns p (heightF ns p + c) := by
  have rt := routeF_ok lo p0 p1
  obtain ⟨L, hrs, nd, hin⟩ := id rt
  rw [hrs] at nd hin
  obtain ⟨b, hb, eb⟩ := itrs_mem.mp hin
  have e := begin_at nd hin hb eb
  have eh : heightF ns p = b := by unfold heightF; rw [hrs]; exact e
  have ct := Cyc.cut (ns := ns) (q := p) (c := L) (j := b) (by omega)
  rw [eh]
  refine ⟨L - b, ⟨by omega, ?_, ?_⟩, ?_, ?_⟩
  · rw [← itr_add]
    have : b + (L - b) = L := by omega
    rw [this, eb]
  · rw [← ct.1]
    exact nd.sublist (List.drop_sublist b _)
  · unfold ringF
    rw [hrs, e, ct.1]
  · rw [hrs]; congr 1; omega
theorem ringF_step {ns : List Int} (lo : Low ns.length ns) {p : Int} (p0 : 0 ≤ p) (p1 : p < (ns.length : Int)) : ringF ns (gt ns p) = ringF ns p := by
  have g := gt_low lo p0 (by omega)
  obtain ⟨c, x, e, _⟩ := ringF_cyc lo p0 p1
  obtain ⟨d, y, e2, _⟩ := ringF_cyc lo g.1 g.2
  rw [e, e2]
  refine y.same x (z := itr ns p (heightF ns p + (heightF ns (gt ns p) + 1))) ?_ ?_
  · have : heightF ns p + (heightF ns (gt ns p) + 1) = (heightF ns (gt ns p) + heightF ns p) + 1 := by omega
    rw [this, itr_succ, itr_add]
    exact y.all _
  · rw [itr_add]
    exact x.all _
theorem ringF_itr {ns : List Int} (lo : Low ns.length ns) {p : Int} (p0 : 0 ≤ p) (p1 : p < (ns.length : Int)) : ∀ k, ringF ns (itr ns p k) = ringF ns p
  | 0 => rfl
  | k + 1 => by
    have l := itr_low lo p0 p1 k
    show ringF ns (gt ns (itr ns p k)) = _
    rw [ringF_step lo l.1 l.2, ringF_itr lo p0 p1 k]
/-- a ring: its least member first, each member pointing at the next one -/
theorem ringF_form {ns : List Int} (lo : Low ns.length ns) {p : Int} (p0 : 0 ≤ p) (p1 : p < (ns.length : Int)) : ∃ m c, ringF ns p = itrs ns m c ∧ Cyc ns m c ∧ (∀ y ∈ ringF ns p, m ≤ y) ∧ 0 ≤ m ∧ m < (ns.length : Int) := by
  obtain ⟨c, x, e, _⟩ := ringF_cyc lo p0 p1
  have m := minF_ok (itrs_ne (ns := ns) (q := itr ns p (heightF ns p)) x.1)
  have a := x.at m.1
  have l := itr_low lo p0 p1 (heightF ns p)
  refine ⟨_, c, e.trans x.turnF, a.1, fun y hy => ?_, ?_⟩
  · rw [e, x.turnF] at hy
    exact m.2 y ((a.2 y).mp hy)
  · obtain ⟨i, _, ei⟩ := itrs_mem.mp m.1
    rw [← ei]
    exact itr_low lo l.1 l.2 i

def headF (ns : List Int) (p : Int) : Int := (ringF ns p).headD 0
theorem headF_form {ns : List Int} (lo : Low ns.length ns) {p : Int} (p0 : 0 ≤ p) (p1 : p < (ns.length : Int)) : ∃ c, ringF ns p = itrs ns (headF ns p) c ∧ Cyc ns (headF ns p) c ∧ 0 ≤ headF ns p ∧ headF ns p < (ns.length : Int) := by
  obtain ⟨m, c, e, cy, _, m0, m1⟩ := ringF_form lo p0 p1
  have em : headF ns p = m := by
    unfold headF
    obtain ⟨d, rfl⟩ : ∃ d, c = 1 + d := ⟨c - 1, by have := cy.1; omega⟩
    rw [e, itrs_cat]; rfl
  rw [em]
  exact ⟨c, e, cy, m0, m1⟩
theorem head_iff {ns : List Int} (lo : Low ns.length ns) {p q : Int} (p0 : 0 ≤ p) (p1 : p < (ns.length : Int)) (q0 : 0 ≤ q) (q1 : q < (ns.length : Int)) : headF ns p = headF ns q ↔ ringF ns p = ringF ns q := by
  constructor
  · intro e
    obtain ⟨c, e1, cy, _⟩ := headF_form lo p0 p1
    obtain ⟨d, e2, dy, _⟩ := headF_form lo q0 q1
    rw [e] at e1 cy
    rw [e1, e2, cy.uniq dy]
  · intro e
    unfold headF
    rw [e]
/-- the people below i whose ring begins with m -/
def compH (ns : List Int) (m : Int) (i : Nat) : List Int := ((List.range i).filter fun j : Nat => decide (headF ns (j : Int) = m)).map Int.ofNat
theorem compH_succ (ns : List Int) (m : Int) (i : Nat) : compH ns m (i + 1) = if headF ns (i : Int) = m then compH ns m i ++ [(i : Int)] else compH ns m i := by
  unfold compH
  rw [List.range_succ, List.filter_append, List.map_append]
  by_cases h : headF ns (i : Int) = m
  · rw [if_pos h, List.filter_cons_of_pos (p := fun j : Nat => decide (headF ns (j : Int) = m)) (decide_eq_true h)]; rfl
  · rw [if_neg h, List.filter_cons_of_neg (p := fun j : Nat => decide (headF ns (j : Int) = m)) (by rw [decide_eq_false h]; exact Bool.false_ne_true)]
    show _ ++ [] = _
    rw [List.append_nil]
theorem compH_mem {ns : List Int} {m z : Int} {i : Nat} : z ∈ compH ns m i ↔ ∃ j : Nat, j < i ∧ headF ns (j : Int) = m ∧ z = (j : Int) := by
  unfold compH
  rw [List.mem_map]
  constructor
  · rintro ⟨j, hj, e⟩
    have q := List.mem_filter.mp hj
    exact ⟨j, List.mem_range.mp q.1, of_decide_eq_true q.2, e.symm⟩
  · rintro ⟨j, hj, e, rfl⟩
    exact ⟨j, List.mem_filter.mpr ⟨List.mem_range.mpr hj, decide_eq_true e⟩, rfl⟩
def compF (ns : List Int) (p : Int) : List Int := compH ns (headF ns p) ns.length
def CompsOf (ns : List Int) (CS : List (List Int)) : Prop := CS.Nodup ∧ CS.Pairwise (fun x y => HT.lexLt y x = false) ∧ ∀ k, k ∈ CS ↔ ∃ j : Nat, j < ns.length ∧ compF ns (j : Int) = k
theorem CompsOf.eq {ns : List Int} {a b : List (List Int)} (x : CompsOf ns a) (y : CompsOf ns b) : a = b := lex_uniq a b x.1 y.1 x.2.1 y.2.1 fun k => (x.2.2 k).trans (y.2.2 k).symm
/-- on a ring: met again on the own way -/
theorem on_ring {ns : List Int} {z : Int} {c : Nat} (cy : Cyc ns z c) {rs : List Int} (rt : Route ns (gt ns z) rs) : z ∈ rs := by
  have m1 : gt ns z ∈ itrs ns z c := cy.all 1
  have a := cy.at m1
  have e := rt.eq ⟨c, rfl, a.1.2.2, a.1.all c⟩
  rw [e]
  exact (a.2 z).mpr (cy.all 0)
/-- off the rings: never met again -/
theorem off_ring {ns : List Int} (lo : Low ns.length ns) {p : Int} (p0 : 0 ≤ p) (p1 : p < (ns.length : Int)) {t : Nat} (ht : t < heightF ns p) {rs : List Int} (rt : Route ns (gt ns (itr ns p t)) rs) : itr ns p t ∉ rs := by
  obtain ⟨c, cy, _, er⟩ := ringF_cyc lo p0 p1
  have nd : (itrs ns p (heightF ns p + c)).Nodup := by
    have := routeF_ok lo p0 p1
    obtain ⟨L, e, nd, _⟩ := this
    rw [er] at nd; exact nd
  intro h
  obtain ⟨L, e, _, _⟩ := rt
  rw [e] at h
  obtain ⟨i, _, ei⟩ := itrs_mem.mp h
  rw [← itr_succ, ← itr_add] at ei
  have c0 := cy.1
  by_cases z : t + (i + 1) < heightF ns p + c
  · have := itrs_apart nd z (show t < heightF ns p + c by omega) ei
    omega
  · have e1 : t + (i + 1) = heightF ns p + (t + (i + 1) - heightF ns p) := by omega
    rw [e1, itr_mod c0 (by rw [itr_add]; exact cy.2.1)] at ei
    have hm := Nat.mod_lt (t + (i + 1) - heightF ns p) c0
    have := itrs_apart nd (show heightF ns p + (t + (i + 1) - heightF ns p) % c < heightF ns p + c by omega) (show t < heightF ns p + c by omega) ei
    omega
theorem nd_subG {α : Type} [DecidableEq α] : ∀ (a b : List α), a.Nodup → (∀ x ∈ a, x ∈ b) → a.length ≤ b.length
  | [], b, _, _ => Nat.zero_le _
  | x :: a, b, nd, h => by
    have q := List.nodup_cons.mp nd
    have xb := h x List.mem_cons_self
    have := nd_subG a (b.erase x) q.2 fun y hy => (List.mem_erase_of_ne (fun e : y = x => q.1 (by rw [← e]; exact hy))).mpr (h y (List.mem_cons_of_mem _ hy))
    rw [List.length_erase_of_mem xb] at this
    have := List.length_pos_of_mem xb
    rw [List.length_cons]; omega
theorem CompsOf.len {ns : List Int} {CS : List (List Int)} (h : CompsOf ns CS) : CS.length ≤ ns.length := by
  have := nd_subG CS ((List.range ns.length).map fun j : Nat => compF ns (j : Int)) h.1 fun x hx => by
    obtain ⟨j, hj, e⟩ := (h.2.2 x).mp hx
    exact List.mem_map.mpr ⟨j, List.mem_range.mpr hj, e⟩
  rw [List.length_map, List.length_range] at this
  exact this
/-- together they hold everybody once -/
theorem CompsOf.sum {ns : List Int} {CS : List (List Int)} (h : CompsOf ns CS) : (CS.map List.length).sum = ns.length := by
  rw [← List.length_flatten]
  have nd : CS.flatten.Nodup := by
    refine List.pairwise_flatten.mpr ⟨fun l hl => ?_, List.Pairwise.imp_of_mem (fun {a b} ha hb ne x hx y hy e => ?_) h.1⟩
    · obtain ⟨j, _, e⟩ := (h.2.2 l).mp hl
      rw [← e]
      refine List.pairwise_map.mpr (List.Pairwise.imp (fun {a b} ne e => ne (Int.ofNat.inj e)) (List.Pairwise.filter _ List.nodup_range))
    · subst e
      obtain ⟨i, _, ei⟩ := (h.2.2 a).mp ha
      obtain ⟨j, _, ej⟩ := (h.2.2 b).mp hb
      rw [← ei] at hx
      rw [← ej] at hy
      obtain ⟨u, _, h1, e1⟩ := compH_mem.mp hx
      obtain ⟨v, _, h2, e2⟩ := compH_mem.mp hy
      have : u = v := by omega
      subst this
      refine ne ?_
      rw [← ei, ← ej]
      unfold compF
      rw [← h1, h2]
  refine Nat.le_antisymm (low_len _ _ nd fun z hz => ?_) ?_
  · obtain ⟨l, hl, hz⟩ := List.mem_flatten.mp hz
    obtain ⟨j, _, e⟩ := (h.2.2 l).mp hl
    rw [← e] at hz
    obtain ⟨u, hu, _, eu⟩ := compH_mem.mp hz
    omega
  · have := nd_subG ((List.range ns.length).map Int.ofNat) CS.flatten (List.pairwise_map.mpr (List.Pairwise.imp (fun {a b} ne e => ne (Int.ofNat.inj e)) List.nodup_range)) fun x hx => by
      obtain ⟨j, hj, e⟩ := List.mem_map.mp hx
      have hj' := List.mem_range.mp hj
      refine List.mem_flatten.mpr ⟨compF ns (j : Int), (h.2.2 _).mpr ⟨j, hj', rfl⟩, ?_⟩
      exact compH_mem.mpr ⟨j, hj', rfl, e.symm⟩
    rw [List.length_map, List.length_range] at this
    exact this
theorem gt_callN {ns : List Int} {w p : Int} (w0 : 0 ≤ w) (w1 : w < (ns.length : Int)) (p0 : 0 ≤ p) : gt (call1 ns w) p = if p = w then gt ns (gt ns w) else gt ns p := by
  show (ns.set w.toNat (gt ns (gt ns w))).getD p.toNat 0 = if p = w then _ else ns.getD p.toNat 0
  rw [List.getD_eq_getElem?_getD, List.getD_eq_getElem?_getD, List.getElem?_set]
  by_cases h : p = w
  · subst h
    rw [if_pos rfl, if_pos rfl, if_pos (by omega)]; rfl
  · rw [if_neg h, if_neg (by omega)]
section
variable {ns : List Int} (lo : Low ns.length ns) {w : Int} (w0 : 0 ≤ w) (w1 : w < (ns.length : Int))
include lo w0 w1
theorem low_call : Low (call1 ns w).length (call1 ns w) := by
  rw [call1_len]; exact call1_low lo rfl w0 w1
/-- a step behind the call is one or two steps ahead of it -/
theorem itr_call {p : Int} (p0 : 0 ≤ p) (p1 : p < (ns.length : Int)) : ∀ k, ∃ k', k ≤ k' ∧ itr (call1 ns w) p k = itr ns p k'
  | 0 => ⟨0, Nat.le_refl _, rfl⟩
  | k + 1 => by
    obtain ⟨k', hk, e⟩ := itr_call p0 p1 k
    have l := itr_low lo p0 p1 k'
    have g := gt_callN w0 w1 l.1 (ns := ns)
    have e2 : itr (call1 ns w) p (k + 1) = gt (call1 ns w) (itr ns p k') := congrArg (gt (call1 ns w)) e
    by_cases z : itr ns p k' = w
    · refine ⟨k' + 2, by omega, ?_⟩
      rw [e2, g, if_pos z, ← z]; rfl
    · refine ⟨k' + 1, by omega, ?_⟩
      rw [e2, g, if_neg z]; rfl
theorem ring_stepC {p : Int} (p0 : 0 ≤ p) (p1 : p < (ns.length : Int)) : ringF (call1 ns w) (gt ns p) = ringF (call1 ns w) p := by
  have lc := low_call lo w0 w1
  have len : (call1 ns w).length = ns.length := call1_len _ _
  have g := gt_low lo p0 p1
  by_cases z : p = w
  · subst z
    by_cases y : gt ns p = p
    · rw [y]
    · have s1 := ringF_step lc (p := p) p0 (by rw [len]; exact p1)
      have s2 := ringF_step lc (p := gt ns p) g.1 (by rw [len]; exact g.2)
      rw [gt_callN w0 w1 p0, if_pos rfl] at s1
      rw [gt_callN w0 w1 g.1, if_neg y] at s2
      rw [← s2, s1]
  · have s1 := ringF_step lc (p := p) p0 (by rw [len]; exact p1)
    rw [gt_callN w0 w1 p0, if_neg z] at s1
    exact s1
theorem ring_itrC {p : Int} (p0 : 0 ≤ p) (p1 : p < (ns.length : Int)) : ∀ k, ringF (call1 ns w) (itr ns p k) = ringF (call1 ns w) p
  | 0 => rfl
  | k + 1 => by
    have l := itr_low lo p0 p1 k
    show ringF (call1 ns w) (gt ns (itr ns p k)) = _
    rw [ring_stepC lo w0 w1 l.1 l.2, ring_itrC p0 p1 k]
end
theorem ring_itr {ns : List Int} (lo : Low ns.length ns) {p m : Int} (p0 : 0 ≤ p) (p1 : p < (ns.length : Int)) (h : m ∈ ringF ns p) : ∃ s, itr ns p s = m := by
  obtain ⟨c, x, e, _⟩ := ringF_cyc lo p0 p1
  rw [e, x.turnF] at h
  have mm := minF_ok (itrs_ne (ns := ns) (q := itr ns p (heightF ns p)) x.1)
  obtain ⟨i, _, ei⟩ := itrs_mem.mp (((x.at mm.1).2 m).mp h)
  exact ⟨heightF ns p + i, by rw [itr_add]; exact ei⟩
theorem meet_iff {ns : List Int} (lo : Low ns.length ns) {p r : Int} (p0 : 0 ≤ p) (p1 : p < (ns.length : Int)) (r0 : 0 ≤ r) (r1 : r < (ns.length : Int)) : ringF ns p = ringF ns r ↔ ∃ s t, itr ns p s = itr ns r t := by
  constructor
  · intro e
    obtain ⟨m, c, e1, cy, _⟩ := ringF_form lo p0 p1
    have hm : m ∈ ringF ns p := by rw [e1]; exact itrs_mem.mpr ⟨0, cy.1, rfl⟩
    obtain ⟨s, es⟩ := ring_itr lo p0 p1 hm
    obtain ⟨t, et⟩ := ring_itr lo r0 r1 (e ▸ hm)
    exact ⟨s, t, es.trans et.symm⟩
  · rintro ⟨s, t, e⟩
    rw [← ringF_itr lo p0 p1 s, ← ringF_itr lo r0 r1 t, e]
theorem ring_call {ns : List Int} (lo : Low ns.length ns) {w p r : Int} (w0 : 0 ≤ w) (w1 : w < (ns.length : Int)) (p0 : 0 ≤ p) (p1 : p < (ns.length : Int)) (r0 : 0 ≤ r) (r1 : r < (ns.length : Int)) : ringF ns p = ringF ns r ↔ ringF (call1 ns w) p = ringF (call1 ns w) r := by
  have lc := low_call lo w0 w1
  have len : (call1 ns w).length = ns.length := call1_len _ _
  constructor
  · intro e
    obtain ⟨s, t, e⟩ := (meet_iff lo p0 p1 r0 r1).mp e
    rw [← ring_itrC lo w0 w1 p0 p1 s, ← ring_itrC lo w0 w1 r0 r1 t, e]
  · intro e
    obtain ⟨s, t, e⟩ := (meet_iff lc p0 (by rw [len]; exact p1) r0 (by rw [len]; exact r1)).mp e
    obtain ⟨s', _, es⟩ := itr_call lo w0 w1 p0 p1 s
    obtain ⟨t', _, et⟩ := itr_call lo w0 w1 r0 r1 t
    exact (meet_iff lo p0 p1 r0 r1).mpr ⟨s', t', by rw [← es, ← et]; exact e⟩
theorem comp_call {ns : List Int} (lo : Low ns.length ns) {w : Int} (w0 : 0 ≤ w) (w1 : w < (ns.length : Int)) {p : Nat} (hp : p < ns.length) : compF (call1 ns w) (p : Int) = compF ns (p : Int) := by
  have lc := low_call lo w0 w1
  have len : (call1 ns w).length = ns.length := call1_len _ _
  unfold compF compH
  rw [len]
  congr 1
  refine List.filter_congr fun j hj => ?_
  have hj' := List.mem_range.mp hj
  have a := head_iff lo (p := (j : Int)) (q := (p : Int)) (by omega) (by omega) (by omega) (by omega)
  have b := head_iff lc (p := (j : Int)) (q := (p : Int)) (by omega) (by omega) (by omega) (by omega)
  have c := ring_call lo w0 w1 (p := (j : Int)) (r := (p : Int)) (by omega) (by omega) (by omega) (by omega)
  by_cases z : headF ns (j : Int) = headF ns (p : Int)
  · rw [decide_eq_true z, decide_eq_true (b.mpr (c.mp (a.mp z)))]
  · rw [decide_eq_false z, decide_eq_false (fun y => z (a.mpr (c.mpr (b.mp y))))]
theorem CompsOf.call {ns : List Int} (lo : Low ns.length ns) {w : Int} (w0 : 0 ≤ w) (w1 : w < (ns.length : Int)) {CS : List (List Int)} (h : CompsOf ns CS) : CompsOf (call1 ns w) CS := by
  refine ⟨h.1, h.2.1, fun k => (h.2.2 k).trans ?_⟩
  rw [call1_len]
  constructor
  · rintro ⟨j, hj, e⟩; exact ⟨j, hj, (comp_call lo w0 w1 hj).trans e⟩
  · rintro ⟨j, hj, e⟩; exact ⟨j, hj, (comp_call lo w0 w1 hj).symm.trans e⟩
theorem way_call {ns : List Int} (lo : Low ns.length ns) {w p : Int} (w0 : 0 ≤ w) (w1 : w < (ns.length : Int)) (p0 : 0 ≤ p) (p1 : p < (ns.length : Int)) {rs rs' : List Int} (a : Route ns (gt ns p) rs) (b : Route (call1 ns w) (gt (call1 ns w) p) rs') : ∀ z ∈ rs', z ∈ rs := by
  intro z hz
  obtain ⟨L, e, _, _⟩ := b
  rw [e] at hz
  obtain ⟨i, _, ei⟩ := itrs_mem.mp hz
  rw [← itr_succ] at ei
  obtain ⟨k, hk, ek⟩ := itr_call lo w0 w1 p0 p1 (i + 1)
  rw [ei] at ek
  obtain ⟨k', rfl⟩ : ∃ k', k = k' + 1 := ⟨k - 1, by omega⟩
  rw [itr_succ] at ek
  obtain ⟨M, rfl, nd, hin⟩ := a
  obtain ⟨b, hb, eb⟩ := itrs_mem.mp hin
  rw [ek]
  by_cases y : k' < M
  · exact itrs_mem.mpr ⟨k', y, rfl⟩
  · have m := itr_mod (ns := ns) (p := gt ns p) (b := b) (d := M - b) (by omega) (by
      have : b + (M - b) = M := by omega
      rw [this, eb]) (k' - b)
    have e3 : b + (k' - b) = k' := by omega
    rw [e3] at m
    have hm := Nat.mod_lt (k' - b) (show 0 < M - b by omega)
    exact itrs_mem.mpr ⟨b + (k' - b) % (M - b), by omega, m.symm⟩
theorem ring_at {ns : List Int} (lo : Low ns.length ns) {m : Int} (m0 : 0 ≤ m) (m1 : m < (ns.length : Int)) {c : Nat} (cy : Cyc ns m c) : ringF ns m = turnF (itrs ns m c) := by
  obtain ⟨d, x, e, _⟩ := ringF_cyc lo m0 m1
  rw [e]
  exact x.same cy (z := itr ns m (heightF ns m)) (x.all 0) (cy.all _)
end Lp

namespace Lp
open PySem PySem.Spec PyProof.Rows L2
def gv (i : Nat) (o : Option SV) (ε : Env) (Q : R → Env → Prop) : Prop := match o with
  | some (.sh d) => Q (.sh d) ε
  | some (.ow ds) => Q (.br i ds) ε
  | some .bx => Q .bx ε
  | some (.raw v) => Q (.raw v) ε
  | some (.st S n) => Q (.sr i S n) ε
  | some (.exn x) => Q (.exn x) ε
  | some (.dco xs) => Q (.dbr i xs) ε
  | some (.sto M) => Q (.srt i M) ε
  | some (.dsh xs) => Q (.dsh xs) ε
  | _ => False
theorem dVar_ (i : Nat) (ε : Env) (Q : R → Env → Prop) : dVar i ε Q = gv i ε.s[i]? ε Q := rfl
section
variable (i : Nat) (ε : Env) (Q : R → Env → Prop)
theorem gv_sh (d : PyData) : gv i (some (.sh d)) ε Q = Q (.sh d) ε := rfl
theorem gv_ow (ds : List PyData) : gv i (some (.ow ds)) ε Q = Q (.br i ds) ε := rfl
theorem gv_bx : gv i (some .bx) ε Q = Q .bx ε := rfl
theorem gv_raw (v : V) : gv i (some (.raw v)) ε Q = Q (.raw v) ε := rfl
theorem gv_dco (xs : List DRow) : gv i (some (.dco xs)) ε Q = Q (.dbr i xs) ε := rfl
theorem gv_sto (M : List (List Int)) : gv i (some (.sto M)) ε Q = Q (.srt i M) ε := rfl
theorem gv_dsh (xs : List DRow) : gv i (some (.dsh xs)) ε Q = Q (.dsh xs) ε := rfl
theorem gv_exn (x : Xn) : gv i (some (.exn x)) ε Q = Q (.exn x) ε := rfl
theorem gv_st (S : Int → Bool) (n : Nat) : gv i (some (.st S n)) ε Q = Q (.sr i S n) ε := rfl
end
def ga (F : DSp) (o : Option (List SV)) (b : Bool) (ε : Env) (Q : R → Env → Prop) : Prop := match o with
  | some args => F args ε.c fun r c => match b with
    | true => immR r = true ∧ Q r ⟨ε.s, c⟩
    | false => Q r ⟨ε.s, c⟩
  | none => False
theorem dArgs_ (F : DSp) (rs : List R) (ε : Env) (Q : R → Env → Prop) : dArgs F rs ε Q = ga F (argsOf rs) (hasBr rs) ε Q := rfl
theorem ga_f (F : DSp) (args : List SV) (ε : Env) (Q : R → Env → Prop) : ga F (some args) false ε Q = F args ε.c fun r c => Q r ⟨ε.s, c⟩ := rfl
theorem ga_t (F : DSp) (args : List SV) (ε : Env) (Q : R → Env → Prop) : ga F (some args) true ε Q = F args ε.c fun r c => immR r = true ∧ Q r ⟨ε.s, c⟩ := rfl
def gi (r : R) (ε : Env) (Q : List PyData → Bool → Env → Prop) : Prop := match r with
  | .sh (.list ds) => Q ds true ε
  | .sh (.tuple ds) => Q ds true ε
  | .br _ ds => Q ds false ε
  | _ => False
theorem dIter_ (f : DTE) (ε : Env) (Q : List PyData → Bool → Env → Prop) : dIter f ε Q = f ε fun r ε1 => gi r.pub ε1 Q := rfl
theorem gi_l (ds : List PyData) (ε : Env) (Q : List PyData → Bool → Env → Prop) : gi (.sh (.list ds)) ε Q = Q ds true ε := rfl
theorem gi_t (ds : List PyData) (ε : Env) (Q : List PyData → Bool → Env → Prop) : gi (.sh (.tuple ds)) ε Q = Q ds true ε := rfl
theorem gi_b (i : Nat) (ds : List PyData) (ε : Env) (Q : List PyData → Bool → Env → Prop) : gi (.br i ds) ε Q = Q ds false ε := rfl
section
variable (Q : R → Prop)
theorem add_i (i j : Int) : φAdd (.int i) (.int j) Q = Q (.sh (.int (i + j))) := rfl
theorem add_l (a b : List PyData) : φAdd (.list a) (.list b) Q = (a.length + b.length ≤ sizeLine ∧ Q (.nw (a ++ b))) := rfl
theorem add_t (a b : List PyData) : φAdd (.tuple a) (.tuple b) Q = (a.length + b.length ≤ sizeLine ∧ Q (.sh (.tuple (a ++ b)))) := rfl
theorem mul_i (i j : Int) : φMul (.int i) (.int j) Q = (CMulW i j ∧ Q (.sh (.int (i * j)))) := rfl
theorem mul_l (a : List PyData) (k : Int) : φMul (.list a) (.int k) Q = ((-(2 ^ 63) ≤ k ∧ k < 2 ^ 63 ∧ a.length * k.toNat ≤ sizeLine) ∧ Q (.nw (List.replicate k.toNat a).flatten)) := rfl
theorem sl_l (ds : List PyData) (l h : Option Int) : φSl (.list ds) l h Q = Q (.nw (cutD ds l h)) := rfl
theorem sl_t (ds : List PyData) (l h : Option Int) : φSl (.tuple ds) l h Q = Q (.sh (.tuple (cutD ds l h))) := rfl
theorem eq_i (n : Bool) (i j : Int) : φEq n (.int i) (.int j) Q = Q (.sh (.bool (if n then !decide (i = j) else decide (i = j)))) := rfl
theorem eq_s (n : Bool) (i j : Str) : φEq n (.str i) (.str j) Q = Q (.sh (.bool (if n then !decide (i = j) else decide (i = j)))) := rfl
theorem eq_l (n : Bool) (a b : List PyData) : φEq n (.list a) (.list b) Q = ((SeqAt.shaped (.list a) = true ∧ SeqAt.shaped (.list b) = true) ∧ Q (.sh (.bool (if n then !PyData.eqv (.list a) (.list b) else PyData.eqv (.list a) (.list b))))) := rfl
theorem eq_t (n : Bool) (a b : List PyData) : φEq n (.tuple a) (.tuple b) Q = ((SeqAt.shaped (.tuple a) = true ∧ SeqAt.shaped (.tuple b) = true) ∧ Q (.sh (.bool (if n then !PyData.eqv (.tuple a) (.tuple b) else PyData.eqv (.tuple a) (.tuple b))))) := rfl
theorem eq_b (n : Bool) (a b : Bool) : φEq n (.bool a) (.bool b) Q = ((SeqAt.shaped (.bool a) = true ∧ SeqAt.shaped (.bool b) = true) ∧ Q (.sh (.bool (if n then !PyData.eqv (.bool a) (.bool b) else PyData.eqv (.bool a) (.bool b))))) := rfl
theorem eq_n (n : Bool) : φEq n .none .none Q = ((SeqAt.shaped .none = true ∧ SeqAt.shaped .none = true) ∧ Q (.sh (.bool (if n then !PyData.eqv .none .none else PyData.eqv .none .none)))) := rfl
end
end Lp

namespace Lp
open PySem PySem.Spec PyProof.Rows L2
theorem its_l (ds : List PyData) : PyData.its (.list ds) = some ds := rfl
theorem its_t (ds : List PyData) : PyData.its (.tuple ds) = some ds := rfl
theorem isN_n : isN .none = true := rfl
theorem isN_b (b : Bool) : isN (.bool b) = false := rfl
theorem isN_i (z : Int) : isN (.int z) = false := rfl
theorem isN_s (x : Str) : isN (.str x) = false := rfl
theorem isN_l (ds : List PyData) : isN (.list ds) = false := rfl
theorem isN_t (ds : List PyData) : isN (.tuple ds) = false := rfl
theorem rd_sh (d : PyData) : R.dat (.sh d) = some d := rfl
theorem rd_nw (ds : List PyData) : R.dat (.nw ds) = some (.list ds) := rfl
theorem rd_br (i : Nat) (ds : List PyData) : R.dat (.br i ds) = some (.list ds) := rfl
theorem rp_sh (d : PyData) : R.pub (.sh d) = .sh d := rfl
theorem rp_nw (ds : List PyData) : R.pub (.nw ds) = .sh (.list ds) := rfl
theorem rp_br (i : Nat) (ds : List PyData) : R.pub (.br i ds) = .br i ds := rfl
theorem rp_bx : R.pub .bx = .bx := rfl
theorem rp_raw (v : V) : R.pub (.raw v) = .raw v := rfl
theorem rp_sr (i : Nat) (S : Int → Bool) (n : Nat) : R.pub (.sr i S n) = .sr i S n := rfl
theorem rr_sh (d : PyData) : R.ret (.sh d) = some (.sh d) := rfl
theorem rr_nw (ds : List PyData) : R.ret (.nw ds) = some (.nw ds) := rfl
theorem rr_br (i : Nat) (ds : List PyData) : R.ret (.br i ds) = some (.nw ds) := rfl
theorem ra_sh (d : PyData) : R.arg (.sh d) = some (.sh d) := rfl
theorem ra_br (i : Nat) (ds : List PyData) : R.arg (.br i ds) = some (.sh (.list ds)) := rfl
theorem ra_bx : R.arg .bx = some .bx := rfl
theorem ra_raw (v : V) : R.arg (.raw v) = some (.raw v) := rfl
theorem va_sh (o : Bool) (d : PyData) : val o (.sh d) = some (.sh d) := rfl
theorem va_nt (ds : List PyData) : val true (.nw ds) = some (.ow ds) := rfl
theorem va_nf (ds : List PyData) : val false (.nw ds) = some (.sh (.list ds)) := rfl
theorem va_raw (o : Bool) (v : V) : val o (.raw v) = some (.raw v) := rfl
theorem hb_n : hasBr [] = false := rfl
theorem hb_sh (d : PyData) (rs : List R) : hasBr (.sh d :: rs) = hasBr rs := rfl
theorem hb_bx (rs : List R) : hasBr (.bx :: rs) = hasBr rs := rfl
theorem hb_raw (v : V) (rs : List R) : hasBr (.raw v :: rs) = hasBr rs := rfl
theorem hb_br (i : Nat) (ds : List PyData) (rs : List R) : hasBr (.br i ds :: rs) = true := rfl
theorem sh_n : shs [] = some [] := rfl
theorem sh_c (d : PyData) (rs : List R) : shs (.sh d :: rs) = match shs rs with
    | some ds => some (d :: ds)
    | none => none := rfl
theorem tr_n : truD .none = some false := rfl
theorem tr_b (b : Bool) : truD (.bool b) = some b := rfl
theorem tr_i (z : Int) : truD (.int z) = some (z != 0) := rfl
theorem tr_l (ds : List PyData) : truD (.list ds) = some (!ds.isEmpty) := rfl
theorem tr_t (ds : List PyData) : truD (.tuple ds) = some (!ds.isEmpty) := rfl
theorem ty_n : tyD .none = "NoneType" := rfl
theorem ty_b (b : Bool) : tyD (.bool b) = "bool" := rfl
theorem ty_i (z : Int) : tyD (.int z) = "int" := rfl
theorem ty_s (x : Str) : tyD (.str x) = "str" := rfl
theorem ty_l (ds : List PyData) : tyD (.list ds) = "list" := rfl
theorem ty_t (ds : List PyData) : tyD (.tuple ds) = "tuple" := rfl
universe u
theorem if_ff {α : Sort u} (a b : α) : (if false = true then a else b) = b := rfl
theorem if_tt {α : Sort u} (a b : α) : (if true = true then a else b) = a := rfl
theorem sq_ {p q : DTS} {Δ : DEnds} {ε : Env} (h : p { Δ with nx := q Δ } ε) : dSeq p q Δ ε := h
theorem sqa_ {p q : DTS} {Δ : DEnds} {ε : Env} (h : ∀ D : Env → Prop, (∀ ε, q Δ ε → D ε) → p { Δ with nx := D } ε) : dSeq p q Δ ε := h _ fun _ z => z
theorem if_t {b : Bool} {A B : Prop} (h : b = true) (a : A) : if b = true then A else B := by rw [if_pos h]; exact a
theorem if_f {b : Bool} {A B : Prop} (h : b = false) (x : B) : if b = true then A else B := by rw [h]; exact iteF x
theorem it_t {P A B : Prop} [Decidable P] (h : P) (a : A) : if decide P = true then A else B := if_t (decide_eq_true h) a
theorem it_f {P A B : Prop} [Decidable P] (h : ¬ P) (x : B) : if decide P = true then A else B := if_f (decide_eq_false h) x
theorem it_2 {P A B : Prop} [Decidable P] (h : P → A) (k : ¬ P → B) : if decide P = true then A else B := by
  by_cases q : P
  · exact it_t q (h q)
  · exact it_f q (k q)
theorem in_t {P A B : Prop} [Decidable P] (h : ¬ P) (a : A) : if (!decide P) = true then A else B := if_t (by rw [decide_eq_false h]; rfl) a
theorem in_f {P A B : Prop} [Decidable P] (h : P) (x : B) : if (!decide P) = true then A else B := if_f (by rw [decide_eq_true h]; rfl) x
theorem in_2 {P A B : Prop} [Decidable P] (h : ¬ P → A) (k : P → B) : if (!decide P) = true then A else B := by
  by_cases q : P
  · exact in_f q (k q)
  · exact in_t q (h q)
/-- ints as a list or as a tuple -/
def sq (b : Bool) (ns : List Int) : PyData := match b with
  | true => .list (dI ns)
  | false => .tuple (dI ns)
theorem dI_len (ns : List Int) : (dI ns).length = ns.length := List.length_map ..
theorem dI_get {ns : List Int} {i : Nat} {z : Int} (h : ns[i]? = some z) : (dI ns)[i]? = some (.int z) := by rw [List.getElem?_map, h]; rfl
theorem dI_app (a b : List Int) : dI a ++ dI b = dI (a ++ b) := by
  show a.map _ ++ b.map _ = _
  rw [← List.map_append]
theorem dI_snoc (a : List Int) (z : Int) : dI a ++ [.int z] = dI (a ++ [z]) := dI_app a [z]
theorem dI_set (ns : List Int) (i : Nat) (z : Int) : (dI ns).set i (.int z) = dI (ns.set i z) := by
  exact (List.map_set ..).symm
theorem dI_erase : ∀ (ns : List Int) (i : Nat), (dI ns).eraseIdx i = dI (ns.eraseIdx i)
  | [], _ => rfl
  | _ :: _, 0 => rfl
  | x :: r, i + 1 => by
    show _ :: (dI r).eraseIdx i = _ :: dI (r.eraseIdx i)
    rw [dI_erase r i]
theorem atI_nat {α : Type} {xs : List α} {i : Int} (h0 : 0 ≤ i) (h1 : i < (xs.length : Int)) : atI xs i = xs[i.toNat]? := by
  unfold atI ixN
  rw [if_pos h0, if_pos h1]; rfl
theorem atI_dI {ns : List Int} {i : Int} (h0 : 0 ≤ i) (h1 : i < (ns.length : Int)) : atI (dI ns) i = some (.int (gt ns i)) := by
  rw [atI_nat h0 (by rw [dI_len]; exact h1)]
  exact dI_get (gt_get h0 h1)
theorem atI_last {α : Type} {xs : List α} {v : α} (h : xs.getLast? = some v) : atI xs (-1) = some v := by
  have hn : xs ≠ [] := fun e => by rw [e] at h; cases h
  have hl : 0 < xs.length := List.length_pos_iff.mpr hn
  unfold atI ixN
  rw [if_neg (by decide), if_pos (by omega)]
  show xs[((-1 : Int) + (xs.length : Int)).toNat]? = some v
  rw [show ((-1 : Int) + (xs.length : Int)).toNat = xs.length - 1 by omega, ← List.getLast?_eq_getElem?]; exact h
theorem ixN_ok {n : Nat} {i : Int} (h0 : 0 ≤ i) (h1 : i < (n : Int)) : ixN n i = some i.toNat := by
  unfold ixN; rw [if_pos h0, if_pos h1]
theorem sIx_int (n d : Nat) (k : Int) (h : 0 ≤ k) : HT.sIx n d (some k) = min k.toNat n := by
  have e : k = ((k.toNat : Nat) : Int) := by omega
  rw [e]; rw [HT.sIx_nat]; congr 1
theorem cutD_from (ds : List PyData) (k : Int) (h : 0 ≤ k) : cutD ds (some k) none = ds.drop k.toNat := by
  unfold cutD
  rw [sIx_int _ _ _ h, HT.sIx_none]
  by_cases q : k.toNat ≤ ds.length
  · rw [Nat.min_eq_left q, List.take_of_length_le (by rw [List.length_drop]; exact Nat.le_refl _)]
  · rw [Nat.min_eq_right (by omega), List.drop_length, List.drop_eq_nil_of_le (by omega), List.take_nil]
theorem cutD_to (ds : List PyData) (k : Int) (h : 0 ≤ k) : cutD ds none (some k) = ds.take k.toNat := by
  unfold cutD
  rw [sIx_int _ _ _ h, HT.sIx_none, List.drop_zero, Nat.sub_zero]
  by_cases q : k.toNat ≤ ds.length
  · rw [Nat.min_eq_left q]
  · rw [Nat.min_eq_right (by omega), List.take_of_length_le (Nat.le_refl _), List.take_of_length_le (by omega)]
theorem dI_drop (ns : List Int) (k : Nat) : (dI ns).drop k = dI (ns.drop k) := by rw [← List.map_drop]
theorem dI_take (ns : List Int) (k : Nat) : (dI ns).take k = dI (ns.take k) := by rw [← List.map_take]
theorem flatsD_dI : ∀ ns : List Int, flatsD (dI ns) = some (IL ns)
  | [] => rfl
  | x :: r => by
    show (match flatD (.int x), flatsD (dI r) with | some v, some vs => some (v :: vs) | _, _ => none) = _
    rw [flatsD_dI r]; rfl
/-- x in xs, ints -/
theorem φIn_dI {neg : Bool} {z : Int} {d : PyData} {ns : List Int} {Q : R → Prop} (hd : PyData.its d = some (dI ns)) (q : Q (.sh (.bool (if neg then !decide (z ∈ ns) else decide (z ∈ ns))))) : φIn neg (.int z) d Q := by
  unfold φIn
  rw [hd]
  show (match flatD (.int z), flatsD (dI ns) with | some v, some vs => Q (.sh (.bool (if neg then !inV v vs else inV v vs))) | _, _ => _)
  rw [flatsD_dI]
  show Q (.sh (.bool (if neg then !inV (.int z) (IL ns) else inV (.int z) (IL ns))))
  rw [inV_ints]; exact q
/-- a state: people 0 .. n - 1, at most 1000 -/
structure Stt (ns : List Int) : Prop where
  lo : Low ns.length ns
  le : ns.length ≤ 1000
  ge : 1 ≤ ns.length
def Per (ns : List Int) (p : Int) : Prop := 0 ≤ p ∧ p < (ns.length : Int)
theorem Stt.gt {ns : List Int} (h : Stt ns) {p : Int} (hp : Per ns p) : Per ns (gt ns p) := gt_low h.lo hp.1 hp.2
/-- check_person: state, person -/
def b_check_person : DTS := (dIfS (dNot (dTest (dChain (φB fun i j => decide (i ≤ j)) (φB fun i j => decide (i < j)) (dC (.int 0)) (dVar 1) (dCB φLen (dCons (dVar 0) dNil))))) dNever dNext)
abbrev k_check_person : Nat := 0
def p_check_person : DSp := fun args c Q => ∃ (d : PyData) (ds : List PyData) (p : Int), args = [.sh d, .sh (.int p)] ∧ PyData.its d = some ds ∧ 0 ≤ p ∧ p < (ds.length : Int) ∧ Q (.sh .none) c
theorem mon_check_person : MonF p_check_person := fun args c A B h ⟨d, ds, p, e, h1, h2, h3, q⟩ => ⟨d, ds, p, e, h1, h2, h3, h _ _ q⟩
theorem m_check_person : ∀ args c Q, p_check_person args c Q → defF k_check_person b_check_person args c Q := by
  rintro _ c Q ⟨d, ds, p, rfl, h1, h2, h3, q⟩
  show b_check_person _ ⟨[.sh d, .sh (.int p)], c⟩
  unfold b_check_person
  try dsimp only [dVar_, gv_sh, gv_ow, gv_bx, gv_raw, gv_st, dC, dRaw, dOp, dUn, dTest, dTruth, dAnd, dOr, dNot, dYes, dIf, dAndV, dOrV, dNotV, dNotT, dChain, dNil, dCons, dTup, dLst, dats, dCB, dNoP, dPart, dSl, dNext, dBreak, dCont, dNever, dDrop, dRet, dRetN, dIfS, dSetG, dPar, dPar3, dAppend, dAppPop, dSetIx, dExt, dAug, dSet0, dSAdd, dSNotIn, dIter_, gi_l, gi_t, gi_b, dRng1, dRng2, dName, dGNil, dGCons, dGTup, dAsg, dFor, dWhile, dCall, dCallR, dArgs_, ga_f, ga_t, argsOf, dLc, wipeE, dListRg, dIndex, dSortSet, dSortSc, dEnum, dEnA, dZip, dIsi, dIsi2, isaT, φI, φB, φC, φNeg, add_i, add_l, add_t, mul_i, mul_l, φIx, sl_l, sl_t, eq_i, eq_s, eq_l, eq_t, eq_b, eq_n, φIsN, isN_n, isN_b, isN_i, isN_s, isN_l, isN_t, φLen, φList, φTuple, φAbs, φInt, φMax, φIsB, φIsNB, its_l, its_t, rd_sh, rd_nw, rd_br, rp_sh, rp_nw, rp_br, rp_bx, rp_raw, rp_sr, rr_sh, rr_nw, rr_br, ra_sh, ra_br, ra_bx, ra_raw, va_sh, va_nt, va_nf, va_raw, hb_n, hb_sh, hb_bx, hb_raw, hb_br, sh_n, sh_c, tr_n, tr_b, tr_i, tr_l, tr_t, ty_n, ty_b, ty_i, ty_s, ty_l, ty_t, if_ff, if_tt, Env.set, List.getElem?_cons_succ, List.getElem?_cons_zero, List.set_cons_succ, List.set_cons_zero, List.reverse_cons, List.reverse_nil, List.nil_append, List.cons_append, Option.bind_some, ite_true, ite_false]
  rw [h1]
  exact it_t h2 (in_f h3 q)
def ofO : Option Int → PyData
  | none => .none
  | some z => .int z
def dO (os : List (Option Int)) : List PyData := os.map ofO
def gO (os : List (Option Int)) (p : Int) : Option Int := os.getD p.toNat none
def routeOG (os : List (Option Int)) : Nat → List Int → Option Int → List Int
  | 0, acc, _ => acc
  | _ + 1, acc, none => acc
  | k + 1, acc, some z => if z ∈ acc then acc else routeOG os k (acc ++ [z]) (gO os z)
def routeO (os : List (Option Int)) (p : Int) : List Int := routeOG os (os.length + 1) [] (some p)
def LowO (n : Nat) (os : List (Option Int)) : Prop := ∀ z, some z ∈ os → 0 ≤ z ∧ z < (n : Int)
theorem dO_len (os : List (Option Int)) : (dO os).length = os.length := List.length_map ..
theorem gO_at {os : List (Option Int)} {p : Int} (h0 : 0 ≤ p) (h1 : p < (os.length : Int)) : atI (dO os) p = some (ofO (gO os p)) := by
  rw [atI_nat h0 (by rw [dO_len]; exact h1)]
  unfold dO gO
  rw [List.getElem?_map, List.getD_eq_getElem?_getD, List.getElem?_eq_getElem (by omega)]; rfl
theorem gO_low {n : Nat} {os : List (Option Int)} (lo : LowO n os) {p z : Int} (h1 : p < (os.length : Int)) (h0 : 0 ≤ p) (e : gO os p = some z) : 0 ≤ z ∧ z < (n : Int) := by
  refine lo z ?_
  unfold gO at e
  rw [List.getD_eq_getElem?_getD, List.getElem?_eq_getElem (show p.toNat < os.length by omega)] at e
  rw [← show _ = some z from e]; exact List.getElem_mem _
theorem dO_ints (ns : List Int) : dO (ns.map some) = dI ns := by
  unfold dO
  show _ = ns.map _
  rw [List.map_map]; rfl
theorem LowO.of {n : Nat} {ns : List Int} (lo : Low n ns) : LowO n (ns.map some) := fun z hz => by
  obtain ⟨y, hy, e⟩ := List.mem_map.mp hz
  cases e
  exact lo z hy
theorem gO_some {ns : List Int} {p : Int} (h0 : 0 ≤ p) (h1 : p < (ns.length : Int)) : gO (ns.map some) p = some (gt ns p) := by
  unfold gO gt
  rw [List.getD_eq_getElem?_getD, List.getD_eq_getElem?_getD, List.getElem?_map, List.getElem?_eq_getElem (show p.toNat < ns.length by omega)]; rfl
theorem routeOG_some {ns : List Int} (lo : Low ns.length ns) : ∀ (k : Nat) (acc : List Int) (p : Int), 0 ≤ p → p < (ns.length : Int) → routeOG (ns.map some) k acc (some p) = routeG ns k acc p
  | 0, _, _, _, _ => rfl
  | k + 1, acc, p, h0, h1 => by
    unfold routeOG routeG
    rw [gO_some h0 h1]
    have := gt_low lo h0 h1
    rw [routeOG_some lo k _ _ this.1 this.2]
theorem routeO_some {ns : List Int} (lo : Low ns.length ns) {p : Int} (h0 : 0 ≤ p) (h1 : p < (ns.length : Int)) : routeO (ns.map some) p = routeF ns p := by
  unfold routeO routeF
  rw [List.length_map]
  exact routeOG_some lo _ _ _ h0 h1
/-- route_from: pointers, person, route, seen, at -/
def b_route_from : DTS := (dSeq (dSetG true 2 (dLst dNil))
  (dSeq (dSet0 3)
  (dSeq (dSetG false 4 (dVar 1))
  (dSeq (dWhile (dAnd (dTest (dOp (φIsN true) (dVar 4) (dC .none))) (dTest (dSNotIn (dVar 4) (dVar 3)))) (dSeq (dSAdd 3 (dVar 4))
  (dSeq (dAppend 2 (dVar 4))
  (dSetG false 4 (dOp φIx (dVar 0) (dVar 4))))))
  (dRet (dVar 2))))))
abbrev k_route_from : Nat := 3
def p_route_from : DSp := fun args c Q => ∃ (d : PyData) (os : List (Option Int)) (p : Int), args = [.sh d, .sh (.int p)] ∧ PyData.its d = some (dO os) ∧ LowO os.length os ∧ os.length ≤ 1000 ∧ 0 ≤ p ∧ p < (os.length : Int) ∧ Q (.nw (dI (routeO os p))) c
theorem mon_route_from : MonF p_route_from := fun args c A B h ⟨d, os, p, e, h1, h2, h3, h4, h5, q⟩ => ⟨d, os, p, e, h1, h2, h3, h4, h5, h _ _ q⟩
theorem route_loop {d : PyData} {os : List (Option Int)} (hd : PyData.its d = some (dO os)) (lo : LowO os.length os) (le : os.length ≤ 1000) {x : SV} {c : Nat} {Δ : DEnds} :
    ∀ (k : Nat) (acc : List Int) (at_ : Option Int), acc.Nodup → Low os.length acc → (∀ z, at_ = some z → 0 ≤ z ∧ z < (os.length : Int)) → os.length < k + acc.length →
      (∀ S n y, Δ.nx ⟨[.sh d, x, .ow (dI (routeOG os k acc at_)), .st S n, y], c⟩) →
      whileN (dAnd (dTest (dOp (φIsN true) (dVar 4) (dC .none))) (dTest (dSNotIn (dVar 4) (dVar 3)))) (dSeq (dSAdd 3 (dVar 4)) (dSeq (dAppend 2 (dVar 4)) (dSetG false 4 (dOp φIx (dVar 0) (dVar 4))))) Δ (k + 1) ⟨[.sh d, x, .ow (dI acc), .st (fun j => decide (j ∈ acc)) acc.length, .sh (ofO at_)], c⟩
  | 0, acc, at_, nd, la, _, hk, _ => by
    have := low_len os.length acc nd la
    omega
  | k + 1, acc, none, nd, la, _, hk, q => by
    unfold whileN
    dsimp only [ofO]
    try dsimp only [dVar_, gv_sh, gv_ow, gv_bx, gv_raw, gv_st, dC, dRaw, dOp, dUn, dTest, dTruth, dAnd, dOr, dNot, dYes, dIf, dAndV, dOrV, dNotV, dNotT, dChain, dNil, dCons, dTup, dLst, dats, dCB, dNoP, dPart, dSl, dNext, dBreak, dCont, dNever, dDrop, dRet, dRetN, dIfS, dSetG, dPar, dPar3, dAppend, dAppPop, dSetIx, dExt, dAug, dSet0, dSAdd, dSNotIn, dIter_, gi_l, gi_t, gi_b, dRng1, dRng2, dName, dGNil, dGCons, dGTup, dAsg, dFor, dWhile, dCall, dCallR, dArgs_, ga_f, ga_t, argsOf, dLc, wipeE, dListRg, dIndex, dSortSet, dSortSc, dEnum, dEnA, dZip, dIsi, dIsi2, isaT, φI, φB, φC, φNeg, add_i, add_l, add_t, mul_i, mul_l, φIx, sl_l, sl_t, eq_i, eq_s, eq_l, eq_t, eq_b, eq_n, φIsN, isN_n, isN_b, isN_i, isN_s, isN_l, isN_t, φLen, φList, φTuple, φAbs, φInt, φMax, φIsB, φIsNB, its_l, its_t, rd_sh, rd_nw, rd_br, rp_sh, rp_nw, rp_br, rp_bx, rp_raw, rp_sr, rr_sh, rr_nw, rr_br, ra_sh, ra_br, ra_bx, ra_raw, va_sh, va_nt, va_nf, va_raw, hb_n, hb_sh, hb_bx, hb_raw, hb_br, sh_n, sh_c, tr_n, tr_b, tr_i, tr_l, tr_t, ty_n, ty_b, ty_i, ty_s, ty_l, ty_t, if_ff, if_tt, Env.set, List.getElem?_cons_succ, List.getElem?_cons_zero, List.set_cons_succ, List.set_cons_zero, List.reverse_cons, List.reverse_nil, List.nil_append, List.cons_append, Option.bind_some, ite_true, ite_false]
    exact q _ _ _
  | k + 1, acc, some z, nd, la, hz, hk, q => by
    unfold whileN
    dsimp only [ofO]
    try dsimp only [dVar_, gv_sh, gv_ow, gv_bx, gv_raw, gv_st, dC, dRaw, dOp, dUn, dTest, dTruth, dAnd, dOr, dNot, dYes, dIf, dAndV, dOrV, dNotV, dNotT, dChain, dNil, dCons, dTup, dLst, dats, dCB, dNoP, dPart, dSl, dNext, dBreak, dCont, dNever, dDrop, dRet, dRetN, dIfS, dSetG, dPar, dPar3, dAppend, dAppPop, dSetIx, dExt, dAug, dSet0, dSAdd, dSNotIn, dIter_, gi_l, gi_t, gi_b, dRng1, dRng2, dName, dGNil, dGCons, dGTup, dAsg, dFor, dWhile, dCall, dCallR, dArgs_, ga_f, ga_t, argsOf, dLc, wipeE, dListRg, dIndex, dSortSet, dSortSc, dEnum, dEnA, dZip, dIsi, dIsi2, isaT, φI, φB, φC, φNeg, add_i, add_l, add_t, mul_i, mul_l, φIx, sl_l, sl_t, eq_i, eq_s, eq_l, eq_t, eq_b, eq_n, φIsN, isN_n, isN_b, isN_i, isN_s, isN_l, isN_t, φLen, φList, φTuple, φAbs, φInt, φMax, φIsB, φIsNB, its_l, its_t, rd_sh, rd_nw, rd_br, rp_sh, rp_nw, rp_br, rp_bx, rp_raw, rp_sr, rr_sh, rr_nw, rr_br, ra_sh, ra_br, ra_bx, ra_raw, va_sh, va_nt, va_nf, va_raw, hb_n, hb_sh, hb_bx, hb_raw, hb_br, sh_n, sh_c, tr_n, tr_b, tr_i, tr_l, tr_t, ty_n, ty_b, ty_i, ty_s, ty_l, ty_t, if_ff, if_tt, Env.set, List.getElem?_cons_succ, List.getElem?_cons_zero, List.set_cons_succ, List.set_cons_zero, List.reverse_cons, List.reverse_nil, List.nil_append, List.cons_append, Option.bind_some, ite_true, ite_false]
    unfold routeOG at q
    obtain ⟨z0, z1⟩ := hz z rfl
    have hl := low_len os.length acc nd la
    by_cases hm : z ∈ acc
    · rw [if_pos hm] at q
      refine in_f hm ?_
      exact q _ _ _
    · rw [if_neg hm] at q
      refine in_t hm ?_
      refine sq_ ?_
      try dsimp only [dVar_, gv_sh, gv_ow, gv_bx, gv_raw, gv_st, dC, dRaw, dOp, dUn, dTest, dTruth, dAnd, dOr, dNot, dYes, dIf, dAndV, dOrV, dNotV, dNotT, dChain, dNil, dCons, dTup, dLst, dats, dCB, dNoP, dPart, dSl, dNext, dBreak, dCont, dNever, dDrop, dRet, dRetN, dIfS, dSetG, dPar, dPar3, dAppend, dAppPop, dSetIx, dExt, dAug, dSet0, dSAdd, dSNotIn, dIter_, gi_l, gi_t, gi_b, dRng1, dRng2, dName, dGNil, dGCons, dGTup, dAsg, dFor, dWhile, dCall, dCallR, dArgs_, ga_f, ga_t, argsOf, dLc, wipeE, dListRg, dIndex, dSortSet, dSortSc, dEnum, dEnA, dZip, dIsi, dIsi2, isaT, φI, φB, φC, φNeg, add_i, add_l, add_t, mul_i, mul_l, φIx, sl_l, sl_t, eq_i, eq_s, eq_l, eq_t, eq_b, eq_n, φIsN, isN_n, isN_b, isN_i, isN_s, isN_l, isN_t, φLen, φList, φTuple, φAbs, φInt, φMax, φIsB, φIsNB, its_l, its_t, rd_sh, rd_nw, rd_br, rp_sh, rp_nw, rp_br, rp_bx, rp_raw, rp_sr, rr_sh, rr_nw, rr_br, ra_sh, ra_br, ra_bx, ra_raw, va_sh, va_nt, va_nf, va_raw, hb_n, hb_sh, hb_bx, hb_raw, hb_br, sh_n, sh_c, tr_n, tr_b, tr_i, tr_l, tr_t, ty_n, ty_b, ty_i, ty_s, ty_l, ty_t, if_ff, if_tt, Env.set, List.getElem?_cons_succ, List.getElem?_cons_zero, List.set_cons_succ, List.set_cons_zero, List.reverse_cons, List.reverse_nil, List.nil_append, List.cons_append, Option.bind_some, ite_true, ite_false]
      refine ⟨show acc.length + 1 < 4096 by omega, ?_⟩
      refine sq_ ?_
      try dsimp only [dVar_, gv_sh, gv_ow, gv_bx, gv_raw, gv_st, dC, dRaw, dOp, dUn, dTest, dTruth, dAnd, dOr, dNot, dYes, dIf, dAndV, dOrV, dNotV, dNotT, dChain, dNil, dCons, dTup, dLst, dats, dCB, dNoP, dPart, dSl, dNext, dBreak, dCont, dNever, dDrop, dRet, dRetN, dIfS, dSetG, dPar, dPar3, dAppend, dAppPop, dSetIx, dExt, dAug, dSet0, dSAdd, dSNotIn, dIter_, gi_l, gi_t, gi_b, dRng1, dRng2, dName, dGNil, dGCons, dGTup, dAsg, dFor, dWhile, dCall, dCallR, dArgs_, ga_f, ga_t, argsOf, dLc, wipeE, dListRg, dIndex, dSortSet, dSortSc, dEnum, dEnA, dZip, dIsi, dIsi2, isaT, φI, φB, φC, φNeg, add_i, add_l, add_t, mul_i, mul_l, φIx, sl_l, sl_t, eq_i, eq_s, eq_l, eq_t, eq_b, eq_n, φIsN, isN_n, isN_b, isN_i, isN_s, isN_l, isN_t, φLen, φList, φTuple, φAbs, φInt, φMax, φIsB, φIsNB, its_l, its_t, rd_sh, rd_nw, rd_br, rp_sh, rp_nw, rp_br, rp_bx, rp_raw, rp_sr, rr_sh, rr_nw, rr_br, ra_sh, ra_br, ra_bx, ra_raw, va_sh, va_nt, va_nf, va_raw, hb_n, hb_sh, hb_bx, hb_raw, hb_br, sh_n, sh_c, tr_n, tr_b, tr_i, tr_l, tr_t, ty_n, ty_b, ty_i, ty_s, ty_l, ty_t, if_ff, if_tt, Env.set, List.getElem?_cons_succ, List.getElem?_cons_zero, List.set_cons_succ, List.set_cons_zero, List.reverse_cons, List.reverse_nil, List.nil_append, List.cons_append, Option.bind_some, ite_true, ite_false]
      refine ⟨show (dI acc).length < 16777216 by rw [dI_len]; omega, ?_⟩
      rw [hd]
      refine ⟨_, gO_at z0 z1, ?_⟩
      rw [dI_snoc, show (fun j => decide (j ∈ acc) || decide (j = z)) = fun j => decide (j ∈ acc ++ [z]) by funext j; simp]
      have e : (if decide (z ∈ acc) = true then acc.length else acc.length + 1) = (acc ++ [z]).length := by rw [if_neg (by simp [hm]), List.length_append]; rfl
      rw [e]
      refine route_loop hd lo le k (acc ++ [z]) (gO os z) (Nodup.snoc nd hm) ?_ ?_ (by rw [List.length_append]; show os.length < k + (acc.length + 1); omega) q
      · intro y hy
        rcases List.mem_append.mp hy with h | h
        · exact la y h
        · rw [List.mem_singleton.mp h]; exact ⟨z0, z1⟩
      · intro y hy
        exact gO_low lo z1 z0 hy
theorem m_route_from : ∀ args c Q, p_route_from args c Q → defF k_route_from b_route_from args c Q := by
  rintro _ c Q ⟨d, os, p, rfl, h1, h2, h3, h4, h5, q⟩
  show b_route_from _ ⟨[.sh d, .sh (.int p), .un, .un, .un], c⟩
  unfold b_route_from
  refine sq_ ?_
  try dsimp only [dVar_, gv_sh, gv_ow, gv_bx, gv_raw, gv_st, dC, dRaw, dOp, dUn, dTest, dTruth, dAnd, dOr, dNot, dYes, dIf, dAndV, dOrV, dNotV, dNotT, dChain, dNil, dCons, dTup, dLst, dats, dCB, dNoP, dPart, dSl, dNext, dBreak, dCont, dNever, dDrop, dRet, dRetN, dIfS, dSetG, dPar, dPar3, dAppend, dAppPop, dSetIx, dExt, dAug, dSet0, dSAdd, dSNotIn, dIter_, gi_l, gi_t, gi_b, dRng1, dRng2, dName, dGNil, dGCons, dGTup, dAsg, dFor, dWhile, dCall, dCallR, dArgs_, ga_f, ga_t, argsOf, dLc, wipeE, dListRg, dIndex, dSortSet, dSortSc, dEnum, dEnA, dZip, dIsi, dIsi2, isaT, φI, φB, φC, φNeg, add_i, add_l, add_t, mul_i, mul_l, φIx, sl_l, sl_t, eq_i, eq_s, eq_l, eq_t, eq_b, eq_n, φIsN, isN_n, isN_b, isN_i, isN_s, isN_l, isN_t, φLen, φList, φTuple, φAbs, φInt, φMax, φIsB, φIsNB, its_l, its_t, rd_sh, rd_nw, rd_br, rp_sh, rp_nw, rp_br, rp_bx, rp_raw, rp_sr, rr_sh, rr_nw, rr_br, ra_sh, ra_br, ra_bx, ra_raw, va_sh, va_nt, va_nf, va_raw, hb_n, hb_sh, hb_bx, hb_raw, hb_br, sh_n, sh_c, tr_n, tr_b, tr_i, tr_l, tr_t, ty_n, ty_b, ty_i, ty_s, ty_l, ty_t, if_ff, if_tt, Env.set, List.getElem?_cons_succ, List.getElem?_cons_zero, List.set_cons_succ, List.set_cons_zero, List.reverse_cons, List.reverse_nil, List.nil_append, List.cons_append, Option.bind_some, ite_true, ite_false]
  refine sq_ ?_
  try dsimp only [dVar_, gv_sh, gv_ow, gv_bx, gv_raw, gv_st, dC, dRaw, dOp, dUn, dTest, dTruth, dAnd, dOr, dNot, dYes, dIf, dAndV, dOrV, dNotV, dNotT, dChain, dNil, dCons, dTup, dLst, dats, dCB, dNoP, dPart, dSl, dNext, dBreak, dCont, dNever, dDrop, dRet, dRetN, dIfS, dSetG, dPar, dPar3, dAppend, dAppPop, dSetIx, dExt, dAug, dSet0, dSAdd, dSNotIn, dIter_, gi_l, gi_t, gi_b, dRng1, dRng2, dName, dGNil, dGCons, dGTup, dAsg, dFor, dWhile, dCall, dCallR, dArgs_, ga_f, ga_t, argsOf, dLc, wipeE, dListRg, dIndex, dSortSet, dSortSc, dEnum, dEnA, dZip, dIsi, dIsi2, isaT, φI, φB, φC, φNeg, add_i, add_l, add_t, mul_i, mul_l, φIx, sl_l, sl_t, eq_i, eq_s, eq_l, eq_t, eq_b, eq_n, φIsN, isN_n, isN_b, isN_i, isN_s, isN_l, isN_t, φLen, φList, φTuple, φAbs, φInt, φMax, φIsB, φIsNB, its_l, its_t, rd_sh, rd_nw, rd_br, rp_sh, rp_nw, rp_br, rp_bx, rp_raw, rp_sr, rr_sh, rr_nw, rr_br, ra_sh, ra_br, ra_bx, ra_raw, va_sh, va_nt, va_nf, va_raw, hb_n, hb_sh, hb_bx, hb_raw, hb_br, sh_n, sh_c, tr_n, tr_b, tr_i, tr_l, tr_t, ty_n, ty_b, ty_i, ty_s, ty_l, ty_t, if_ff, if_tt, Env.set, List.getElem?_cons_succ, List.getElem?_cons_zero, List.set_cons_succ, List.set_cons_zero, List.reverse_cons, List.reverse_nil, List.nil_append, List.cons_append, Option.bind_some, ite_true, ite_false]
  refine sq_ ?_
  try dsimp only [dVar_, gv_sh, gv_ow, gv_bx, gv_raw, gv_st, dC, dRaw, dOp, dUn, dTest, dTruth, dAnd, dOr, dNot, dYes, dIf, dAndV, dOrV, dNotV, dNotT, dChain, dNil, dCons, dTup, dLst, dats, dCB, dNoP, dPart, dSl, dNext, dBreak, dCont, dNever, dDrop, dRet, dRetN, dIfS, dSetG, dPar, dPar3, dAppend, dAppPop, dSetIx, dExt, dAug, dSet0, dSAdd, dSNotIn, dIter_, gi_l, gi_t, gi_b, dRng1, dRng2, dName, dGNil, dGCons, dGTup, dAsg, dFor, dWhile, dCall, dCallR, dArgs_, ga_f, ga_t, argsOf, dLc, wipeE, dListRg, dIndex, dSortSet, dSortSc, dEnum, dEnA, dZip, dIsi, dIsi2, isaT, φI, φB, φC, φNeg, add_i, add_l, add_t, mul_i, mul_l, φIx, sl_l, sl_t, eq_i, eq_s, eq_l, eq_t, eq_b, eq_n, φIsN, isN_n, isN_b, isN_i, isN_s, isN_l, isN_t, φLen, φList, φTuple, φAbs, φInt, φMax, φIsB, φIsNB, its_l, its_t, rd_sh, rd_nw, rd_br, rp_sh, rp_nw, rp_br, rp_bx, rp_raw, rp_sr, rr_sh, rr_nw, rr_br, ra_sh, ra_br, ra_bx, ra_raw, va_sh, va_nt, va_nf, va_raw, hb_n, hb_sh, hb_bx, hb_raw, hb_br, sh_n, sh_c, tr_n, tr_b, tr_i, tr_l, tr_t, ty_n, ty_b, ty_i, ty_s, ty_l, ty_t, if_ff, if_tt, Env.set, List.getElem?_cons_succ, List.getElem?_cons_zero, List.set_cons_succ, List.set_cons_zero, List.reverse_cons, List.reverse_nil, List.nil_append, List.cons_append, Option.bind_some, ite_true, ite_false]
  refine sq_ ?_
  try dsimp only [dVar_, gv_sh, gv_ow, gv_bx, gv_raw, gv_st, dC, dRaw, dOp, dUn, dTest, dTruth, dAnd, dOr, dNot, dYes, dIf, dAndV, dOrV, dNotV, dNotT, dChain, dNil, dCons, dTup, dLst, dats, dCB, dNoP, dPart, dSl, dNext, dBreak, dCont, dNever, dDrop, dRet, dRetN, dIfS, dSetG, dPar, dPar3, dAppend, dAppPop, dSetIx, dExt, dAug, dSet0, dSAdd, dSNotIn, dIter_, gi_l, gi_t, gi_b, dRng1, dRng2, dName, dGNil, dGCons, dGTup, dAsg, dFor, dWhile, dCall, dCallR, dArgs_, ga_f, ga_t, argsOf, dLc, wipeE, dListRg, dIndex, dSortSet, dSortSc, dEnum, dEnA, dZip, dIsi, dIsi2, isaT, φI, φB, φC, φNeg, add_i, add_l, add_t, mul_i, mul_l, φIx, sl_l, sl_t, eq_i, eq_s, eq_l, eq_t, eq_b, eq_n, φIsN, isN_n, isN_b, isN_i, isN_s, isN_l, isN_t, φLen, φList, φTuple, φAbs, φInt, φMax, φIsB, φIsNB, its_l, its_t, rd_sh, rd_nw, rd_br, rp_sh, rp_nw, rp_br, rp_bx, rp_raw, rp_sr, rr_sh, rr_nw, rr_br, ra_sh, ra_br, ra_bx, ra_raw, va_sh, va_nt, va_nf, va_raw, hb_n, hb_sh, hb_bx, hb_raw, hb_br, sh_n, sh_c, tr_n, tr_b, tr_i, tr_l, tr_t, ty_n, ty_b, ty_i, ty_s, ty_l, ty_t, if_ff, if_tt, Env.set, List.getElem?_cons_succ, List.getElem?_cons_zero, List.set_cons_succ, List.set_cons_zero, List.reverse_cons, List.reverse_nil, List.nil_append, List.cons_append, Option.bind_some, ite_true, ite_false]
  refine ⟨os.length + 1 + 1, route_loop h1 h2 h3 (os.length + 1) [] (some p) List.nodup_nil (fun _ h => nomatch h) (fun z h => by cases h; exact ⟨h4, h5⟩) (by show os.length < os.length + 1 + 0; omega) ?_⟩
  intro S n y
  try dsimp only [dVar_, gv_sh, gv_ow, gv_bx, gv_raw, gv_st, dC, dRaw, dOp, dUn, dTest, dTruth, dAnd, dOr, dNot, dYes, dIf, dAndV, dOrV, dNotV, dNotT, dChain, dNil, dCons, dTup, dLst, dats, dCB, dNoP, dPart, dSl, dNext, dBreak, dCont, dNever, dDrop, dRet, dRetN, dIfS, dSetG, dPar, dPar3, dAppend, dAppPop, dSetIx, dExt, dAug, dSet0, dSAdd, dSNotIn, dIter_, gi_l, gi_t, gi_b, dRng1, dRng2, dName, dGNil, dGCons, dGTup, dAsg, dFor, dWhile, dCall, dCallR, dArgs_, ga_f, ga_t, argsOf, dLc, wipeE, dListRg, dIndex, dSortSet, dSortSc, dEnum, dEnA, dZip, dIsi, dIsi2, isaT, φI, φB, φC, φNeg, add_i, add_l, add_t, mul_i, mul_l, φIx, sl_l, sl_t, eq_i, eq_s, eq_l, eq_t, eq_b, eq_n, φIsN, isN_n, isN_b, isN_i, isN_s, isN_l, isN_t, φLen, φList, φTuple, φAbs, φInt, φMax, φIsB, φIsNB, its_l, its_t, rd_sh, rd_nw, rd_br, rp_sh, rp_nw, rp_br, rp_bx, rp_raw, rp_sr, rr_sh, rr_nw, rr_br, ra_sh, ra_br, ra_bx, ra_raw, va_sh, va_nt, va_nf, va_raw, hb_n, hb_sh, hb_bx, hb_raw, hb_br, sh_n, sh_c, tr_n, tr_b, tr_i, tr_l, tr_t, ty_n, ty_b, ty_i, ty_s, ty_l, ty_t, if_ff, if_tt, Env.set, List.getElem?_cons_succ, List.getElem?_cons_zero, List.set_cons_succ, List.set_cons_zero, List.reverse_cons, List.reverse_nil, List.nil_append, List.cons_append, Option.bind_some, ite_true, ite_false]
  exact q
theorem its_cases {d : PyData} {ds : List PyData} (h : PyData.its d = some ds) : d = .list ds ∨ d = .tuple ds := by
  cases d <;> first | (cases h; exact .inl rfl) | (cases h; exact .inr rfl) | cases h
theorem for_cons {γ : DTG} {p : DTS} {Δ : DEnds} {d : PyData} {ds : List PyData} {ε : Env} (h : γ d ε fun ε1 => p { nx := forD γ p Δ ds, rt := Δ.rt, bk := Δ.nx, ct := forD γ p Δ ds } ε1) : forD γ p Δ (d :: ds) ε := h
theorem lc_cons {γ : DTG} {c : DTT} {f : DTE} {vs : List Nat} {s : List SV} {Q : R → Env → Prop} {d : PyData} {ds acc : List PyData} {n : Nat} (h : γ d ⟨wipeE ⟨s, n⟩ vs, n⟩ fun ε1 => c ε1 fun b ε2 => if b = true then f ε2 fun r ε3 => match r.pub with
      | .sh e => acc.length < sizeLine ∧ lcD γ c f vs s Q ds (acc ++ [e]) ε3.c
      | _ => False
    else lcD γ c f vs s Q ds acc ε2.c) : lcD γ c f vs s Q (d :: ds) acc n := h
theorem lc_all {α : Type} {γ : DTG} {f : DTE} {vs : List Nat} {s : List SV} {Q : R → Env → Prop} {n : Nat} (h e : α → PyData) : ∀ (xs : List α) (acc : List PyData),
    (∀ x ∈ xs, ∀ K : R → Env → Prop, (∀ r ε, r.pub = .sh (e x) → ε.c = n → K r ε) → γ (h x) ⟨wipeE ⟨s, n⟩ vs, n⟩ fun ε1 => f ε1 K) →
    acc.length + xs.length ≤ 16777216 → Q (.nw (acc ++ xs.map e)) ⟨s, n⟩ → lcD γ dYes f vs s Q (xs.map h) acc n
  | [], acc, _, _, q => by
    rw [List.map_nil, List.append_nil] at q
    exact q
  | x :: xs, acc, st, le, q => by
    rw [List.length_cons] at le
    rw [List.map_cons]
    refine lc_cons ?_
    refine st x List.mem_cons_self (fun r ε3 => match r.pub with
      | .sh e => acc.length < sizeLine ∧ lcD γ dYes f vs s Q (xs.map h) (acc ++ [e]) ε3.c
      | _ => False) fun r ε hr hc => ?_
    rw [hr, hc]
    refine ⟨show acc.length < 16777216 by omega, ?_⟩
    refine lc_all h e xs (acc ++ [e x]) (fun y hy => st y (List.mem_cons_of_mem _ hy)) (by rw [List.length_append, List.length_singleton]; omega) ?_
    rw [List.append_assoc]; exact q
theorem lc_if {α : Type} {γ : DTG} {c : DTT} {f : DTE} {vs : List Nat} {s : List SV} {Q : R → Env → Prop} {n : Nat} (h e : α → PyData) (k : α → Bool) : ∀ (xs : List α) (acc : List PyData),
    (∀ x ∈ xs, ∀ (Y : R → Env → Prop) (N : Env → Prop), (k x = true → ∀ r ε, r.pub = .sh (e x) → ε.c = n → Y r ε) → (k x = false → ∀ ε, ε.c = n → N ε) → γ (h x) ⟨wipeE ⟨s, n⟩ vs, n⟩ fun ε1 => c ε1 fun b ε2 => if b = true then f ε2 Y else N ε2) →
    acc.length + xs.length ≤ 16777216 → Q (.nw (acc ++ (xs.filter k).map e)) ⟨s, n⟩ → lcD γ c f vs s Q (xs.map h) acc n
  | [], acc, _, _, q => by
    rw [List.filter_nil, List.map_nil, List.append_nil] at q
    exact q
  | x :: xs, acc, st, le, q => by
    rw [List.length_cons] at le
    rw [List.map_cons]
    refine lc_cons ?_
    refine st x List.mem_cons_self (fun r ε3 => match r.pub with
      | .sh e => acc.length < sizeLine ∧ lcD γ c f vs s Q (xs.map h) (acc ++ [e]) ε3.c
      | _ => False) (fun ε => lcD γ c f vs s Q (xs.map h) acc ε.c) (fun hk r ε hr hc => ?_) fun hk ε hc => ?_
    · rw [hr, hc]
      refine ⟨show acc.length < 16777216 by omega, ?_⟩
      refine lc_if h e k xs (acc ++ [e x]) (fun y hy => st y (List.mem_cons_of_mem _ hy)) (by rw [List.length_append, List.length_singleton]; omega) ?_
      rw [List.filter_cons_of_pos hk, List.map_cons] at q
      rw [List.append_assoc]; exact q
    · rw [hc]
      refine lc_if h e k xs acc (fun y hy => st y (List.mem_cons_of_mem _ hy)) (by omega) ?_
      rw [List.filter_cons_of_neg (by rw [hk]; exact fun z => nomatch z)] at q
      exact q
def rq (b : Bool) (ns : List Int) : R := match b with
  | true => .nw (dI ns)
  | false => .sh (.tuple (dI ns))
def turnTo (ms : List Int) (z : Int) : List Int := ms.drop (ms.idxOf z) ++ ms.take (ms.idxOf z)
/-- turned: members, first, at -/
def b_turned : DTS := (dSeq (dSetG false 2 (dIndex (dVar 0) (dVar 1)))
  (dRet (dOp φAdd (dSl φSl (dVar 0) (dPart (dVar 2)) dNoP) (dSl φSl (dVar 0) dNoP (dPart (dVar 2))))))
abbrev k_turned : Nat := 1
def p_turned : DSp := fun args c Q => ∃ (b : Bool) (ms : List Int) (z : Int), args = [.sh (sq b ms), .sh (.int z)] ∧ z ∈ ms ∧ ms.length ≤ 1000000 ∧ Q (rq b (turnTo ms z)) c
theorem mon_turned : MonF p_turned := fun args c A B h ⟨d, os, p, e, h1, h2, q⟩ => ⟨d, os, p, e, h1, h2, h _ _ q⟩
theorem m_turned : ∀ args c Q, p_turned args c Q → defF k_turned b_turned args c Q := by
  rintro _ c Q ⟨b, ms, z, rfl, h1, h2, q⟩
  have hl : ((dI ms).drop (ms.idxOf z)).length + ((dI ms).take (ms.idxOf z)).length ≤ 16777216 := by
    rw [List.length_drop, List.length_take, dI_len]; omega
  have e : (dI ms).drop (ms.idxOf z) ++ (dI ms).take (ms.idxOf z) = dI (turnTo ms z) := by rw [dI_drop, dI_take, dI_app]; rfl
  cases b with
  | true =>
    show b_turned _ ⟨[.sh (.list (dI ms)), .sh (.int z), .un], c⟩
    refine sq_ ?_
    try dsimp only [dVar_, gv_sh, gv_ow, gv_bx, gv_raw, gv_st, dC, dRaw, dOp, dUn, dTest, dTruth, dAnd, dOr, dNot, dYes, dIf, dAndV, dOrV, dNotV, dNotT, dChain, dNil, dCons, dTup, dLst, dats, dCB, dNoP, dPart, dSl, dNext, dBreak, dCont, dNever, dDrop, dRet, dRetN, dIfS, dSetG, dPar, dPar3, dAppend, dAppPop, dSetIx, dExt, dAug, dSet0, dSAdd, dSNotIn, dIter_, gi_l, gi_t, gi_b, dRng1, dRng2, dName, dGNil, dGCons, dGTup, dAsg, dFor, dWhile, dCall, dCallR, dArgs_, ga_f, ga_t, argsOf, dLc, wipeE, dListRg, dIndex, dSortSet, dSortSc, dEnum, dEnA, dZip, dIsi, dIsi2, isaT, φI, φB, φC, φNeg, add_i, add_l, add_t, mul_i, mul_l, φIx, sl_l, sl_t, eq_i, eq_s, eq_l, eq_t, eq_b, eq_n, φIsN, isN_n, isN_b, isN_i, isN_s, isN_l, isN_t, φLen, φList, φTuple, φAbs, φInt, φMax, φIsB, φIsNB, its_l, its_t, rd_sh, rd_nw, rd_br, rp_sh, rp_nw, rp_br, rp_bx, rp_raw, rp_sr, rr_sh, rr_nw, rr_br, ra_sh, ra_br, ra_bx, ra_raw, va_sh, va_nt, va_nf, va_raw, hb_n, hb_sh, hb_bx, hb_raw, hb_br, sh_n, sh_c, tr_n, tr_b, tr_i, tr_l, tr_t, ty_n, ty_b, ty_i, ty_s, ty_l, ty_t, if_ff, if_tt, Env.set, List.getElem?_cons_succ, List.getElem?_cons_zero, List.set_cons_succ, List.set_cons_zero, List.reverse_cons, List.reverse_nil, List.nil_append, List.cons_append, Option.bind_some, ite_true, ite_false]
    rw [intsD_dI]
    refine ⟨h1, ?_⟩
    rw [cutD_from _ _ (Int.natCast_nonneg _), cutD_to _ _ (Int.natCast_nonneg _), Int.toNat_natCast, e]
    exact ⟨hl, q⟩
  | false =>
    show b_turned _ ⟨[.sh (.tuple (dI ms)), .sh (.int z), .un], c⟩
    refine sq_ ?_
    try dsimp only [dVar_, gv_sh, gv_ow, gv_bx, gv_raw, gv_st, dC, dRaw, dOp, dUn, dTest, dTruth, dAnd, dOr, dNot, dYes, dIf, dAndV, dOrV, dNotV, dNotT, dChain, dNil, dCons, dTup, dLst, dats, dCB, dNoP, dPart, dSl, dNext, dBreak, dCont, dNever, dDrop, dRet, dRetN, dIfS, dSetG, dPar, dPar3, dAppend, dAppPop, dSetIx, dExt, dAug, dSet0, dSAdd, dSNotIn, dIter_, gi_l, gi_t, gi_b, dRng1, dRng2, dName, dGNil, dGCons, dGTup, dAsg, dFor, dWhile, dCall, dCallR, dArgs_, ga_f, ga_t, argsOf, dLc, wipeE, dListRg, dIndex, dSortSet, dSortSc, dEnum, dEnA, dZip, dIsi, dIsi2, isaT, φI, φB, φC, φNeg, add_i, add_l, add_t, mul_i, mul_l, φIx, sl_l, sl_t, eq_i, eq_s, eq_l, eq_t, eq_b, eq_n, φIsN, isN_n, isN_b, isN_i, isN_s, isN_l, isN_t, φLen, φList, φTuple, φAbs, φInt, φMax, φIsB, φIsNB, its_l, its_t, rd_sh, rd_nw, rd_br, rp_sh, rp_nw, rp_br, rp_bx, rp_raw, rp_sr, rr_sh, rr_nw, rr_br, ra_sh, ra_br, ra_bx, ra_raw, va_sh, va_nt, va_nf, va_raw, hb_n, hb_sh, hb_bx, hb_raw, hb_br, sh_n, sh_c, tr_n, tr_b, tr_i, tr_l, tr_t, ty_n, ty_b, ty_i, ty_s, ty_l, ty_t, if_ff, if_tt, Env.set, List.getElem?_cons_succ, List.getElem?_cons_zero, List.set_cons_succ, List.set_cons_zero, List.reverse_cons, List.reverse_nil, List.nil_append, List.cons_append, Option.bind_some, ite_true, ite_false]
    rw [intsD_dI]
    refine ⟨h1, ?_⟩
    rw [cutD_from _ _ (Int.natCast_nonneg _), cutD_to _ _ (Int.natCast_nonneg _), Int.toNat_natCast, e]
    exact ⟨hl, q⟩
theorem dI_last {ns : List Int} {z : Int} (h : ns.getLast? = some z) : (dI ns).getLast? = some (.int z) := by
  rw [List.getLast?_map, h]; rfl
theorem φMin_dI {d : PyData} {ns : List Int} {Q : R → Prop} (hd : PyData.its d = some (dI ns)) (ne : ns ≠ []) (q : ∀ m, IsMin ns m → Q (.sh (.int m))) : φMin [d] Q := by
  have e : (PyData.its d).bind intsD = some ns := by rw [hd]; exact intsD_dI ns
  rcases its_cases hd with rfl | rfl
  · unfold φMin
    dsimp only
    rw [e]
    exact ⟨List.length_pos_iff.mpr ne, q⟩
  · unfold φMin
    dsimp only
    rw [e]
    exact ⟨List.length_pos_iff.mpr ne, q⟩
theorem Stt.rt {ns : List Int} (h : Stt ns) {p : Int} (hp : Per ns p) : Route ns p (routeF ns p) := routeF_ok h.lo hp.1 hp.2
theorem route_low {ns : List Int} (h : Stt ns) {p : Int} (hp : Per ns p) : Low ns.length (routeF ns p) := by
  obtain ⟨L, e, nd, hin⟩ := h.rt hp
  intro z hz
  rw [e] at hz
  obtain ⟨i, _, ei⟩ := itrs_mem.mp hz
  rw [← ei]; exact itr_low h.lo hp.1 hp.2 i
theorem route_len {ns : List Int} (h : Stt ns) {p : Int} (hp : Per ns p) : 1 ≤ (routeF ns p).length ∧ (routeF ns p).length ≤ ns.length := by
  obtain ⟨L, e, nd, hin⟩ := h.rt hp
  refine ⟨?_, low_len ns.length _ nd (route_low h hp)⟩
  exact List.length_pos_iff.mpr fun z => by rw [z] at hin; cases hin
/-- the last one of a route, and whom they point at -/
theorem route_last {ns : List Int} (h : Stt ns) {p : Int} (hp : Per ns p) : ∃ l, (routeF ns p).getLast? = some l ∧ Per ns l ∧ gt ns l ∈ routeF ns p ∧ (routeF ns p).getLastD 0 = l := by
  obtain ⟨L, e, nd, hin⟩ := h.rt hp
  have l1 := (route_len h hp).1
  have hL : (routeF ns p).length = L := by rw [e, itrs_len]
  have el : (routeF ns p)[L - 1]? = some (itr ns p (L - 1)) := by rw [e]; exact itrs_get (by omega)
  have e2 : (routeF ns p).getLast? = some (itr ns p (L - 1)) := by rw [List.getLast?_eq_getElem?, hL]; exact el
  refine ⟨itr ns p (L - 1), e2, itr_low h.lo hp.1 hp.2 _, ?_, ?_⟩
  · have : gt ns (itr ns p (L - 1)) = itr ns p L := by
      have : L = L - 1 + 1 := by omega
      rw [this]; rfl
    rw [this]; exact hin
  · rw [List.getLastD_eq_getLast?, e2]; rfl
/-- ring_begin: state, route -/
def b_ring_begin : DTS := (dRet (dIndex (dVar 1) (dOp φIx (dVar 0) (dOp φIx (dVar 1) (dUn φNeg (dC (.int 1)))))))
abbrev k_ring_begin : Nat := 0
def p_ring_begin : DSp := fun args c Q => ∃ (d e : PyData) (ns : List Int) (p : Int), args = [.sh d, .sh e] ∧ PyData.its d = some (dI ns) ∧ Stt ns ∧ Per ns p ∧ PyData.its e = some (dI (routeF ns p)) ∧ Q (.sh (.int (heightF ns p : Nat))) c
theorem mon_ring_begin : MonF p_ring_begin := fun args c A B h ⟨d, e, ns, p, ea, h1, h2, h3, h4, q⟩ => ⟨d, e, ns, p, ea, h1, h2, h3, h4, h _ _ q⟩
theorem m_ring_begin : ∀ args c Q, p_ring_begin args c Q → defF k_ring_begin b_ring_begin args c Q := by
  rintro _ c Q ⟨d, e, ns, p, rfl, h1, h2, h3, h4, q⟩
  show b_ring_begin _ ⟨[.sh d, .sh e], c⟩
  unfold b_ring_begin
  try dsimp only [dVar_, gv_sh, gv_ow, gv_bx, gv_raw, gv_st, dC, dRaw, dOp, dUn, dTest, dTruth, dAnd, dOr, dNot, dYes, dIf, dAndV, dOrV, dNotV, dNotT, dChain, dNil, dCons, dTup, dLst, dats, dCB, dNoP, dPart, dSl, dNext, dBreak, dCont, dNever, dDrop, dRet, dRetN, dIfS, dSetG, dPar, dPar3, dAppend, dAppPop, dSetIx, dExt, dAug, dSet0, dSAdd, dSNotIn, dIter_, gi_l, gi_t, gi_b, dRng1, dRng2, dName, dGNil, dGCons, dGTup, dAsg, dFor, dWhile, dCall, dCallR, dArgs_, ga_f, ga_t, argsOf, dLc, wipeE, dListRg, dIndex, dSortSet, dSortSc, dEnum, dEnA, dZip, dIsi, dIsi2, isaT, φI, φB, φC, φNeg, add_i, add_l, add_t, mul_i, mul_l, φIx, sl_l, sl_t, eq_i, eq_s, eq_l, eq_t, eq_b, eq_n, φIsN, isN_n, isN_b, isN_i, isN_s, isN_l, isN_t, φLen, φList, φTuple, φAbs, φInt, φMax, φIsB, φIsNB, its_l, its_t, rd_sh, rd_nw, rd_br, rp_sh, rp_nw, rp_br, rp_bx, rp_raw, rp_sr, rr_sh, rr_nw, rr_br, ra_sh, ra_br, ra_bx, ra_raw, va_sh, va_nt, va_nf, va_raw, hb_n, hb_sh, hb_bx, hb_raw, hb_br, sh_n, sh_c, tr_n, tr_b, tr_i, tr_l, tr_t, ty_n, ty_b, ty_i, ty_s, ty_l, ty_t, if_ff, if_tt, Env.set, List.getElem?_cons_succ, List.getElem?_cons_zero, List.set_cons_succ, List.set_cons_zero, List.reverse_cons, List.reverse_nil, List.nil_append, List.cons_append, Option.bind_some, ite_true, ite_false]
  obtain ⟨l, l1, l2, l3, l4⟩ := route_last h2 h3
  rw [h4]
  dsimp only
  rw [h1]
  refine ⟨_, atI_last (dI_last l1), ?_⟩
  dsimp only
  refine ⟨_, atI_dI l2.1 l2.2, ?_⟩
  rw [intsD_dI]
  refine ⟨l3, ?_⟩
  unfold heightF beginF at q
  rw [l4] at q
  exact q
/-- ring_of: state, person, route, members -/
def b_ring_of : DTS := (dSeq (dDrop (dCall p_check_person (dCons (dVar 0) (dCons (dVar 1) dNil))))
  (dSeq (dSetG false 2 (dCall p_route_from (dCons (dVar 0) (dCons (dVar 1) dNil))))
  (dSeq (dSetG false 3 (dSl φSl (dVar 2) (dPart (dCall p_ring_begin (dCons (dVar 0) (dCons (dVar 2) dNil)))) dNoP))
  (dRet (dCB φTuple (dCons (dCall p_turned (dCons (dVar 3) (dCons (dCB φMin (dCons (dVar 3) dNil)) dNil))) dNil))))))
abbrev k_ring_of : Nat := 2
def p_ring_of : DSp := fun args c Q => ∃ (d : PyData) (ns : List Int) (p : Int), args = [.sh d, .sh (.int p)] ∧ PyData.its d = some (dI ns) ∧ Stt ns ∧ Per ns p ∧ Q (.sh (.tuple (dI (ringF ns p)))) c
theorem mon_ring_of : MonF p_ring_of := fun args c A B h ⟨d, ns, p, ea, h1, h2, h3, q⟩ => ⟨d, ns, p, ea, h1, h2, h3, h _ _ q⟩
theorem dI_lenI (ns : List Int) : ((dI ns).length : Int) = ns.length := by rw [dI_len]
theorem c_check {d : PyData} {ns : List Int} {p : Int} {c : Nat} {Q : R → Nat → Prop} (h1 : PyData.its d = some (dI ns)) (hp : Per ns p) (q : Q (.sh .none) c) : p_check_person [.sh d, .sh (.int p)] c Q :=
  ⟨d, dI ns, p, rfl, h1, hp.1, by rw [dI_lenI]; exact hp.2, q⟩
theorem c_route {d : PyData} {ns : List Int} {p : Int} {c : Nat} {Q : R → Nat → Prop} (h1 : PyData.its d = some (dI ns)) (h2 : Stt ns) (hp : Per ns p) (q : Q (.nw (dI (routeF ns p))) c) : p_route_from [.sh d, .sh (.int p)] c Q :=
  ⟨d, ns.map some, p, rfl, by rw [dO_ints]; exact h1, by rw [List.length_map]; exact .of h2.lo, by rw [List.length_map]; exact h2.le, hp.1, by rw [List.length_map]; exact hp.2, by rw [routeO_some h2.lo hp.1 hp.2]; exact q⟩
theorem begin_lt {ns : List Int} (h : Stt ns) {p : Int} (hp : Per ns p) : heightF ns p < (routeF ns p).length := by
  obtain ⟨l, l1, l2, l3, l4⟩ := route_last h hp
  unfold heightF beginF
  rw [l4]; exact List.idxOf_lt_length_of_mem l3
theorem m_ring_of : ∀ args c Q, p_ring_of args c Q → defF k_ring_of b_ring_of args c Q := by
  rintro _ c Q ⟨d, ns, p, rfl, h1, h2, h3, q⟩
  show b_ring_of _ ⟨[.sh d, .sh (.int p), .un, .un], c⟩
  unfold b_ring_of
  refine sq_ ?_
  try dsimp only [dVar_, gv_sh, gv_ow, gv_bx, gv_raw, gv_st, dC, dRaw, dOp, dUn, dTest, dTruth, dAnd, dOr, dNot, dYes, dIf, dAndV, dOrV, dNotV, dNotT, dChain, dNil, dCons, dTup, dLst, dats, dCB, dNoP, dPart, dSl, dNext, dBreak, dCont, dNever, dDrop, dRet, dRetN, dIfS, dSetG, dPar, dPar3, dAppend, dAppPop, dSetIx, dExt, dAug, dSet0, dSAdd, dSNotIn, dIter_, gi_l, gi_t, gi_b, dRng1, dRng2, dName, dGNil, dGCons, dGTup, dAsg, dFor, dWhile, dCall, dCallR, dArgs_, ga_f, ga_t, argsOf, dLc, wipeE, dListRg, dIndex, dSortSet, dSortSc, dEnum, dEnA, dZip, dIsi, dIsi2, isaT, φI, φB, φC, φNeg, add_i, add_l, add_t, mul_i, mul_l, φIx, sl_l, sl_t, eq_i, eq_s, eq_l, eq_t, eq_b, eq_n, φIsN, isN_n, isN_b, isN_i, isN_s, isN_l, isN_t, φLen, φList, φTuple, φAbs, φInt, φMax, φIsB, φIsNB, its_l, its_t, rd_sh, rd_nw, rd_br, rp_sh, rp_nw, rp_br, rp_bx, rp_raw, rp_sr, rr_sh, rr_nw, rr_br, ra_sh, ra_br, ra_bx, ra_raw, va_sh, va_nt, va_nf, va_raw, hb_n, hb_sh, hb_bx, hb_raw, hb_br, sh_n, sh_c, tr_n, tr_b, tr_i, tr_l, tr_t, ty_n, ty_b, ty_i, ty_s, ty_l, ty_t, if_ff, if_tt, Env.set, List.getElem?_cons_succ, List.getElem?_cons_zero, List.set_cons_succ, List.set_cons_zero, List.reverse_cons, List.reverse_nil, List.nil_append, List.cons_append, Option.bind_some, ite_true, ite_false]
  refine c_check h1 h3 ?_
  refine sq_ ?_
  try dsimp only [dVar_, gv_sh, gv_ow, gv_bx, gv_raw, gv_st, dC, dRaw, dOp, dUn, dTest, dTruth, dAnd, dOr, dNot, dYes, dIf, dAndV, dOrV, dNotV, dNotT, dChain, dNil, dCons, dTup, dLst, dats, dCB, dNoP, dPart, dSl, dNext, dBreak, dCont, dNever, dDrop, dRet, dRetN, dIfS, dSetG, dPar, dPar3, dAppend, dAppPop, dSetIx, dExt, dAug, dSet0, dSAdd, dSNotIn, dIter_, gi_l, gi_t, gi_b, dRng1, dRng2, dName, dGNil, dGCons, dGTup, dAsg, dFor, dWhile, dCall, dCallR, dArgs_, ga_f, ga_t, argsOf, dLc, wipeE, dListRg, dIndex, dSortSet, dSortSc, dEnum, dEnA, dZip, dIsi, dIsi2, isaT, φI, φB, φC, φNeg, add_i, add_l, add_t, mul_i, mul_l, φIx, sl_l, sl_t, eq_i, eq_s, eq_l, eq_t, eq_b, eq_n, φIsN, isN_n, isN_b, isN_i, isN_s, isN_l, isN_t, φLen, φList, φTuple, φAbs, φInt, φMax, φIsB, φIsNB, its_l, its_t, rd_sh, rd_nw, rd_br, rp_sh, rp_nw, rp_br, rp_bx, rp_raw, rp_sr, rr_sh, rr_nw, rr_br, ra_sh, ra_br, ra_bx, ra_raw, va_sh, va_nt, va_nf, va_raw, hb_n, hb_sh, hb_bx, hb_raw, hb_br, sh_n, sh_c, tr_n, tr_b, tr_i, tr_l, tr_t, ty_n, ty_b, ty_i, ty_s, ty_l, ty_t, if_ff, if_tt, Env.set, List.getElem?_cons_succ, List.getElem?_cons_zero, List.set_cons_succ, List.set_cons_zero, List.reverse_cons, List.reverse_nil, List.nil_append, List.cons_append, Option.bind_some, ite_true, ite_false]
  refine c_route h1 h2 h3 ?_
  refine sq_ ?_
  try dsimp only [dVar_, gv_sh, gv_ow, gv_bx, gv_raw, gv_st, dC, dRaw, dOp, dUn, dTest, dTruth, dAnd, dOr, dNot, dYes, dIf, dAndV, dOrV, dNotV, dNotT, dChain, dNil, dCons, dTup, dLst, dats, dCB, dNoP, dPart, dSl, dNext, dBreak, dCont, dNever, dDrop, dRet, dRetN, dIfS, dSetG, dPar, dPar3, dAppend, dAppPop, dSetIx, dExt, dAug, dSet0, dSAdd, dSNotIn, dIter_, gi_l, gi_t, gi_b, dRng1, dRng2, dName, dGNil, dGCons, dGTup, dAsg, dFor, dWhile, dCall, dCallR, dArgs_, ga_f, ga_t, argsOf, dLc, wipeE, dListRg, dIndex, dSortSet, dSortSc, dEnum, dEnA, dZip, dIsi, dIsi2, isaT, φI, φB, φC, φNeg, add_i, add_l, add_t, mul_i, mul_l, φIx, sl_l, sl_t, eq_i, eq_s, eq_l, eq_t, eq_b, eq_n, φIsN, isN_n, isN_b, isN_i, isN_s, isN_l, isN_t, φLen, φList, φTuple, φAbs, φInt, φMax, φIsB, φIsNB, its_l, its_t, rd_sh, rd_nw, rd_br, rp_sh, rp_nw, rp_br, rp_bx, rp_raw, rp_sr, rr_sh, rr_nw, rr_br, ra_sh, ra_br, ra_bx, ra_raw, va_sh, va_nt, va_nf, va_raw, hb_n, hb_sh, hb_bx, hb_raw, hb_br, sh_n, sh_c, tr_n, tr_b, tr_i, tr_l, tr_t, ty_n, ty_b, ty_i, ty_s, ty_l, ty_t, if_ff, if_tt, Env.set, List.getElem?_cons_succ, List.getElem?_cons_zero, List.set_cons_succ, List.set_cons_zero, List.reverse_cons, List.reverse_nil, List.nil_append, List.cons_append, Option.bind_some, ite_true, ite_false]
  refine ⟨d, _, ns, p, rfl, h1, h2, h3, its_l _, ?_⟩
  try dsimp only [dVar_, gv_sh, gv_ow, gv_bx, gv_raw, gv_st, dC, dRaw, dOp, dUn, dTest, dTruth, dAnd, dOr, dNot, dYes, dIf, dAndV, dOrV, dNotV, dNotT, dChain, dNil, dCons, dTup, dLst, dats, dCB, dNoP, dPart, dSl, dNext, dBreak, dCont, dNever, dDrop, dRet, dRetN, dIfS, dSetG, dPar, dPar3, dAppend, dAppPop, dSetIx, dExt, dAug, dSet0, dSAdd, dSNotIn, dIter_, gi_l, gi_t, gi_b, dRng1, dRng2, dName, dGNil, dGCons, dGTup, dAsg, dFor, dWhile, dCall, dCallR, dArgs_, ga_f, ga_t, argsOf, dLc, wipeE, dListRg, dIndex, dSortSet, dSortSc, dEnum, dEnA, dZip, dIsi, dIsi2, isaT, φI, φB, φC, φNeg, add_i, add_l, add_t, mul_i, mul_l, φIx, sl_l, sl_t, eq_i, eq_s, eq_l, eq_t, eq_b, eq_n, φIsN, isN_n, isN_b, isN_i, isN_s, isN_l, isN_t, φLen, φList, φTuple, φAbs, φInt, φMax, φIsB, φIsNB, its_l, its_t, rd_sh, rd_nw, rd_br, rp_sh, rp_nw, rp_br, rp_bx, rp_raw, rp_sr, rr_sh, rr_nw, rr_br, ra_sh, ra_br, ra_bx, ra_raw, va_sh, va_nt, va_nf, va_raw, hb_n, hb_sh, hb_bx, hb_raw, hb_br, sh_n, sh_c, tr_n, tr_b, tr_i, tr_l, tr_t, ty_n, ty_b, ty_i, ty_s, ty_l, ty_t, if_ff, if_tt, Env.set, List.getElem?_cons_succ, List.getElem?_cons_zero, List.set_cons_succ, List.set_cons_zero, List.reverse_cons, List.reverse_nil, List.nil_append, List.cons_append, Option.bind_some, ite_true, ite_false]
  rw [cutD_from _ _ (Int.natCast_nonneg _), Int.toNat_natCast, dI_drop]
  have hne : (routeF ns p).drop (heightF ns p) ≠ [] := fun e => by
    have := congrArg List.length e
    have h := begin_lt h2 h3
    rw [List.length_drop] at this
    rw [List.length_nil] at this
    omega
  have hl : ((routeF ns p).drop (heightF ns p)).length ≤ 1000 := by
    rw [List.length_drop]
    have := (route_len h2 h3).2
    have := h2.le
    omega
  refine φMin_dI (its_l _) hne fun m hm => ?_
  refine ⟨true, _, m, rfl, hm.1, by omega, ?_⟩
  try dsimp only [dVar_, gv_sh, gv_ow, gv_bx, gv_raw, gv_st, dC, dRaw, dOp, dUn, dTest, dTruth, dAnd, dOr, dNot, dYes, dIf, dAndV, dOrV, dNotV, dNotT, dChain, dNil, dCons, dTup, dLst, dats, dCB, dNoP, dPart, dSl, dNext, dBreak, dCont, dNever, dDrop, dRet, dRetN, dIfS, dSetG, dPar, dPar3, dAppend, dAppPop, dSetIx, dExt, dAug, dSet0, dSAdd, dSNotIn, dIter_, gi_l, gi_t, gi_b, dRng1, dRng2, dName, dGNil, dGCons, dGTup, dAsg, dFor, dWhile, dCall, dCallR, dArgs_, ga_f, ga_t, argsOf, dLc, wipeE, dListRg, dIndex, dSortSet, dSortSc, dEnum, dEnA, dZip, dIsi, dIsi2, isaT, φI, φB, φC, φNeg, add_i, add_l, add_t, mul_i, mul_l, φIx, sl_l, sl_t, eq_i, eq_s, eq_l, eq_t, eq_b, eq_n, φIsN, isN_n, isN_b, isN_i, isN_s, isN_l, isN_t, φLen, φList, φTuple, φAbs, φInt, φMax, φIsB, φIsNB, its_l, its_t, rd_sh, rd_nw, rd_br, rp_sh, rp_nw, rp_br, rp_bx, rp_raw, rp_sr, rr_sh, rr_nw, rr_br, ra_sh, ra_br, ra_bx, ra_raw, va_sh, va_nt, va_nf, va_raw, hb_n, hb_sh, hb_bx, hb_raw, hb_br, sh_n, sh_c, tr_n, tr_b, tr_i, tr_l, tr_t, ty_n, ty_b, ty_i, ty_s, ty_l, ty_t, if_ff, if_tt, Env.set, List.getElem?_cons_succ, List.getElem?_cons_zero, List.set_cons_succ, List.set_cons_zero, List.reverse_cons, List.reverse_nil, List.nil_append, List.cons_append, Option.bind_some, ite_true, ite_false, rq]
  have em : m = minF ((routeF ns p).drop (heightF ns p)) := by
    have := minF_ok hne
    exact Int.le_antisymm (hm.2 _ this.1) (this.2 _ hm.1)
  rw [em]
  exact q
end Lp

namespace Lp
open PySem PySem.Spec PyProof.Rows L2
local macro_rules | `(tactic| rfl') => `(tactic| try dsimp only [dVar_, gv_sh, gv_ow, gv_bx, gv_raw, gv_st, dC, dRaw, dOp, dUn, dTest, dTruth, dAnd, dOr, dNot, dYes, dIf, dAndV, dOrV, dNotV, dNotT, dChain, dNil, dCons, dTup, dLst, dats, dCB, dNoP, dPart, dSl, dNext, dBreak, dCont, dNever, dDrop, dRet, dRetN, dIfS, dSetG, dPar, dPar3, dAppend, dAppPop, dSetIx, dExt, dAug, dSet0, dSAdd, dSNotIn, dIter_, gi_l, gi_t, gi_b, dRng1, dRng2, dName, dGNil, dGCons, dGTup, dAsg, dFor, dWhile, dCall, dCallR, dArgs_, ga_f, ga_t, argsOf, dLc, wipeE, dListRg, dIndex, dSortSet, dSortSc, dEnum, dEnA, dZip, dIsi, dIsi2, isaT, φI, φB, φC, φNeg, add_i, add_l, add_t, mul_i, mul_l, φIx, sl_l, sl_t, eq_i, eq_s, eq_l, eq_t, eq_b, eq_n, φIsN, isN_n, isN_b, isN_i, isN_s, isN_l, isN_t, φLen, φList, φTuple, φAbs, φInt, φMax, φIsB, φIsNB, its_l, its_t, rd_sh, rd_nw, rd_br, rp_sh, rp_nw, rp_br, rp_bx, rp_raw, rp_sr, rr_sh, rr_nw, rr_br, ra_sh, ra_br, ra_bx, ra_raw, va_sh, va_nt, va_nf, va_raw, hb_n, hb_sh, hb_bx, hb_raw, hb_br, sh_n, sh_c, tr_n, tr_b, tr_i, tr_l, tr_t, ty_n, ty_b, ty_i, ty_s, ty_l, ty_t, if_ff, if_tt, Env.set, List.getElem?_cons_succ, List.getElem?_cons_zero, List.set_cons_succ, List.set_cons_zero, List.reverse_cons, List.reverse_nil, List.nil_append, List.cons_append, Option.bind_some, ite_true, ite_false])
theorem rg0 (n : Nat) : rgD 0 n = (List.range n).map fun i : Nat => .int (i : Nat) := by
  unfold rgD
  exact List.map_congr_left fun i _ => by rw [Int.zero_add]
theorem per_nat {ns : List Int} {j : Nat} (h : j < ns.length) : Per ns (j : Int) := ⟨Int.natCast_nonneg _, by omega⟩
theorem c_ring {d : PyData} {ns : List Int} {p : Int} {c : Nat} {Q : R → Nat → Prop} (h1 : PyData.its d = some (dI ns)) (h2 : Stt ns) (hp : Per ns p) (q : Q (.sh (.tuple (dI (ringF ns p)))) c) : p_ring_of [.sh d, .sh (.int p)] c Q := ⟨d, ns, p, rfl, h1, h2, hp, q⟩
theorem ring_ne {ns : List Int} (h : Stt ns) {p : Int} (hp : Per ns p) : ringF ns p ≠ [] := by
  unfold ringF
  refine turnF_ne fun e => ?_
  have := congrArg List.length e
  have h := begin_lt h hp
  rw [List.length_drop, List.length_nil] at this
  unfold heightF at h
  omega
theorem Stt.rg {ns : List Int} (h : Stt ns) : -(2 ^ 62) ≤ (ns.length : Int) ∧ (ns.length : Int) < 2 ^ 62 := by have := h.le; omega
theorem φAll_dB {any : Bool} {bs : List Bool} {Q : R → Prop} (q : Q (.sh (.bool (if any then bs.any id else bs.all id)))) : φAll any [.list (dB bs)] Q := by
  unfold φAll
  dsimp only
  rw [boolsD_dB]
  exact q
theorem dB_map {α : Type} (xs : List α) (f : α → Bool) : (xs.map fun x => PyData.bool (f x)) = dB (xs.map f) := by
  show _ = (xs.map f).map _
  rw [List.map_map]; rfl
theorem ring_le {ns : List Int} (h : Stt ns) {p : Int} (hp : Per ns p) : (ringF ns p).length ≤ ns.length := by
  unfold ringF turnF
  rw [List.length_append, List.length_drop, List.length_take, List.length_drop]
  have := (route_len h hp).2
  omega
theorem RingsOf.mem {ns : List Int} (h : Stt ns) {RS : List (List Int)} (hR : RingsOf ns RS) {r : List Int} (hr : r ∈ RS) : r ≠ [] ∧ r.length ≤ ns.length := by
  obtain ⟨j, hj, rfl⟩ := (hR.2.2 r).mp hr
  exact ⟨ring_ne h (per_nat hj), ring_le h (per_nat hj)⟩
theorem RingsOf.len {ns : List Int} {RS : List (List Int)} (hR : RingsOf ns RS) : RS.length ≤ ns.length := by
  have := nd_subG RS ((List.range ns.length).map fun i : Nat => ringF ns (i : Int)) hR.1 fun r hr => by
    obtain ⟨j, hj, e⟩ := (hR.2.2 r).mp hr
    exact List.mem_map.mpr ⟨j, List.mem_range.mpr hj, e⟩
  rw [List.length_map, List.length_range] at this
  exact this
end Lp

namespace Lp
open PySem PySem.Spec PyProof.Rows L2
local macro_rules | `(tactic| rfl') => `(tactic| try dsimp only [dVar_, gv_sh, gv_ow, gv_bx, gv_raw, gv_st, dC, dRaw, dOp, dUn, dTest, dTruth, dAnd, dOr, dNot, dYes, dIf, dAndV, dOrV, dNotV, dNotT, dChain, dNil, dCons, dTup, dLst, dats, dCB, dNoP, dPart, dSl, dNext, dBreak, dCont, dNever, dDrop, dRet, dRetN, dIfS, dSetG, dPar, dPar3, dAppend, dAppPop, dSetIx, dExt, dAug, dSet0, dSAdd, dSNotIn, dIter_, gi_l, gi_t, gi_b, dRng1, dRng2, dName, dGNil, dGCons, dGTup, dAsg, dFor, dWhile, dCall, dCallR, dArgs_, ga_f, ga_t, argsOf, dLc, wipeE, dListRg, dIndex, dSortSet, dSortSc, dEnum, dEnA, dZip, dIsi, dIsi2, isaT, φI, φB, φC, φNeg, add_i, add_l, add_t, mul_i, mul_l, φIx, sl_l, sl_t, eq_i, eq_s, eq_l, eq_t, eq_b, eq_n, φIsN, isN_n, isN_b, isN_i, isN_s, isN_l, isN_t, φLen, φList, φTuple, φAbs, φInt, φMax, φIsB, φIsNB, its_l, its_t, rd_sh, rd_nw, rd_br, rp_sh, rp_nw, rp_br, rp_bx, rp_raw, rp_sr, rr_sh, rr_nw, rr_br, ra_sh, ra_br, ra_bx, ra_raw, va_sh, va_nt, va_nf, va_raw, hb_n, hb_sh, hb_bx, hb_raw, hb_br, sh_n, sh_c, tr_n, tr_b, tr_i, tr_l, tr_t, ty_n, ty_b, ty_i, ty_s, ty_l, ty_t, if_ff, if_tt, Env.set, List.getElem?_cons_succ, List.getElem?_cons_zero, List.set_cons_succ, List.set_cons_zero, List.reverse_cons, List.reverse_nil, List.nil_append, List.cons_append, Option.bind_some, ite_true, ite_false])
def p_law_take : DSp := fun args c Q => ∃ span : Int, args = [.bx, .sh (.int span)] ∧ 1 ≤ span ∧ span ≤ 10000000000000 ∧ c ≤ 900000000 ∧ ∀ (r : Int) (c' : Nat), 0 ≤ r → r < span → c' ≤ c + 3 → Q (.sh (.int r)) c'
theorem mon_law_take : MonF p_law_take := fun args c A B h ⟨s, e, h1, h2, h3, q⟩ => ⟨s, e, h1, h2, h3, fun r c' a b d => h _ _ (q r c' a b d)⟩
theorem c_take {span : Int} {c : Nat} {Q : R → Nat → Prop} (h1 : 1 ≤ span) (h2 : span ≤ 10000000000000) (h3 : c ≤ 900000000) (q : ∀ (r : Int) (c' : Nat), 0 ≤ r → r < span → c' ≤ c + 3 → Q (.sh (.int r)) c') : p_law_take [.bx, .sh (.int span)] c Q := ⟨span, rfl, h1, h2, h3, q⟩
theorem erase_perm {α : Type} : ∀ (l : List α) (i : Nat) (h : i < l.length), (l[i] :: l.eraseIdx i).Perm l
  | _ :: _, 0, _ => List.Perm.refl _
  | x :: r, i + 1, h => (List.Perm.swap x (r[i]'(Nat.lt_of_succ_lt_succ h)) (r.eraseIdx i)).trans ((erase_perm r i (Nat.lt_of_succ_lt_succ h)).cons x)
def NetOk (n : Nat) (ns : List Int) : Prop := ns.length = n ∧ Low n ns
end Lp

namespace Lp
open PySem PySem.Spec PyProof.Rows L2
local macro_rules | `(tactic| rfl') => `(tactic| try dsimp only [dVar_, gv_sh, gv_ow, gv_bx, gv_raw, gv_st, dC, dRaw, dOp, dUn, dTest, dTruth, dAnd, dOr, dNot, dYes, dIf, dAndV, dOrV, dNotV, dNotT, dChain, dNil, dCons, dTup, dLst, dats, dCB, dNoP, dPart, dSl, dNext, dBreak, dCont, dNever, dDrop, dRet, dRetN, dIfS, dSetG, dPar, dPar3, dAppend, dAppPop, dSetIx, dExt, dAug, dSet0, dSAdd, dSNotIn, dIter_, gi_l, gi_t, gi_b, dRng1, dRng2, dName, dGNil, dGCons, dGTup, dAsg, dFor, dWhile, dCall, dCallR, dArgs_, ga_f, ga_t, argsOf, dLc, wipeE, dListRg, dIndex, dSortSet, dSortSc, dEnum, dEnA, dZip, dIsi, dIsi2, isaT, φI, φB, φC, φNeg, add_i, add_l, add_t, mul_i, mul_l, φIx, sl_l, sl_t, eq_i, eq_s, eq_l, eq_t, eq_b, eq_n, φIsN, isN_n, isN_b, isN_i, isN_s, isN_l, isN_t, φLen, φList, φTuple, φAbs, φInt, φMax, φIsB, φIsNB, its_l, its_t, rd_sh, rd_nw, rd_br, rp_sh, rp_nw, rp_br, rp_bx, rp_raw, rp_sr, rr_sh, rr_nw, rr_br, ra_sh, ra_br, ra_bx, ra_raw, va_sh, va_nt, va_nf, va_raw, hb_n, hb_sh, hb_bx, hb_raw, hb_br, sh_n, sh_c, tr_n, tr_b, tr_i, tr_l, tr_t, ty_n, ty_b, ty_i, ty_s, ty_l, ty_t, if_ff, if_tt, Env.set, List.getElem?_cons_succ, List.getElem?_cons_zero, List.set_cons_succ, List.set_cons_zero, List.reverse_cons, List.reverse_nil, List.nil_append, List.cons_append, Option.bind_some, ite_true, ite_false])
theorem NetOk.stt {n : Nat} {ns : List Int} (h : NetOk n ns) (h1 : 1 ≤ n) (h2 : n ≤ 1000) : Stt ns := by
  obtain ⟨rfl, lo⟩ := h
  exact ⟨lo, h2, h1⟩
end Lp

namespace Lp
open PySem PySem.Spec PyProof.Rows L2
local macro_rules | `(tactic| rfl') => `(tactic| try dsimp only [dVar_, gv_sh, gv_ow, gv_bx, gv_raw, gv_st, dC, dRaw, dOp, dUn, dTest, dTruth, dAnd, dOr, dNot, dYes, dIf, dAndV, dOrV, dNotV, dNotT, dChain, dNil, dCons, dTup, dLst, dats, dCB, dNoP, dPart, dSl, dNext, dBreak, dCont, dNever, dDrop, dRet, dRetN, dIfS, dSetG, dPar, dPar3, dAppend, dAppPop, dSetIx, dExt, dAug, dSet0, dSAdd, dSNotIn, dIter_, gi_l, gi_t, gi_b, dRng1, dRng2, dName, dGNil, dGCons, dGTup, dAsg, dFor, dWhile, dCall, dCallR, dArgs_, ga_f, ga_t, argsOf, dLc, wipeE, dListRg, dIndex, dSortSet, dSortSc, dEnum, dEnA, dZip, dIsi, dIsi2, isaT, φI, φB, φC, φNeg, add_i, add_l, add_t, mul_i, mul_l, φIx, sl_l, sl_t, eq_i, eq_s, eq_l, eq_t, eq_b, eq_n, φIsN, isN_n, isN_b, isN_i, isN_s, isN_l, isN_t, φLen, φList, φTuple, φAbs, φInt, φMax, φIsB, φIsNB, its_l, its_t, rd_sh, rd_nw, rd_br, rp_sh, rp_nw, rp_br, rp_bx, rp_raw, rp_sr, rr_sh, rr_nw, rr_br, ra_sh, ra_br, ra_bx, ra_raw, va_sh, va_nt, va_nf, va_raw, hb_n, hb_sh, hb_bx, hb_raw, hb_br, sh_n, sh_c, tr_n, tr_b, tr_i, tr_l, tr_t, ty_n, ty_b, ty_i, ty_s, ty_l, ty_t, if_ff, if_tt, Env.set, List.getElem?_cons_succ, List.getElem?_cons_zero, List.set_cons_succ, List.set_cons_zero, List.reverse_cons, List.reverse_nil, List.nil_append, List.cons_append, Option.bind_some, ite_true, ite_false])
def dep : Nat → PyData → Bool
  | 0, _ => false
  | k + 1, .list ds => decide (ds.length ≤ 1000000) && ds.all (dep k)
  | k + 1, .tuple ds => decide (ds.length ≤ 1000000) && ds.all (dep k)
  | _ + 1, .dict _ => false
  | _ + 1, _ => true
def p_law_same (k : Nat) : DSp := fun args c Q => ∃ a b : PyData, args = [.sh a, .sh b] ∧ a = b ∧ dep k a = true ∧ Q (.sh (.bool true)) c
theorem mon_law_same (k : Nat) : MonF (p_law_same k) := fun args c A B h ⟨a, b, e, h1, h2, q⟩ => ⟨a, b, e, h1, h2, h _ _ q⟩
theorem zip_self (ds : List PyData) : zipDs ds ds = ds.map fun d => .tuple [d, d] := by
  unfold zipDs
  induction ds with
  | nil => rfl
  | cons x r ih => rw [List.zipWith_cons_cons, ih]; rfl
theorem same_seq {k : Nat} {ds : List PyData} {s : List SV} {c : Nat} {Q : R → Env → Prop} (hk : ds.all (dep k) = true) (hl : ds.length ≤ 16777216) (hs : ∃ x y, s = [x, y, .un, .un]) (q : Q (.nw (ds.map fun _ => .bool true)) ⟨s, c⟩) :
    lcD (dGTup 2 (dGCons (dName 2) (dGCons (dName 3) dGNil))) dYes (dCall (p_law_same k) (dCons (dVar 2) (dCons (dVar 3) dNil))) [2, 3] s Q (zipDs ds ds) [] c := by
  obtain ⟨x, y, rfl⟩ := hs
  rw [zip_self]
  refine lc_all (fun d => .tuple [d, d]) (fun _ => .bool true) ds [] (fun d hd K hK => ?_) (by show 0 + _ ≤ _; omega) q
  rfl'
  refine ⟨rfl, ?_⟩
  refine ⟨d, d, rfl, rfl, List.all_eq_true.mp hk d hd, ?_⟩
  rfl'
  exact hK _ _ rfl rfl
theorem eqv_self_b (b : Bool) : PyData.eqv (.bool b) (.bool b) = true := by cases b <;> rfl
theorem dep_list {k : Nat} {ds : List PyData} (h : dep (k + 1) (.list ds) = true) : ds.length ≤ 1000000 ∧ ds.all (dep k) = true := by
  unfold dep at h
  rw [Bool.and_eq_true] at h
  exact ⟨of_decide_eq_true h.1, h.2⟩
theorem dep_tuple {k : Nat} {ds : List PyData} (h : dep (k + 1) (.tuple ds) = true) : ds.length ≤ 1000000 ∧ ds.all (dep k) = true := by
  unfold dep at h
  rw [Bool.and_eq_true] at h
  exact ⟨of_decide_eq_true h.1, h.2⟩
theorem all_true (ds : List PyData) : (dB (ds.map fun _ => true)).length = ds.length ∧ (ds.map fun _ => true).all id = true := by
  refine ⟨by rw [List.length_map, List.length_map], ?_⟩
  rw [List.all_map]
  exact List.all_eq_true.mpr fun _ _ => rfl
end Lp

namespace Lp
open PySem PySem.Spec PyProof.Rows L2
local macro_rules | `(tactic| rfl') => `(tactic| try dsimp only [dVar_, gv_sh, gv_ow, gv_bx, gv_raw, gv_st, dC, dRaw, dOp, dUn, dTest, dTruth, dAnd, dOr, dNot, dYes, dIf, dAndV, dOrV, dNotV, dNotT, dChain, dNil, dCons, dTup, dLst, dats, dCB, dNoP, dPart, dSl, dNext, dBreak, dCont, dNever, dDrop, dRet, dRetN, dIfS, dSetG, dPar, dPar3, dAppend, dAppPop, dSetIx, dExt, dAug, dSet0, dSAdd, dSNotIn, dIter_, gi_l, gi_t, gi_b, dRng1, dRng2, dName, dGNil, dGCons, dGTup, dAsg, dFor, dWhile, dCall, dCallR, dArgs_, ga_f, ga_t, argsOf, dLc, wipeE, dListRg, dIndex, dSortSet, dSortSc, dEnum, dEnA, dZip, dIsi, dIsi2, isaT, φI, φB, φC, φNeg, add_i, add_l, add_t, mul_i, mul_l, φIx, sl_l, sl_t, eq_i, eq_s, eq_l, eq_t, eq_b, eq_n, φIsN, isN_n, isN_b, isN_i, isN_s, isN_l, isN_t, φLen, φList, φTuple, φAbs, φInt, φMax, φIsB, φIsNB, its_l, its_t, rd_sh, rd_nw, rd_br, rp_sh, rp_nw, rp_br, rp_bx, rp_raw, rp_sr, rr_sh, rr_nw, rr_br, ra_sh, ra_br, ra_bx, ra_raw, va_sh, va_nt, va_nf, va_raw, hb_n, hb_sh, hb_bx, hb_raw, hb_br, sh_n, sh_c, tr_n, tr_b, tr_i, tr_l, tr_t, ty_n, ty_b, ty_i, ty_s, ty_l, ty_t, if_ff, if_tt, Env.set, List.getElem?_cons_succ, List.getElem?_cons_zero, List.set_cons_succ, List.set_cons_zero, List.reverse_cons, List.reverse_nil, List.nil_append, List.cons_append, Option.bind_some, ite_true, ite_false])
inductive All2 {α β : Type} (P : α → β → Prop) : List α → List β → Prop
  | nil : All2 P [] []
  | cons {x : α} {y : β} {xs : List α} {ys : List β} : P x y → All2 P xs ys → All2 P (x :: xs) (y :: ys)
theorem All2.len {α β : Type} {P : α → β → Prop} : ∀ {xs : List α} {ys : List β}, All2 P xs ys → ys.length = xs.length
  | _, _, .nil => rfl
  | _, _, .cons _ r => by rw [List.length_cons, List.length_cons, r.len]
theorem All2.mem {α β : Type} {P : α → β → Prop} : ∀ {xs : List α} {ys : List β}, All2 P xs ys → ∀ y ∈ ys, ∃ x ∈ xs, P x y
  | _, _, .cons a r, y, h => by
    rcases List.mem_cons.mp h with rfl | h
    · exact ⟨_, List.mem_cons_self, a⟩
    · obtain ⟨x, hx, hp⟩ := r.mem y h
      exact ⟨x, List.mem_cons_of_mem _ hx, hp⟩
theorem All2.get {α β : Type} {P : α → β → Prop} : ∀ {xs : List α} {ys : List β}, All2 P xs ys → ∀ {i : Nat} {x : α}, xs[i]? = some x → ∃ y, ys[i]? = some y ∧ P x y
  | _, _, .nil, i, x, h => by simp at h
  | _, _, .cons a r, 0, x, h => by simp at h; subst h; exact ⟨_, rfl, a⟩
  | _, _, .cons a r, i + 1, x, h => by
    obtain ⟨y, h1, h2⟩ := r.get (i := i) (x := x) (by simpa using h)
    exact ⟨y, by simpa using h1, h2⟩
theorem lc_draw {α β : Type} {γ : DTG} {f : DTE} {vs : List Nat} {s : List SV} {Q : R → Env → Prop} {N : Nat} (h : α → PyData) (u : β → PyData) (P : α → β → Prop) : ∀ (xs : List α) (acc : List β) (n : Nat),
    (∀ x ∈ xs, ∀ m, m ≤ n + N * xs.length → ∀ K : R → Env → Prop, (∀ r ε y, r.pub = .sh (u y) → P x y → ε.c ≤ m + N → K r ε) → γ (h x) ⟨wipeE ⟨s, m⟩ vs, m⟩ fun ε1 => f ε1 K) →
    acc.length + xs.length ≤ 16777216 → (∀ ys m, All2 P xs ys → m ≤ n + N * xs.length → Q (.nw ((acc ++ ys).map u)) ⟨s, m⟩) → lcD γ dYes f vs s Q (xs.map h) (acc.map u) n
  | [], acc, n, _, _, q => by
    have := q [] n .nil (Nat.le_add_right _ _)
    rw [List.append_nil] at this
    exact this
  | x :: xs, acc, n, st, le, q => by
    rw [List.length_cons] at le
    rw [List.length_cons, Nat.mul_add, Nat.mul_one] at st q
    rw [List.map_cons]
    refine lc_cons ?_
    refine st x List.mem_cons_self n (Nat.le_add_right _ _) (fun r ε3 => match r.pub with
      | .sh e => (acc.map u).length < sizeLine ∧ lcD γ dYes f vs s Q (xs.map h) (acc.map u ++ [e]) ε3.c
      | _ => False) fun r ε y hr hy hc => ?_
    rw [hr]
    refine ⟨show (acc.map u).length < 16777216 by rw [List.length_map]; omega, ?_⟩
    have e : acc.map u ++ [u y] = (acc ++ [y]).map u := by rw [List.map_append]; rfl
    rw [e]
    refine lc_draw h u P xs (acc ++ [y]) ε.c (fun z hz m hm => st z (List.mem_cons_of_mem _ hz) m (by omega)) (by rw [List.length_append, List.length_singleton]; omega) fun ys m hys hm => ?_
    rw [List.append_assoc]
    exact q (y :: ys) m (.cons hy hys) (by omega)
end Lp

namespace Lp
open PySem PySem.Spec PyProof.Rows L2
local macro_rules | `(tactic| rfl') => `(tactic| try dsimp only [dVar_, gv_sh, gv_ow, gv_bx, gv_raw, gv_exn, gv_st, dC, dRaw, dOp, dUn, dTest, dTruth, dAnd, dOr, dNot, dYes, dIf, dAndV, dOrV, dNotV, dNotT, dChain, dNil, dCons, dTup, dLst, dats, dCB, dNoP, dPart, dSl, dNext, dBreak, dCont, dNever, dDrop, dRet, dRetN, dIfS, dSetG, dPar, dPar3, dAppend, dAppPop, dSetIx, dExt, dAug, dSet0, dSAdd, dSNotIn, dIter_, gi_l, gi_t, gi_b, dRng1, dRng2, dName, dGNil, dGCons, dGTup, dAsg, dFor, dWhile, dCall, dCallR, dArgs_, ga_f, ga_t, argsOf, dLc, wipeE, dListRg, dIndex, dSortSet, dSortSc, dEnum, dEnA, dZip, dIsi, dIsi2, isaT, φI, φB, φC, φNeg, add_i, add_l, add_t, mul_i, mul_l, φIx, sl_l, sl_t, eq_i, eq_s, eq_l, eq_t, eq_b, eq_n, φIsN, isN_n, isN_b, isN_i, isN_s, isN_l, isN_t, φLen, φList, φTuple, φAbs, φInt, φMax, φIsB, φIsNB, its_l, its_t, rd_sh, rd_nw, rd_br, rp_sh, rp_nw, rp_br, rp_bx, rp_raw, rp_sr, rr_sh, rr_nw, rr_br, ra_sh, ra_br, ra_bx, ra_raw, va_sh, va_nt, va_nf, va_raw, hb_n, hb_sh, hb_bx, hb_raw, hb_br, sh_n, sh_c, tr_n, tr_b, tr_i, tr_l, tr_t, ty_n, ty_b, ty_i, ty_s, ty_l, ty_t, if_ff, if_tt, Env.set, List.getElem?_cons_succ, List.getElem?_cons_zero, List.set_cons_succ, List.set_cons_zero, List.reverse_cons, List.reverse_nil, List.nil_append, List.cons_append, Option.bind_some, ite_true, ite_false])
/-- height: state, person -/
def b_height : DTS := (dSeq (dDrop (dCall p_check_person (dCons (dVar 0) (dCons (dVar 1) dNil))))
  (dRet (dCall p_ring_begin (dCons (dVar 0) (dCons (dCall p_route_from (dCons (dVar 0) (dCons (dVar 1) dNil))) dNil)))))
abbrev k_height : Nat := 0
def p_height : DSp := fun args c Q => ∃ (d : PyData) (ns : List Int) (p : Int), args = [.sh d, .sh (.int p)] ∧ PyData.its d = some (dI ns) ∧ Stt ns ∧ Per ns p ∧ Q (.sh (.int (heightF ns p : Nat))) c
theorem mon_height : MonF p_height := fun args c A B h ⟨d, ns, p, e, h1, h2, h3, q⟩ => ⟨d, ns, p, e, h1, h2, h3, h _ _ q⟩
theorem m_height : ∀ args c Q, p_height args c Q → defF k_height b_height args c Q := by
  rintro _ c Q ⟨d, ns, p, rfl, h1, h2, h3, q⟩
  show b_height _ ⟨[.sh d, .sh (.int p)], c⟩
  unfold b_height
  refine sq_ ?_
  rfl'
  refine c_check h1 h3 ?_
  rfl'
  refine c_route h1 h2 h3 ?_
  rfl'
  refine ⟨d, _, ns, p, rfl, h1, h2, h3, its_l _, ?_⟩
  rfl'
  exact q
theorem c_height {d : PyData} {ns : List Int} {p : Int} {c : Nat} {Q : R → Nat → Prop} (h1 : PyData.its d = some (dI ns)) (h2 : Stt ns) (hp : Per ns p) (q : Q (.sh (.int (heightF ns p : Nat))) c) : p_height [.sh d, .sh (.int p)] c Q := ⟨d, ns, p, rfl, h1, h2, hp, q⟩
/-- _law_strewn: _law_box_here, _law_some, _law_left, _law_found -/
def b_law_strewn_2 : DTS := (dSeq (dPar 2 true 3 true (dCB φList (dCons (dVar 1) dNil)) (dLst dNil))
  (dSeq (dWhile (dTest (dOp (φEq true) (dVar 2) (dLst dNil))) (dAppPop 3 2 (dCall p_law_take (dCons (dVar 0) (dCons (dCB φLen (dCons (dVar 2) dNil)) dNil)))))
  (dRet (dVar 3))))
abbrev k_law_strewn_2 : Nat := 2
def p_strewn_int : DSp := fun args c Q => ∃ (d : PyData) (ms : List Int), args = [.bx, .sh d] ∧ PyData.its d = some (dI ms) ∧ ms.length ≤ 100000 ∧ c + 3 * ms.length ≤ 900000000 ∧ ∀ es c', es.Perm ms → c' ≤ c + 3 * ms.length → Q (.nw (dI es)) c'
def p_strewn_tup : DSp := fun args c Q => ∃ (d : PyData) (ms : List (List Int)), args = [.bx, .sh d] ∧ PyData.its d = some (dT ms) ∧ ms.length ≤ 100000 ∧ c + 3 * ms.length ≤ 900000000 ∧ ∀ es c', es.Perm ms → c' ≤ c + 3 * ms.length → Q (.nw (dT es)) c'
def p_law_strewn_2 : DSp := fun args c Q => p_strewn_int args c Q ∨ p_strewn_tup args c Q
theorem mon_law_strewn_2 : MonF p_law_strewn_2 := fun args c A B h z => by
  rcases z with ⟨s, ds, e, h1, h2, h3, q⟩ | ⟨s, ds, e, h1, h2, h3, q⟩
  · exact .inl ⟨s, ds, e, h1, h2, h3, fun r c' a b => h _ _ (q r c' a b)⟩
  · exact .inr ⟨s, ds, e, h1, h2, h3, fun r c' a b => h _ _ (q r c' a b)⟩
theorem ne_nil_eqv {ms : List Int} : PyData.eqv (.list (dI ms)) (.list []) = decide (ms = []) := eqvL ms []
theorem perm_popI {ds es fs : List Int} {i : Nat} (hi : i < ds.length) (hp : (es ++ ds).Perm fs) : ((es ++ [ds[i]]) ++ ds.eraseIdx i).Perm fs := by
  refine List.Perm.trans ?_ hp
  rw [List.append_assoc]
  exact List.Perm.append_left es (erase_perm ds i hi)
theorem strewn2_loop {x : SV} {Δ : DEnds} {fs : List Int} (hfs : fs.length ≤ 100000) :
    ∀ (k : Nat) (ds es : List Int) (c : Nat), ds.length = k → (es ++ ds).Perm fs → c + 3 * ds.length ≤ 900000000 → (∀ es c', es.Perm fs → c' ≤ c + 3 * ds.length → Δ.nx ⟨[.bx, x, .ow [], .ow (dI es)], c'⟩) →
      whileN (dTest (dOp (φEq true) (dVar 2) (dLst dNil))) (dAppPop 3 2 (dCall p_law_take (dCons (dVar 0) (dCons (dCB φLen (dCons (dVar 2) dNil)) dNil)))) Δ (k + 1) ⟨[.bx, x, .ow (dI ds), .ow (dI es)], c⟩
  | k, ds, es, c, hl, hp, hc, q => by
    have s1 : SeqAt.shaped (.list (dI ds)) = true := shL ds
    have s0 : SeqAt.shaped (.list []) = true := shL []
    unfold whileN
    rfl'
    refine ⟨⟨s1, s0⟩, ?_⟩
    rw [ne_nil_eqv]
    refine in_2 (fun hne => ?_) fun hnil => ?_
    · have hlen : (es ++ ds).length = fs.length := hp.length_eq
      rw [List.length_append] at hlen
      have hpos : 0 < ds.length := List.length_pos_iff.mpr hne
      cases k with
      | zero => omega
      | succ k =>
        rw [dI_len]
        refine c_take (by omega) (by omega) (by omega) fun r c' r0 r1 hc' => ?_
        rfl'
        have hr : r.toNat < ds.length := by omega
        have h4 : (ds.eraseIdx r.toNat).length = ds.length - 1 := List.length_eraseIdx_of_lt hr
        refine ⟨r0, by rw [dI_len]; exact r1, by rw [dI_len]; omega, show (dI es).length < 16777216 by rw [dI_len]; omega, .int ds[r.toNat], dI_get (List.getElem?_eq_getElem hr), ?_⟩
        rw [dI_erase, dI_snoc]
        exact strewn2_loop hfs k (ds.eraseIdx r.toNat) (es ++ [ds[r.toNat]]) c' (by omega) (perm_popI hr hp) (by omega) fun es c2 h1 h2 => q es c2 h1 (by omega)
    · subst hnil
      rw [List.append_nil] at hp
      exact q es c hp (by omega)
theorem lay_tupsG : ∀ a : List (List Int), PyData.canLayAll0 (dT a) = true
  | [] => by simp [PyData.canLayAll0]
  | x :: a => by
    show PyData.canLayAll0 (.tuple (dI x) :: dT a) = true
    simp only [PyData.canLayAll0, PyData.canLay0, lay_tupsG a, lay_ints, Bool.and_self]
theorem depth_tupsG : ∀ a : List (List Int), PyData.depthAll (dT a) ≤ 1
  | [] => by simp [PyData.depthAll]
  | x :: a => by
    have := depth_tupsG a
    show PyData.depthAll (.tuple (dI x) :: dT a) ≤ 1
    simp only [PyData.depthAll, PyData.depth, depth_ints]
    omega
theorem shG (a : List (List Int)) : SeqAt.shaped (.list (dT a)) = true := by
  unfold SeqAt.shaped
  have := depth_tupsG a
  simp only [PyData.canLay0, PyData.depth, lay_tupsG, Bool.true_and]
  exact decide_eq_true (by omega)
theorem eqv_nilG : ∀ a : List (List Int), PyData.eqv (.list (dT a)) (.list []) = decide (a = [])
  | [] => by simp [PyData.eqv, PyData.eqvAll]
  | x :: a => by
    show PyData.eqv (.list (.tuple (dI x) :: dT a)) (.list []) = _
    simp [PyData.eqv, PyData.eqvAll]
theorem perm_popG {α : Type} {ds es fs : List α} {i : Nat} (hi : i < ds.length) (hp : (es ++ ds).Perm fs) : ((es ++ [ds[i]]) ++ ds.eraseIdx i).Perm fs := by
  refine List.Perm.trans ?_ hp
  rw [List.append_assoc]
  exact List.Perm.append_left es (erase_perm ds i hi)
theorem erase_mapG : ∀ (l : List (List Int)) (k : Nat), (dT l).eraseIdx k = dT (l.eraseIdx k)
  | [], _ => rfl
  | _ :: _, 0 => rfl
  | x :: l, k + 1 => by
    show .tuple (dI x) :: (dT l).eraseIdx k = .tuple (dI x) :: dT (l.eraseIdx k)
    rw [erase_mapG l k]
theorem dT_lenG (a : List (List Int)) : (dT a).length = a.length := List.length_map ..
theorem strewn3_loop {x : SV} {Δ : DEnds} {fs : List (List Int)} (hfs : fs.length ≤ 100000) :
    ∀ (k : Nat) (ds es : List (List Int)) (c : Nat), ds.length = k → (es ++ ds).Perm fs → c + 3 * ds.length ≤ 900000000 → (∀ es c', es.Perm fs → c' ≤ c + 3 * ds.length → Δ.nx ⟨[.bx, x, .ow [], .ow (dT es)], c'⟩) →
      whileN (dTest (dOp (φEq true) (dVar 2) (dLst dNil))) (dAppPop 3 2 (dCall p_law_take (dCons (dVar 0) (dCons (dCB φLen (dCons (dVar 2) dNil)) dNil)))) Δ (k + 1) ⟨[.bx, x, .ow (dT ds), .ow (dT es)], c⟩
  | k, ds, es, c, hl, hp, hc, q => by
    have s1 : SeqAt.shaped (.list (dT ds)) = true := shG ds
    have s0 : SeqAt.shaped (.list []) = true := shL []
    unfold whileN
    rfl'
    refine ⟨⟨s1, s0⟩, ?_⟩
    rw [eqv_nilG]
    refine in_2 (fun hne => ?_) fun hnil => ?_
    · have hlen : (es ++ ds).length = fs.length := hp.length_eq
      rw [List.length_append] at hlen
      have hpos : 0 < ds.length := List.length_pos_iff.mpr hne
      cases k with
      | zero => omega
      | succ k =>
        rw [dT_lenG]
        refine c_take (by omega) (by omega) (by omega) fun r c' r0 r1 hc' => ?_
        rfl'
        have hr : r.toNat < ds.length := by omega
        have h4 : (ds.eraseIdx r.toNat).length = ds.length - 1 := List.length_eraseIdx_of_lt hr
        refine ⟨r0, by rw [dT_lenG]; exact r1, by rw [dT_lenG]; omega, show (dT es).length < 16777216 by rw [dT_lenG]; omega, .tuple (dI ds[r.toNat]), by show (List.map _ _)[_]? = _; rw [List.getElem?_map, List.getElem?_eq_getElem hr]; rfl, ?_⟩
        have e1 : (dT ds).eraseIdx r.toNat = dT (ds.eraseIdx r.toNat) := by
          exact erase_mapG ds r.toNat
        have e2 : dT es ++ [PyData.tuple (dI ds[r.toNat])] = dT (es ++ [ds[r.toNat]]) := by
          show _ = List.map _ _
          rw [List.map_append]; rfl
        rw [e1, e2]
        exact strewn3_loop hfs k (ds.eraseIdx r.toNat) (es ++ [ds[r.toNat]]) c' (by omega) (perm_popG hr hp) (by omega) fun es c2 h1 h2 => q es c2 h1 (by omega)
    · subst hnil
      rw [List.append_nil] at hp
      exact q es c hp (by omega)
theorem m_law_strewn_2 : ∀ args c Q, p_law_strewn_2 args c Q → defF k_law_strewn_2 b_law_strewn_2 args c Q := by
  rintro _ c Q (⟨d, ms, rfl, h1, h2, h3, q⟩ | ⟨d, ms, rfl, h1, h2, h3, q⟩)
  · show b_law_strewn_2 _ ⟨[.bx, .sh d, .un, .un], c⟩
    unfold b_law_strewn_2
    refine sq_ ?_
    rfl'
    rw [h1]
    rfl'
    refine sq_ ?_
    rfl'
    refine ⟨ms.length + 1, strewn2_loop (es := []) h2 ms.length ms c rfl (List.Perm.refl _) h3 fun es c' hp hc => ?_⟩
    rfl'
    exact q es c' hp hc
  · show b_law_strewn_2 _ ⟨[.bx, .sh d, .un, .un], c⟩
    unfold b_law_strewn_2
    refine sq_ ?_
    rfl'
    rw [h1]
    rfl'
    refine sq_ ?_
    rfl'
    refine ⟨ms.length + 1, strewn3_loop (es := []) h2 ms.length ms c rfl (List.Perm.refl _) h3 fun es c' hp hc => ?_⟩
    rfl'
    exact q es c' hp hc
end Lp

namespace Lp
open PySem PySem.Spec PyProof.Rows L2
local macro_rules | `(tactic| rfl') => `(tactic| try dsimp only [dVar_, gv_sh, gv_ow, gv_bx, gv_raw, gv_exn, gv_st, dC, dRaw, dOp, dUn, dTest, dTruth, dAnd, dOr, dNot, dYes, dIf, dAndV, dOrV, dNotV, dNotT, dChain, dNil, dCons, dTup, dLst, dats, dCB, dNoP, dPart, dSl, dNext, dBreak, dCont, dNever, dDrop, dRet, dRetN, dIfS, dSetG, dPar, dPar3, dAppend, dAppPop, dSetIx, dExt, dAug, dSet0, dSAdd, dSNotIn, dIter_, gi_l, gi_t, gi_b, dRng1, dRng2, dName, dGNil, dGCons, dGTup, dAsg, dFor, dWhile, dCall, dCallR, dArgs_, ga_f, ga_t, argsOf, dLc, wipeE, dListRg, dIndex, dSortSet, dSortSc, dEnum, dEnA, dZip, dIsi, dIsi2, isaT, φI, φB, φC, φNeg, add_i, add_l, add_t, mul_i, mul_l, φIx, sl_l, sl_t, eq_i, eq_s, eq_l, eq_t, eq_b, eq_n, φIsN, isN_n, isN_b, isN_i, isN_s, isN_l, isN_t, φLen, φList, φTuple, φAbs, φInt, φMax, φIsB, φIsNB, its_l, its_t, rd_sh, rd_nw, rd_br, rp_sh, rp_nw, rp_br, rp_bx, rp_raw, rp_sr, rr_sh, rr_nw, rr_br, ra_sh, ra_br, ra_bx, ra_raw, va_sh, va_nt, va_nf, va_raw, hb_n, hb_sh, hb_bx, hb_raw, hb_br, sh_n, sh_c, tr_n, tr_b, tr_i, tr_l, tr_t, ty_n, ty_b, ty_i, ty_s, ty_l, ty_t, if_ff, if_tt, Env.set, List.getElem?_cons_succ, List.getElem?_cons_zero, List.set_cons_succ, List.set_cons_zero, List.reverse_cons, List.reverse_nil, List.nil_append, List.cons_append, Option.bind_some, ite_true, ite_false])
end Lp

namespace Lp
open PySem PySem.Spec PyProof.Rows L2
local macro_rules | `(tactic| rfl') => `(tactic| try dsimp only [dVar_, gv_sh, gv_ow, gv_bx, gv_raw, gv_st, dC, dRaw, dOp, dUn, dTest, dTruth, dAnd, dOr, dNot, dYes, dIf, dAndV, dOrV, dNotV, dNotT, dChain, dNil, dCons, dTup, dLst, dats, dCB, dNoP, dPart, dSl, dNext, dBreak, dCont, dNever, dDrop, dRet, dRetN, dIfS, dSetG, dPar, dPar3, dAppend, dAppPop, dSetIx, dExt, dAug, dSet0, dSAdd, dSNotIn, dIter_, gi_l, gi_t, gi_b, dRng1, dRng2, dName, dGNil, dGCons, dGTup, dAsg, dFor, dWhile, dCall, dCallR, dArgs_, ga_f, ga_t, argsOf, dLc, wipeE, dListRg, dIndex, dSortSet, dSortSc, dEnum, dEnA, dZip, dIsi, dIsi2, isaT, φI, φB, φC, φNeg, add_i, add_l, add_t, mul_i, mul_l, φIx, sl_l, sl_t, eq_i, eq_s, eq_l, eq_t, eq_b, eq_n, φIsN, isN_n, isN_b, isN_i, isN_s, isN_l, isN_t, φLen, φList, φTuple, φAbs, φInt, φMax, φIsB, φIsNB, its_l, its_t, rd_sh, rd_nw, rd_br, rp_sh, rp_nw, rp_br, rp_bx, rp_raw, rp_sr, rr_sh, rr_nw, rr_br, ra_sh, ra_br, ra_bx, ra_raw, va_sh, va_nt, va_nf, va_raw, hb_n, hb_sh, hb_bx, hb_raw, hb_br, sh_n, sh_c, tr_n, tr_b, tr_i, tr_l, tr_t, ty_n, ty_b, ty_i, ty_s, ty_l, ty_t, if_ff, if_tt, Env.set, List.getElem?_cons_succ, List.getElem?_cons_zero, List.set_cons_succ, List.set_cons_zero, List.reverse_cons, List.reverse_nil, List.nil_append, List.cons_append, Option.bind_some, ite_true, ite_false])
theorem route_head {gs : List Int} (h : Stt gs) {p : Int} (hp : Per gs p) : ∃ r, routeF gs p = p :: r := by
  obtain ⟨L, e, nd, hin⟩ := h.rt hp
  have l1 := (route_len h hp).1
  rw [e, itrs_len] at l1
  obtain ⟨M, rfl⟩ : ∃ M, L = M + 1 := ⟨L - 1, by omega⟩
  refine ⟨(itrs gs p (M + 1)).tail, ?_⟩
  rw [e]
  unfold itrs
  rw [List.range_succ_eq_map]; rfl
/-- who comes back to themselves is on a ring -/
theorem back_cyc {ns : List Int} (h : Stt ns) {x : Int} (hx : Per ns x) {m : Nat} (hm : 0 < m) (e : itr ns x m = x) : ∃ c, Cyc ns x c := by
  obtain ⟨c, cy, er, _⟩ := ringF_cyc h.lo hx.1 hx.2
  have all : ∀ k, itr ns x (m * k) = x := by
    intro k
    induction k with
    | zero => rfl
    | succ k ih => rw [Nat.mul_succ, itr_add, ih, e]
  have hk := all (heightF ns x)
  obtain ⟨t, ht⟩ : ∃ t, m * heightF ns x = heightF ns x + t := ⟨m * heightF ns x - heightF ns x, by
    have : 1 * heightF ns x ≤ m * heightF ns x := Nat.mul_le_mul_right _ hm
    omega⟩
  rw [ht, itr_add] at hk
  have := cy.all t
  rw [hk] at this
  exact ⟨c, (cy.at this).1⟩
theorem cyc_route {ns : List Int} (h : Stt ns) {x : Int} (hx : Per ns x) {c : Nat} (cy : Cyc ns x c) : routeF ns x = itrs ns x c := by
  refine (h.rt hx).eq ⟨c, rfl, cy.2.2, ?_⟩
  rw [cy.2.1]
  exact itrs_mem.mpr ⟨0, cy.1, rfl⟩
theorem cyc_ring {ns : List Int} (h : Stt ns) {x : Int} (hx : Per ns x) {c : Nat} (cy : Cyc ns x c) : ringF ns x = turnF (itrs ns x c) := ring_at h.lo hx.1 hx.2 cy
theorem mem_turnF {ms : List Int} {z : Int} : z ∈ turnF ms ↔ z ∈ ms := by
  unfold turnF
  rw [List.mem_append, Or.comm, ← List.mem_append, List.take_append_drop]
theorem on_iff {ns : List Int} (h : Stt ns) {x : Int} (hx : Per ns x) : x ∈ ringF ns x ↔ ∃ c, Cyc ns x c := by
  constructor
  · intro hm
    obtain ⟨c, er, cy, _⟩ := headF_form h.lo hx.1 hx.2
    rw [er] at hm
    exact ⟨c, (cy.at hm).1⟩
  · rintro ⟨c, cy⟩
    rw [cyc_ring h hx cy, mem_turnF]
    exact itrs_mem.mpr ⟨0, cy.1, rfl⟩
theorem gt_nat {ns : List Int} {j : Nat} (h : j < ns.length) : gt ns (j : Int) = ns[j] := by
  unfold gt
  rw [Int.toNat_natCast, List.getD_eq_getElem?_getD, List.getElem?_eq_getElem h]; rfl
/-- all new pointers lie on the old ways -/
def OnWays (ns gs : List Int) : Prop := ∀ x, Per ns x → gt gs x ∈ routeF ns (gt ns x)
theorem way_itr {ns : List Int} (h : Stt ns) {x z : Int} (hx : Per ns x) (hz : z ∈ routeF ns (gt ns x)) : ∃ m, 0 < m ∧ z = itr ns x m := by
  obtain ⟨L, e, _, _⟩ := h.rt (h.gt hx)
  rw [e] at hz
  obtain ⟨i, _, rfl⟩ := itrs_mem.mp hz
  exact ⟨i + 1, by omega, (itr_succ ns x i).symm⟩
theorem own_cyc {ns : List Int} (h : Stt ns) {x : Int} (hx : Per ns x) {d : Nat} (cy : Cyc ns x d) : routeF ns (gt ns x) = itrs ns (gt ns x) d ∧ Cyc ns (gt ns x) d := by
  have hm : gt ns x ∈ itrs ns x d := cy.all 1
  have c2 := (cy.at hm).1
  exact ⟨cyc_route h (h.gt hx) c2, c2⟩
/-- at one ring of the state: K is kept as a ring, the others point at earlier ones -/
def LapOk (gs lap : List Int) : Prop := ∃ K T : List Int, K.Sublist lap ∧ K ≠ [] ∧ T.Nodup ∧ (∀ y, y ∈ T ↔ y ∈ lap) ∧ K = T.take K.length ∧
  (∀ i, i < K.length → gt gs (K.getD i 0) = K.getD ((i + 1) % K.length) 0) ∧ ∀ i, K.length ≤ i → i < T.length → ∃ j, j < i ∧ gt gs (T.getD i 0) = T.getD j 0
theorem LapOk.congr {gs gs' lap : List Int} (h : LapOk gs lap) (e : ∀ x ∈ lap, gt gs' x = gt gs x) : LapOk gs' lap := by
  obtain ⟨K, T, h1, h2, h3, h4, h5, h6, h7⟩ := h
  refine ⟨K, T, h1, h2, h3, h4, h5, fun i hi => ?_, fun i hi hj => ?_⟩
  · rw [← h6 i hi]
    refine e _ (h1.subset ?_)
    rw [List.getD_eq_getElem?_getD, List.getElem?_eq_getElem hi]; exact List.getElem_mem _
  · obtain ⟨j, hj1, hj2⟩ := h7 i hi hj
    refine ⟨j, hj1, ?_⟩
    rw [← hj2]
    refine e _ ((h4 _).mp ?_)
    rw [List.getD_eq_getElem?_getD, List.getElem?_eq_getElem hj]; exact List.getElem_mem _
structure Fut (ns gs : List Int) : Prop where
  st : Stt gs
  len : gs.length = ns.length
  off : ∀ x, Per ns x → x ∉ ringF ns x → gt gs x ∈ routeF ns (gt ns x)
  on : ∀ x, Per ns x → x ∈ ringF ns x → LapOk gs (ringF ns x)
theorem ring_way {ns : List Int} (h : Stt ns) {x z : Int} (hx : Per ns x) (hm : x ∈ ringF ns x) (hz : z ∈ ringF ns x) : z ∈ routeF ns (gt ns x) := by
  obtain ⟨c, cy⟩ := (on_iff h hx).mp hm
  obtain ⟨e1, c2⟩ := own_cyc h hx cy
  rw [cyc_ring h hx cy, mem_turnF] at hz
  rw [e1]
  exact ((cy.at (cy.all 1)).2 z).mpr hz
theorem getD_mem {l : List Int} {i : Nat} (h : i < l.length) : l.getD i 0 ∈ l := by
  rw [List.getD_eq_getElem?_getD, List.getElem?_eq_getElem h]; exact List.getElem_mem _
theorem LapOk.in {gs lap : List Int} (h : LapOk gs lap) {x : Int} (hx : x ∈ lap) : gt gs x ∈ lap := by
  obtain ⟨K, T, h1, h2, h3, h4, h5, h6, h7⟩ := h
  have hT := (h4 x).mpr hx
  obtain ⟨i, hi, rfl⟩ := List.mem_iff_getElem.mp hT
  have e : T.getD i 0 = T[i] := by rw [List.getD_eq_getElem?_getD, List.getElem?_eq_getElem hi]; rfl
  by_cases hk : i < K.length
  · have ek : K.getD i 0 = T[i] := by
      rw [h5, List.getD_eq_getElem?_getD, List.getElem?_take_of_lt hk, List.getElem?_eq_getElem hi]; rfl
    rw [← ek, h6 i hk]
    exact h1.subset (getD_mem (Nat.mod_lt _ (by omega)))
  · obtain ⟨j, hj, ej⟩ := h7 i (by omega) hi
    rw [← e, ej]
    exact (h4 _).mp (getD_mem (by omega))
theorem Fut.ways {ns gs : List Int} (h : Stt ns) (f : Fut ns gs) : OnWays ns gs := fun x hx => by
  by_cases hm : x ∈ ringF ns x
  · exact ring_way h hx hm ((f.on x hx hm).in hm)
  · exact f.off x hx hm
/-- from each member of the lap the new pointers lead into K -/
theorem lap_in {gs K T : List Int} (h5 : K = T.take K.length) (h7 : ∀ i, K.length ≤ i → i < T.length → ∃ j, j < i ∧ gt gs (T.getD i 0) = T.getD j 0) : ∀ (n i : Nat), i ≤ n → i < T.length → ∃ t, itr gs (T.getD i 0) t ∈ K := by
  intro n
  induction n with
  | zero =>
    intro i hi ht
    by_cases hk : i < K.length
    · refine ⟨0, ?_⟩
      show T.getD i 0 ∈ K
      have : T.getD i 0 = K.getD i 0 := by rw [h5, List.getD_eq_getElem?_getD, List.getD_eq_getElem?_getD, List.getElem?_take_of_lt hk]
      rw [this]; exact getD_mem hk
    · obtain ⟨j, hj, _⟩ := h7 i (by omega) ht
      omega
  | succ n ih =>
    intro i hi ht
    by_cases hk : i < K.length
    · refine ⟨0, ?_⟩
      show T.getD i 0 ∈ K
      have : T.getD i 0 = K.getD i 0 := by rw [h5, List.getD_eq_getElem?_getD, List.getD_eq_getElem?_getD, List.getElem?_take_of_lt hk]
      rw [this]; exact getD_mem hk
    · obtain ⟨j, hj, e⟩ := h7 i (by omega) ht
      obtain ⟨t, ht2⟩ := ih j (by omega) (by omega)
      exact ⟨t + 1, by rw [itr_succ, e]; exact ht2⟩
theorem kept_itr {gs K : List Int} (h2 : K ≠ []) (h6 : ∀ i, i < K.length → gt gs (K.getD i 0) = K.getD ((i + 1) % K.length) 0) {i : Nat} (hi : i < K.length) : ∀ t, itr gs (K.getD i 0) t = K.getD ((i + t) % K.length) 0
  | 0 => by rw [Nat.add_zero, Nat.mod_eq_of_lt hi]; rfl
  | t + 1 => by
    have hl : 0 < K.length := by omega
    show gt gs (itr gs (K.getD i 0) t) = _
    rw [kept_itr h2 h6 hi t, h6 _ (Nat.mod_lt _ hl), Nat.mod_add_mod, Nat.add_assoc]
/-- the ring of a kept one is the kept list, turned -/
theorem kept_cyc {gs K : List Int} (nd : K.Nodup) (h2 : K ≠ []) (h6 : ∀ i, i < K.length → gt gs (K.getD i 0) = K.getD ((i + 1) % K.length) 0) {i : Nat} (hi : i < K.length) : Cyc gs (K.getD i 0) K.length ∧ itrs gs (K.getD i 0) K.length = K.drop i ++ K.take i := by
  have e : itrs gs (K.getD i 0) K.length = K.drop i ++ K.take i := by
    refine List.ext_getElem? fun t => ?_
    by_cases ht : t < K.length
    · rw [itrs_get ht, kept_itr h2 h6 hi t, List.getElem?_append, List.length_drop]
      by_cases q : t < K.length - i
      · rw [if_pos q, List.getElem?_drop, Nat.mod_eq_of_lt (by omega), List.getD_eq_getElem?_getD, List.getElem?_eq_getElem (by omega)]; rfl
      · have e1 : (i + t) % K.length = t - (K.length - i) := by
          rw [Nat.mod_eq_sub_mod (by omega), Nat.mod_eq_of_lt (by omega)]; omega
        rw [if_neg q, List.getElem?_take_of_lt (by omega), e1, List.getD_eq_getElem?_getD, List.getElem?_eq_getElem (by omega)]; rfl
    · rw [List.getElem?_eq_none (by rw [itrs_len]; omega), List.getElem?_eq_none (by rw [List.length_append, List.length_drop, List.length_take]; omega)]
  refine ⟨⟨by omega, ?_, ?_⟩, e⟩
  · rw [kept_itr h2 h6 hi, Nat.add_mod_right, Nat.mod_eq_of_lt hi]
  · rw [e]
    refine (List.perm_append_comm.trans ?_).nodup_iff.mpr nd
    rw [List.take_append_drop]
/-- the new rings at one old ring -/
theorem Fut.ring {ns gs : List Int} (h : Stt ns) (f : Fut ns gs) {r : Int} (hr : Per ns r) (hm : r ∈ ringF ns r) : ∃ K : List Int, K.Sublist (ringF ns r) ∧ ∀ x c, x ∈ ringF ns r → Cyc gs x c → ∃ i, i < K.length ∧ K.getD i 0 = x ∧ itrs gs x c = K.drop i ++ K.take i ∧ c = K.length := by
  obtain ⟨K, T, h1, h2, h3, h4, h5, h6, h7⟩ := f.on r hr hm
  have nd : K.Nodup := by rw [h5]; exact h3.sublist (List.take_sublist _ _)
  refine ⟨K, h1, fun x c hx cy => ?_⟩
  obtain ⟨i, hi, ei⟩ := List.mem_iff_getElem.mp ((h4 x).mpr hx)
  have e : T.getD i 0 = x := by rw [List.getD_eq_getElem?_getD, List.getElem?_eq_getElem hi]; exact ei
  obtain ⟨t, ht⟩ := lap_in h5 h7 i i (Nat.le_refl _) hi
  rw [e] at ht
  obtain ⟨j, hj, ej⟩ := List.mem_iff_getElem.mp ht
  have ej2 : K.getD j 0 = itr gs x t := by rw [List.getD_eq_getElem?_getD, List.getElem?_eq_getElem hj]; exact ej
  obtain ⟨ck, ek⟩ := kept_cyc nd h2 h6 hj
  rw [ej2] at ck ek
  have cx := (cy.at (cy.all t)).1
  have hc := ck.uniq cx
  have xin : x ∈ itrs gs (itr gs x t) c := ((cy.at (cy.all t)).2 x).mpr (itrs_mem.mpr ⟨0, cy.1, rfl⟩)
  rw [← hc, ek] at xin
  have xk : x ∈ K := by
    rcases List.mem_append.mp xin with z | z
    · exact List.mem_of_mem_drop z
    · exact List.mem_of_mem_take z
  obtain ⟨a, ha, ea⟩ := List.mem_iff_getElem.mp xk
  have ea2 : K.getD a 0 = x := by rw [List.getD_eq_getElem?_getD, List.getElem?_eq_getElem ha]; exact ea
  obtain ⟨c3, e3⟩ := kept_cyc nd h2 h6 ha
  rw [ea2] at c3 e3
  refine ⟨a, ha, ea2, ?_, hc.symm⟩
  rw [← hc]; exact e3
/-- the state itself -/
theorem Fut.self {ns : List Int} (h : Stt ns) : Fut ns ns := by
  refine ⟨h, rfl, fun x hx _ => ?_, fun x hx hm => ?_⟩
  · obtain ⟨r, e⟩ := route_head h (h.gt hx)
    rw [e]; exact List.mem_cons_self
  · obtain ⟨c, er, cy, h0, h1⟩ := headF_form h.lo hx.1 hx.2
    have hl : (ringF ns x).length = c := by rw [er, itrs_len]
    have gD : ∀ i, i < c → (ringF ns x).getD i 0 = itr ns (headF ns x) i := fun i hi => by
      rw [er, List.getD_eq_getElem?_getD, itrs_get hi]; rfl
    have c0 := cy.1
    refine ⟨ringF ns x, ringF ns x, List.Sublist.refl _, ring_ne h hx, by rw [er]; exact cy.2.2, fun _ => Iff.rfl, by rw [List.take_length], fun i hi => ?_, fun i hi hj => by omega⟩
    rw [hl] at hi ⊢
    rw [gD i hi, gD _ (Nat.mod_lt _ c0)]
    show itr ns (headF ns x) (i + 1) = _
    by_cases q : i + 1 = c
    · rw [q, Nat.mod_self, cy.2.1]; rfl
    · rw [Nat.mod_eq_of_lt (by omega)]
end Lp

namespace Lp
open PySem PySem.Spec PyProof.Rows L2
local macro_rules | `(tactic| rfl') => `(tactic| try dsimp only [dVar_, gv_sh, gv_ow, gv_bx, gv_raw, gv_st, dC, dRaw, dOp, dUn, dTest, dTruth, dAnd, dOr, dNot, dYes, dIf, dAndV, dOrV, dNotV, dNotT, dChain, dNil, dCons, dTup, dLst, dats, dCB, dNoP, dPart, dSl, dNext, dBreak, dCont, dNever, dDrop, dRet, dRetN, dIfS, dSetG, dPar, dPar3, dAppend, dAppPop, dSetIx, dExt, dAug, dSet0, dSAdd, dSNotIn, dIter_, gi_l, gi_t, gi_b, dRng1, dRng2, dName, dGNil, dGCons, dGTup, dAsg, dFor, dWhile, dCall, dCallR, dArgs_, ga_f, ga_t, argsOf, dLc, wipeE, dListRg, dIndex, dSortSet, dSortSc, dEnum, dEnA, dZip, dIsi, dIsi2, isaT, φI, φB, φC, φNeg, add_i, add_l, add_t, mul_i, mul_l, φIx, sl_l, sl_t, eq_i, eq_s, eq_l, eq_t, eq_b, eq_n, φIsN, isN_n, isN_b, isN_i, isN_s, isN_l, isN_t, φLen, φList, φTuple, φAbs, φInt, φMax, φIsB, φIsNB, its_l, its_t, rd_sh, rd_nw, rd_br, rp_sh, rp_nw, rp_br, rp_bx, rp_raw, rp_sr, rr_sh, rr_nw, rr_br, ra_sh, ra_br, ra_bx, ra_raw, va_sh, va_nt, va_nf, va_raw, hb_n, hb_sh, hb_bx, hb_raw, hb_br, sh_n, sh_c, tr_n, tr_b, tr_i, tr_l, tr_t, ty_n, ty_b, ty_i, ty_s, ty_l, ty_t, if_ff, if_tt, Env.set, List.getElem?_cons_succ, List.getElem?_cons_zero, List.set_cons_succ, List.set_cons_zero, List.reverse_cons, List.reverse_nil, List.nil_append, List.cons_append, Option.bind_some, ite_true, ite_false])
abbrev hds (RS : List (List Int)) : List Int := RS.map fun r => r.headD 0
theorem atI_hd {r : List Int} (h : r ≠ []) : atI (dI r) 0 = some (.int (r.headD 0)) := by
  cases r with
  | nil => exact absurd rfl h
  | cons x r =>
    rw [atI_nat (Int.le_refl 0) (by rw [dI_len, List.length_cons]; omega)]; rfl
end Lp

namespace Lp
open PySem PySem.Spec PyProof.Rows L2
local macro_rules | `(tactic| rfl') => `(tactic| try dsimp only [dVar_, gv_sh, gv_ow, gv_bx, gv_raw, gv_exn, gv_st, dC, dRaw, dOp, dUn, dTest, dTruth, dAnd, dOr, dNot, dYes, dIf, dAndV, dOrV, dNotV, dNotT, dChain, dNil, dCons, dTup, dLst, dats, dCB, dNoP, dPart, dSl, dNext, dBreak, dCont, dNever, dDrop, dRet, dRetN, dIfS, dSetG, dPar, dPar3, dAppend, dAppPop, dSetIx, dExt, dAug, dSet0, dSAdd, dSNotIn, dIter_, gi_l, gi_t, gi_b, dRng1, dRng2, dName, dGNil, dGCons, dGTup, dAsg, dFor, dWhile, dCall, dCallR, dArgs_, ga_f, ga_t, argsOf, dLc, wipeE, dListRg, dIndex, dSortSet, dSortSc, dEnum, dEnA, dZip, dIsi, dIsi2, isaT, φI, φB, φC, φNeg, add_i, add_l, add_t, mul_i, mul_l, φIx, sl_l, sl_t, eq_i, eq_s, eq_l, eq_t, eq_b, eq_n, φIsN, isN_n, isN_b, isN_i, isN_s, isN_l, isN_t, φLen, φList, φTuple, φAbs, φInt, φMax, φIsB, φIsNB, its_l, its_t, rd_sh, rd_nw, rd_br, rp_sh, rp_nw, rp_br, rp_bx, rp_raw, rp_sr, rr_sh, rr_nw, rr_br, ra_sh, ra_br, ra_bx, ra_raw, va_sh, va_nt, va_nf, va_raw, hb_n, hb_sh, hb_bx, hb_raw, hb_br, sh_n, sh_c, tr_n, tr_b, tr_i, tr_l, tr_t, ty_n, ty_b, ty_i, ty_s, ty_l, ty_t, if_ff, if_tt, Env.set, List.getElem?_cons_succ, List.getElem?_cons_zero, List.set_cons_succ, List.set_cons_zero, List.reverse_cons, List.reverse_nil, List.nil_append, List.cons_append, Option.bind_some, ite_true, ite_false])
end Lp

namespace Lp
open PySem PySem.Spec PyProof.Rows L2
local macro_rules | `(tactic| rfl') => `(tactic| try dsimp only [dVar_, gv_sh, gv_ow, gv_bx, gv_raw, gv_st, dC, dRaw, dOp, dUn, dTest, dTruth, dAnd, dOr, dNot, dYes, dIf, dAndV, dOrV, dNotV, dNotT, dChain, dNil, dCons, dTup, dLst, dats, dCB, dNoP, dPart, dSl, dNext, dBreak, dCont, dNever, dDrop, dRet, dRetN, dIfS, dSetG, dPar, dPar3, dAppend, dAppPop, dSetIx, dExt, dAug, dSet0, dSAdd, dSNotIn, dIter_, gi_l, gi_t, gi_b, dRng1, dRng2, dName, dGNil, dGCons, dGTup, dAsg, dFor, dWhile, dCall, dCallR, dArgs_, ga_f, ga_t, argsOf, dLc, wipeE, dListRg, dIndex, dSortSet, dSortSc, dEnum, dEnA, dZip, dIsi, dIsi2, isaT, φI, φB, φC, φNeg, add_i, add_l, add_t, mul_i, mul_l, φIx, sl_l, sl_t, eq_i, eq_s, eq_l, eq_t, eq_b, eq_n, φIsN, isN_n, isN_b, isN_i, isN_s, isN_l, isN_t, φLen, φList, φTuple, φAbs, φInt, φMax, φIsB, φIsNB, its_l, its_t, rd_sh, rd_nw, rd_br, rp_sh, rp_nw, rp_br, rp_bx, rp_raw, rp_sr, rr_sh, rr_nw, rr_br, ra_sh, ra_br, ra_bx, ra_raw, va_sh, va_nt, va_nf, va_raw, hb_n, hb_sh, hb_bx, hb_raw, hb_br, sh_n, sh_c, tr_n, tr_b, tr_i, tr_l, tr_t, ty_n, ty_b, ty_i, ty_s, ty_l, ty_t, if_ff, if_tt, Env.set, List.getElem?_cons_succ, List.getElem?_cons_zero, List.set_cons_succ, List.set_cons_zero, List.reverse_cons, List.reverse_nil, List.nil_append, List.cons_append, Option.bind_some, ite_true, ite_false])
end Lp

namespace Lp
open PySem PySem.Spec PyProof.Rows L2
local macro_rules | `(tactic| rfl') => `(tactic| try dsimp only [dVar_, gv_sh, gv_ow, gv_bx, gv_raw, gv_st, dC, dRaw, dOp, dUn, dTest, dTruth, dAnd, dOr, dNot, dYes, dIf, dAndV, dOrV, dNotV, dNotT, dChain, dNil, dCons, dTup, dLst, dats, dCB, dNoP, dPart, dSl, dNext, dBreak, dCont, dNever, dDrop, dRet, dRetN, dIfS, dSetG, dPar, dPar3, dAppend, dAppPop, dSetIx, dExt, dAug, dSet0, dSAdd, dSNotIn, dIter_, gi_l, gi_t, gi_b, dRng1, dRng2, dName, dGNil, dGCons, dGTup, dAsg, dFor, dWhile, dCall, dCallR, dArgs_, ga_f, ga_t, argsOf, dLc, wipeE, dListRg, dIndex, dSortSet, dSortSc, dEnum, dEnA, dZip, dIsi, dIsi2, isaT, φI, φB, φC, φNeg, add_i, add_l, add_t, mul_i, mul_l, φIx, sl_l, sl_t, eq_i, eq_s, eq_l, eq_t, eq_b, eq_n, φIsN, isN_n, isN_b, isN_i, isN_s, isN_l, isN_t, φLen, φList, φTuple, φAbs, φInt, φMax, φIsB, φIsNB, its_l, its_t, rd_sh, rd_nw, rd_br, rp_sh, rp_nw, rp_br, rp_bx, rp_raw, rp_sr, rr_sh, rr_nw, rr_br, ra_sh, ra_br, ra_bx, ra_raw, va_sh, va_nt, va_nf, va_raw, hb_n, hb_sh, hb_bx, hb_raw, hb_br, sh_n, sh_c, tr_n, tr_b, tr_i, tr_l, tr_t, ty_n, ty_b, ty_i, ty_s, ty_l, ty_t, if_ff, if_tt, Env.set, List.getElem?_cons_succ, List.getElem?_cons_zero, List.set_cons_succ, List.set_cons_zero, List.reverse_cons, List.reverse_nil, List.nil_append, List.cons_append, Option.bind_some, ite_true, ite_false])
def p_law_shouted : DSp := fun args c Q => ∃ (d e : PyData) (ns ws : List Int), args = [.sh d, .sh e] ∧ PyData.its d = some (dI ns) ∧ PyData.its e = some (dI ws) ∧ Stt ns ∧ Low ns.length ws ∧ Q (.sh (.tuple (dI (callAll ns ws)))) c
theorem mon_law_shouted : MonF p_law_shouted := fun args c A B h ⟨d, e, ns, ws, ea, h1, h2, h3, h4, q⟩ => ⟨d, e, ns, ws, ea, h1, h2, h3, h4, h _ _ q⟩
theorem Stt.call {ns : List Int} (h : Stt ns) {w : Int} (hw : Per ns w) : Stt (call1 ns w) := by
  have e := call1_len ns w
  exact ⟨by rw [e]; exact call1_low h.lo rfl hw.1 hw.2, by rw [e]; exact h.le, by rw [e]; exact h.ge⟩
theorem Stt.callAll {ns : List Int} (h : Stt ns) : ∀ {ws : List Int}, Low ns.length ws → Stt (callAll ns ws) := fun {ws} hw => by
  have e := callAll_len ws ns
  exact ⟨by rw [e]; exact callAll_low ws ns h.lo rfl hw, by rw [e]; exact h.le, by rw [e]; exact h.ge⟩
theorem shout_loop {x0 x1 : SV} {Δ : DEnds} {c : Nat} : ∀ (ws ns : List Int) (y : SV), Stt ns → Low ns.length ws → (∀ y, Δ.nx ⟨[x0, x1, .ow (dI (callAll ns ws)), y], c⟩) →
    forD (dName 3) (dSetIx 2 (dOp φIx (dVar 2) (dOp φIx (dVar 2) (dVar 3))) (dVar 3)) Δ (dI ws) ⟨[x0, x1, .ow (dI ns), y], c⟩
  | [], ns, y, _, _, q => q y
  | w :: ws, ns, y, hs, hw, q => by
    have pw : Per ns w := hw w List.mem_cons_self
    show forD _ _ _ (.int w :: dI ws) _
    refine for_cons ?_
    rfl'
    refine ⟨_, atI_dI pw.1 pw.2, ?_⟩
    have pg := hs.gt pw
    refine ⟨_, atI_dI pg.1 pg.2, ?_⟩
    rfl'
    refine ⟨w.toNat, ixN_ok pw.1 (by rw [dI_len]; exact pw.2), ?_⟩
    rw [dI_set]
    refine shout_loop ws (call1 ns w) _ (hs.call pw) (fun z hz => ?_) q
    rw [call1_len]; exact hw z (List.mem_cons_of_mem _ hz)
theorem gt_set {gs : List Int} {w x v : Int} (w0 : 0 ≤ w) (w1 : w < (gs.length : Int)) (x0 : 0 ≤ x) : gt (gs.set w.toNat v) x = if x = w then v else gt gs x := by
  unfold gt
  rw [List.getD_eq_getElem?_getD, List.getD_eq_getElem?_getD, List.getElem?_set]
  by_cases e : x = w
  · subst e
    rw [if_pos rfl, if_pos rfl, if_pos (by omega)]; rfl
  · rw [if_neg (by omega), if_neg e]
section
variable {x0 x1 x2 x3 x4 x5 x6 x7 x8 : SV} {Δ : DEnds}
/-- the others of the lap, one after another -/
structure Tied (n : Nat) (g0 gs T : List Int) (k : Nat) : Prop where
  len : gs.length = n
  lo : Low n gs
  nd : T.Nodup
  per : ∀ z ∈ T, 0 ≤ z ∧ z < (n : Int)
  kl : k ≤ T.length
  k0 : 0 < k
  hook : ∀ i, k ≤ i → i < T.length → ∃ j, j < i ∧ gt gs (T.getD i 0) = T.getD j 0
  same : ∀ x, 0 ≤ x → x ∉ T.drop k → gt gs x = gt g0 x
theorem Tied.snoc {n : Nat} {g0 gs T : List Int} {k : Nat} (h : Tied n g0 gs T k) {w v : Int} (hw : w ∉ T) (w0 : 0 ≤ w) (w1 : w < (n : Int)) (hv : v ∈ T) : Tied n g0 (gs.set w.toNat v) (T ++ [w]) k := by
  have wl : w < (gs.length : Int) := by rw [h.len]; exact w1
  have vp := h.per v hv
  refine ⟨by rw [List.length_set]; exact h.len, h.lo.set vp.1 vp.2, Nodup.snoc h.nd hw, fun z hz => ?_, by rw [List.length_append]; have := h.kl; omega, h.k0, fun i hi ht => ?_, fun x x0 hx => ?_⟩
  · rcases List.mem_append.mp hz with q | q
    · exact h.per z q
    · rw [List.mem_singleton.mp q]; exact ⟨w0, w1⟩
  · rw [List.length_append, List.length_singleton] at ht
    by_cases q : i < T.length
    · obtain ⟨j, hj, e⟩ := h.hook i hi q
      have m1 : T.getD i 0 ∈ T := getD_mem q
      have g1 : (T ++ [w]).getD i 0 = T.getD i 0 := by rw [List.getD_eq_getElem?_getD, List.getD_eq_getElem?_getD, List.getElem?_append_left q]
      have g2 : (T ++ [w]).getD j 0 = T.getD j 0 := by rw [List.getD_eq_getElem?_getD, List.getD_eq_getElem?_getD, List.getElem?_append_left (by omega)]
      refine ⟨j, hj, ?_⟩
      rw [g1, g2, gt_set w0 wl (h.per _ m1).1, if_neg (fun z => hw (by rw [← z]; exact m1)), e]
    · have e : i = T.length := by omega
      obtain ⟨j, hj, ej⟩ := List.mem_iff_getElem.mp hv
      have g1 : (T ++ [w]).getD i 0 = w := by rw [e, List.getD_eq_getElem?_getD, List.getElem?_concat_length]; rfl
      have g2 : (T ++ [w]).getD j 0 = v := by rw [List.getD_eq_getElem?_getD, List.getElem?_append_left hj, List.getElem?_eq_getElem hj, ej]; rfl
      refine ⟨j, by omega, ?_⟩
      rw [g1, g2, gt_set w0 wl w0, if_pos rfl]
  · have hk := h.kl
    rw [List.drop_append_of_le_length hk] at hx
    have hx1 : x ∉ T.drop k := fun z => hx (List.mem_append_left _ z)
    have hx2 : x ≠ w := fun z => hx (List.mem_append_right _ (by rw [z]; exact List.mem_singleton.mpr rfl))
    rw [gt_set w0 wl x0, if_neg hx2, h.same x x0 hx1]
end
end Lp

namespace Lp
open PySem PySem.Spec PyProof.Rows L2
local macro_rules | `(tactic| rfl') => `(tactic| try dsimp only [dVar_, gv_sh, gv_ow, gv_bx, gv_raw, gv_exn, gv_st, dC, dRaw, dOp, dUn, dTest, dTruth, dAnd, dOr, dNot, dYes, dIf, dAndV, dOrV, dNotV, dNotT, dChain, dNil, dCons, dTup, dLst, dats, dCB, dNoP, dPart, dSl, dNext, dBreak, dCont, dNever, dDrop, dRet, dRetN, dIfS, dSetG, dPar, dPar3, dAppend, dAppPop, dSetIx, dExt, dAug, dSet0, dSAdd, dSNotIn, dIter_, gi_l, gi_t, gi_b, dRng1, dRng2, dName, dGNil, dGCons, dGTup, dAsg, dFor, dWhile, dCall, dCallR, dArgs_, ga_f, ga_t, argsOf, dLc, wipeE, dListRg, dIndex, dSortSet, dSortSc, dEnum, dEnA, dZip, dIsi, dIsi2, isaT, φI, φB, φC, φNeg, add_i, add_l, add_t, mul_i, mul_l, φIx, sl_l, sl_t, eq_i, eq_s, eq_l, eq_t, eq_b, eq_n, φIsN, isN_n, isN_b, isN_i, isN_s, isN_l, isN_t, φLen, φList, φTuple, φAbs, φInt, φMax, φIsB, φIsNB, its_l, its_t, rd_sh, rd_nw, rd_br, rp_sh, rp_nw, rp_br, rp_bx, rp_raw, rp_sr, rr_sh, rr_nw, rr_br, ra_sh, ra_br, ra_bx, ra_raw, va_sh, va_nt, va_nf, va_raw, hb_n, hb_sh, hb_bx, hb_raw, hb_br, sh_n, sh_c, tr_n, tr_b, tr_i, tr_l, tr_t, ty_n, ty_b, ty_i, ty_s, ty_l, ty_t, if_ff, if_tt, Env.set, List.getElem?_cons_succ, List.getElem?_cons_zero, List.set_cons_succ, List.set_cons_zero, List.reverse_cons, List.reverse_nil, List.nil_append, List.cons_append, Option.bind_some, ite_true, ite_false])
/-- a list of people under way -/
structure Und (n : Nat) (gs : List Int) : Prop where
  len : gs.length = n
  lo : Low n gs
end Lp

namespace Lp
open PySem PySem.Spec PyProof.Rows L2
local macro_rules | `(tactic| rfl') => `(tactic| try dsimp only [dVar_, gv_sh, gv_ow, gv_bx, gv_raw, gv_st, dC, dRaw, dOp, dUn, dTest, dTruth, dAnd, dOr, dNot, dYes, dIf, dAndV, dOrV, dNotV, dNotT, dChain, dNil, dCons, dTup, dLst, dats, dCB, dNoP, dPart, dSl, dNext, dBreak, dCont, dNever, dDrop, dRet, dRetN, dIfS, dSetG, dPar, dPar3, dAppend, dAppPop, dSetIx, dExt, dAug, dSet0, dSAdd, dSNotIn, dIter_, gi_l, gi_t, gi_b, dRng1, dRng2, dName, dGNil, dGCons, dGTup, dAsg, dFor, dWhile, dCall, dCallR, dArgs_, ga_f, ga_t, argsOf, dLc, wipeE, dListRg, dIndex, dSortSet, dSortSc, dEnum, dEnA, dZip, dIsi, dIsi2, isaT, φI, φB, φC, φNeg, add_i, add_l, add_t, mul_i, mul_l, φIx, sl_l, sl_t, eq_i, eq_s, eq_l, eq_t, eq_b, eq_n, φIsN, isN_n, isN_b, isN_i, isN_s, isN_l, isN_t, φLen, φList, φTuple, φAbs, φInt, φMax, φIsB, φIsNB, its_l, its_t, rd_sh, rd_nw, rd_br, rp_sh, rp_nw, rp_br, rp_bx, rp_raw, rp_sr, rr_sh, rr_nw, rr_br, ra_sh, ra_br, ra_bx, ra_raw, va_sh, va_nt, va_nf, va_raw, hb_n, hb_sh, hb_bx, hb_raw, hb_br, sh_n, sh_c, tr_n, tr_b, tr_i, tr_l, tr_t, ty_n, ty_b, ty_i, ty_s, ty_l, ty_t, if_ff, if_tt, Env.set, List.getElem?_cons_succ, List.getElem?_cons_zero, List.set_cons_succ, List.set_cons_zero, List.reverse_cons, List.reverse_nil, List.nil_append, List.cons_append, Option.bind_some, ite_true, ite_false])
/-- ns leads to gs, as far as the people of S go -/
structure LeadOn (S : Int → Prop) (ns gs : List Int) : Prop where
  ways : ∀ x, S x → ∃ m, 0 < m ∧ gt gs x = itr ns x m
  one : ∀ x y c c', S x → S y → Cyc gs x c → Cyc gs y c' → (∃ s t, itr ns x s = itr ns y t) → y ∈ itrs gs x c
  ord : ∀ x c d, S x → Cyc gs x c → Cyc ns x d → (itrs gs x c).Sublist (itrs ns x d)
abbrev Lead (ns gs : List Int) : Prop := LeadOn (Per ns) ns gs
theorem route_all {ns : List Int} (h : Stt ns) {p : Int} (hp : Per ns p) (t : Nat) : itr ns p t ∈ routeF ns p := by
  obtain ⟨c, cy, _, er⟩ := ringF_cyc h.lo hp.1 hp.2
  rw [er]
  by_cases q : t < heightF ns p
  · exact itrs_mem.mpr ⟨t, by omega, rfl⟩
  · rw [itrs_cat]
    refine List.mem_append_right _ ?_
    have := cy.all (t - heightF ns p)
    rw [← itr_add, show heightF ns p + (t - heightF ns p) = t by omega] at this
    exact this
theorem itr_way {ns : List Int} (h : Stt ns) {x : Int} (hx : Per ns x) {m : Nat} (hm : 0 < m) : itr ns x m ∈ routeF ns (gt ns x) := by
  obtain ⟨k, rfl⟩ : ∃ k, m = k + 1 := ⟨m - 1, by omega⟩
  rw [itr_succ]
  exact route_all h (h.gt hx) k
theorem meet_ring {ns : List Int} (h : Stt ns) {x y : Int} (hx : Per ns x) (hy : Per ns y) : ringF ns x = ringF ns y ↔ ∃ s t, itr ns x s = itr ns y t := meet_iff h.lo hx.1 hx.2 hy.1 hy.2
end Lp

namespace Lp
open PySem PySem.Spec PyProof.Rows L2
local macro_rules | `(tactic| rfl') => `(tactic| try dsimp only [dVar_, gv_sh, gv_ow, gv_bx, gv_raw, gv_st, dC, dRaw, dOp, dUn, dTest, dTruth, dAnd, dOr, dNot, dYes, dIf, dAndV, dOrV, dNotV, dNotT, dChain, dNil, dCons, dTup, dLst, dats, dCB, dNoP, dPart, dSl, dNext, dBreak, dCont, dNever, dDrop, dRet, dRetN, dIfS, dSetG, dPar, dPar3, dAppend, dAppPop, dSetIx, dExt, dAug, dSet0, dSAdd, dSNotIn, dIter_, gi_l, gi_t, gi_b, dRng1, dRng2, dName, dGNil, dGCons, dGTup, dAsg, dFor, dWhile, dCall, dCallR, dArgs_, ga_f, ga_t, argsOf, dLc, wipeE, dListRg, dIndex, dSortSet, dSortSc, dEnum, dEnA, dZip, dIsi, dIsi2, isaT, φI, φB, φC, φNeg, add_i, add_l, add_t, mul_i, mul_l, φIx, sl_l, sl_t, eq_i, eq_s, eq_l, eq_t, eq_b, eq_n, φIsN, isN_n, isN_b, isN_i, isN_s, isN_l, isN_t, φLen, φList, φTuple, φAbs, φInt, φMax, φIsB, φIsNB, its_l, its_t, rd_sh, rd_nw, rd_br, rp_sh, rp_nw, rp_br, rp_bx, rp_raw, rp_sr, rr_sh, rr_nw, rr_br, ra_sh, ra_br, ra_bx, ra_raw, va_sh, va_nt, va_nf, va_raw, hb_n, hb_sh, hb_bx, hb_raw, hb_br, sh_n, sh_c, tr_n, tr_b, tr_i, tr_l, tr_t, ty_n, ty_b, ty_i, ty_s, ty_l, ty_t, if_ff, if_tt, Env.set, List.getElem?_cons_succ, List.getElem?_cons_zero, List.set_cons_succ, List.set_cons_zero, List.reverse_cons, List.reverse_nil, List.nil_append, List.cons_append, Option.bind_some, ite_true, ite_false])
section
variable {ns : List Int} {w : Int} (h : Stt ns) (hw : Per ns w) (nw : gt ns w ≠ w)
include h hw
include nw
end
/-- people but w -/
def PerW (ns : List Int) (w : Int) (x : Int) : Prop := Per ns x ∧ x ≠ w
section
variable {gs : List Int} {w : Int}
variable (sg : Stt gs) (two : 2 ≤ gs.length) (hw : Per gs w) (no : ∀ x, PerW gs w x → gt gs x ≠ w)
include sg two hw no
end
end Lp

namespace Lp
open PySem PySem.Spec PyProof.Rows L2
local macro_rules | `(tactic| rfl') => `(tactic| try dsimp only [dVar_, gv_sh, gv_ow, gv_bx, gv_raw, gv_st, dC, dRaw, dOp, dUn, dTest, dTruth, dAnd, dOr, dNot, dYes, dIf, dAndV, dOrV, dNotV, dNotT, dChain, dNil, dCons, dTup, dLst, dats, dCB, dNoP, dPart, dSl, dNext, dBreak, dCont, dNever, dDrop, dRet, dRetN, dIfS, dSetG, dPar, dPar3, dAppend, dAppPop, dSetIx, dExt, dAug, dSet0, dSAdd, dSNotIn, dIter_, gi_l, gi_t, gi_b, dRng1, dRng2, dName, dGNil, dGCons, dGTup, dAsg, dFor, dWhile, dCall, dCallR, dArgs_, ga_f, ga_t, argsOf, dLc, wipeE, dListRg, dIndex, dSortSet, dSortSc, dEnum, dEnA, dZip, dIsi, dIsi2, isaT, φI, φB, φC, φNeg, add_i, add_l, add_t, mul_i, mul_l, φIx, sl_l, sl_t, eq_i, eq_s, eq_l, eq_t, eq_b, eq_n, φIsN, isN_n, isN_b, isN_i, isN_s, isN_l, isN_t, φLen, φList, φTuple, φAbs, φInt, φMax, φIsB, φIsNB, its_l, its_t, rd_sh, rd_nw, rd_br, rp_sh, rp_nw, rp_br, rp_bx, rp_raw, rp_sr, rr_sh, rr_nw, rr_br, ra_sh, ra_br, ra_bx, ra_raw, va_sh, va_nt, va_nf, va_raw, hb_n, hb_sh, hb_bx, hb_raw, hb_br, sh_n, sh_c, tr_n, tr_b, tr_i, tr_l, tr_t, ty_n, ty_b, ty_i, ty_s, ty_l, ty_t, if_ff, if_tt, Env.set, List.getElem?_cons_succ, List.getElem?_cons_zero, List.set_cons_succ, List.set_cons_zero, List.reverse_cons, List.reverse_nil, List.nil_append, List.cons_append, Option.bind_some, ite_true, ite_false])
theorem Und.stt {ns gs : List Int} (h : Stt ns) (u : Und ns.length gs) : Stt gs := ⟨by rw [u.len]; exact u.lo, by rw [u.len]; exact h.le, by rw [u.len]; exact h.ge⟩
end Lp

namespace Lp
open PySem PySem.Spec PyProof.Rows L2
local macro_rules | `(tactic| rfl') => `(tactic| try dsimp only [dVar_, gv_sh, gv_ow, gv_bx, gv_raw, gv_st, dC, dRaw, dOp, dUn, dTest, dTruth, dAnd, dOr, dNot, dYes, dIf, dAndV, dOrV, dNotV, dNotT, dChain, dNil, dCons, dTup, dLst, dats, dCB, dNoP, dPart, dSl, dNext, dBreak, dCont, dNever, dDrop, dRet, dRetN, dIfS, dSetG, dPar, dPar3, dAppend, dAppPop, dSetIx, dExt, dAug, dSet0, dSAdd, dSNotIn, dIter_, gi_l, gi_t, gi_b, dRng1, dRng2, dName, dGNil, dGCons, dGTup, dAsg, dFor, dWhile, dCall, dCallR, dArgs_, ga_f, ga_t, argsOf, dLc, wipeE, dListRg, dIndex, dSortSet, dSortSc, dEnum, dEnA, dZip, dIsi, dIsi2, isaT, φI, φB, φC, φNeg, add_i, add_l, add_t, mul_i, mul_l, φIx, sl_l, sl_t, eq_i, eq_s, eq_l, eq_t, eq_b, eq_n, φIsN, isN_n, isN_b, isN_i, isN_s, isN_l, isN_t, φLen, φList, φTuple, φAbs, φInt, φMax, φIsB, φIsNB, its_l, its_t, rd_sh, rd_nw, rd_br, rp_sh, rp_nw, rp_br, rp_bx, rp_raw, rp_sr, rr_sh, rr_nw, rr_br, ra_sh, ra_br, ra_bx, ra_raw, va_sh, va_nt, va_nf, va_raw, hb_n, hb_sh, hb_bx, hb_raw, hb_br, sh_n, sh_c, tr_n, tr_b, tr_i, tr_l, tr_t, ty_n, ty_b, ty_i, ty_s, ty_l, ty_t, if_ff, if_tt, Env.set, List.getElem?_cons_succ, List.getElem?_cons_zero, List.set_cons_succ, List.set_cons_zero, List.reverse_cons, List.reverse_nil, List.nil_append, List.cons_append, Option.bind_some, ite_true, ite_false])
/-- check_word: state, word, person -/
def b_check_word : DTS := (dFor (dIter (dVar 1)) (dName 2) (dDrop (dCall p_check_person (dCons (dVar 0) (dCons (dVar 2) dNil)))))
abbrev k_check_word : Nat := 1
def p_check_word : DSp := fun args c Q => ∃ (d e : PyData) (ns ws : List Int), args = [.sh d, .sh e] ∧ PyData.its d = some (dI ns) ∧ PyData.its e = some (dI ws) ∧ Low ns.length ws ∧ Q (.sh .none) c
theorem mon_check_word : MonF p_check_word := fun args c A B h ⟨d, e, ns, ws, ea, h1, h2, h3, q⟩ => ⟨d, e, ns, ws, ea, h1, h2, h3, h _ _ q⟩
theorem word_loop {d : PyData} {ns : List Int} (hd : PyData.its d = some (dI ns)) {x1 : SV} {Δ : DEnds} {c : Nat} : ∀ (ws : List Int) (y : SV), Low ns.length ws → (∀ y, Δ.nx ⟨[.sh d, x1, y], c⟩) →
    forD (dName 2) (dDrop (dCall p_check_person (dCons (dVar 0) (dCons (dVar 2) dNil)))) Δ (dI ws) ⟨[.sh d, x1, y], c⟩
  | [], y, _, q => q y
  | w :: ws, y, hw, q => by
    show forD _ _ _ (.int w :: dI ws) _
    refine for_cons ?_
    rfl'
    refine c_check hd (hw w List.mem_cons_self) ?_
    exact word_loop hd ws _ (fun z hz => hw z (List.mem_cons_of_mem _ hz)) q
theorem m_check_word : ∀ args c Q, p_check_word args c Q → defF k_check_word b_check_word args c Q := by
  rintro _ c Q ⟨d, e, ns, ws, rfl, h1, h2, h3, q⟩
  show b_check_word _ ⟨[.sh d, .sh e, .un], c⟩
  unfold b_check_word
  rcases its_cases h2 with rfl | rfl
  · rfl'
    exact ⟨rfl, word_loop h1 ws _ h3 fun y => q⟩
  · rfl'
    exact ⟨rfl, word_loop h1 ws _ h3 fun y => q⟩
/-- called_all: state, word, pointers, person -/
def b_called_all : DTS := (dSeq (dDrop (dCall p_check_word (dCons (dVar 0) (dCons (dVar 1) dNil))))
  (dSeq (dSetG true 2 (dCB φList (dCons (dVar 0) dNil)))
  (dSeq (dFor (dIter (dVar 1)) (dName 3) (dSetIx 2 (dOp φIx (dVar 2) (dOp φIx (dVar 2) (dVar 3))) (dVar 3)))
  (dRet (dCB φTuple (dCons (dVar 2) dNil))))))
abbrev k_called_all : Nat := 2
def p_called_all : DSp := p_law_shouted
theorem mon_called_all : MonF p_called_all := mon_law_shouted
theorem m_called_all : ∀ args c Q, p_called_all args c Q → defF k_called_all b_called_all args c Q := by
  rintro _ c Q ⟨d, e, ns, ws, rfl, h1, h2, h3, h4, q⟩
  show b_called_all _ ⟨[.sh d, .sh e, .un, .un], c⟩
  unfold b_called_all
  refine sq_ ?_
  rfl'
  refine ⟨d, e, ns, ws, rfl, h1, h2, h4, ?_⟩
  refine sq_ ?_
  rfl'
  rw [h1]
  rfl'
  refine sqa_ fun D hD => ?_
  rcases its_cases h2 with rfl | rfl
  · rfl'
    refine ⟨rfl, shout_loop ws ns _ h3 h4 fun y => hD _ ?_⟩
    rfl'
    exact q
  · rfl'
    refine ⟨rfl, shout_loop ws ns _ h3 h4 fun y => hD _ ?_⟩
    rfl'
    exact q
theorem c_called {d e : PyData} {ns ws : List Int} {c : Nat} {Q : R → Nat → Prop} (h1 : PyData.its d = some (dI ns)) (h2 : PyData.its e = some (dI ws)) (h3 : Stt ns) (h4 : Low ns.length ws) (q : Q (.sh (.tuple (dI (callAll ns ws)))) c) : p_called_all [.sh d, .sh e] c Q := ⟨d, e, ns, ws, rfl, h1, h2, h3, h4, q⟩
theorem gt_ext {a b : List Int} (hl : a.length = b.length) (h : ∀ x, Per a x → gt a x = gt b x) : a = b := by
  refine List.ext_getElem hl fun i h1 h2 => ?_
  have := h (i : Int) (per_nat h1)
  rw [gt_nat h1, gt_nat h2] at this
  exact this
end Lp

namespace Lp
open PySem PySem.Spec PyProof.Rows L2
local macro_rules | `(tactic| rfl') => `(tactic| try dsimp only [dVar_, gv_sh, gv_ow, gv_bx, gv_raw, gv_st, dC, dRaw, dOp, dUn, dTest, dTruth, dAnd, dOr, dNot, dYes, dIf, dAndV, dOrV, dNotV, dNotT, dChain, dNil, dCons, dTup, dLst, dats, dCB, dNoP, dPart, dSl, dNext, dBreak, dCont, dNever, dDrop, dRet, dRetN, dIfS, dSetG, dPar, dPar3, dAppend, dAppPop, dSetIx, dExt, dAug, dSet0, dSAdd, dSNotIn, dIter_, gi_l, gi_t, gi_b, dRng1, dRng2, dName, dGNil, dGCons, dGTup, dAsg, dFor, dWhile, dCall, dCallR, dArgs_, ga_f, ga_t, argsOf, dLc, wipeE, dListRg, dIndex, dSortSet, dSortSc, dEnum, dEnA, dZip, dIsi, dIsi2, isaT, φI, φB, φC, φNeg, add_i, add_l, add_t, mul_i, mul_l, φIx, sl_l, sl_t, eq_i, eq_s, eq_l, eq_t, eq_b, eq_n, φIsN, isN_n, isN_b, isN_i, isN_s, isN_l, isN_t, φLen, φList, φTuple, φAbs, φInt, φMax, φIsB, φIsNB, its_l, its_t, rd_sh, rd_nw, rd_br, rp_sh, rp_nw, rp_br, rp_bx, rp_raw, rp_sr, rr_sh, rr_nw, rr_br, ra_sh, ra_br, ra_bx, ra_raw, va_sh, va_nt, va_nf, va_raw, hb_n, hb_sh, hb_bx, hb_raw, hb_br, sh_n, sh_c, tr_n, tr_b, tr_i, tr_l, tr_t, ty_n, ty_b, ty_i, ty_s, ty_l, ty_t, if_ff, if_tt, Env.set, List.getElem?_cons_succ, List.getElem?_cons_zero, List.set_cons_succ, List.set_cons_zero, List.reverse_cons, List.reverse_nil, List.nil_append, List.cons_append, Option.bind_some, ite_true, ite_false])
theorem high_iff {ns : List Int} (hs : Stt ns) {p : Int} (hp : Per ns p) : heightF ns p = 0 ↔ p ∈ routeF ns (gt ns p) := by
  constructor
  · intro h
    obtain ⟨c, cy, _, _⟩ := ringF_cyc hs.lo hp.1 hp.2
    rw [h] at cy
    exact on_ring cy (hs.rt (hs.gt hp))
  · intro h
    by_cases z : heightF ns p = 0
    · exact z
    · exact absurd h (off_ring hs.lo hp.1 hp.2 (t := 0) (by omega) (hs.rt (hs.gt hp)))
theorem rep_one (n : Nat) (z : Int) : (List.replicate n [PyData.int z]).flatten = dI (List.replicate n z) := by
  show _ = (List.replicate n z).map _
  rw [List.map_replicate]
  induction n with
  | zero => rfl
  | succ m ih => rw [List.replicate_succ, List.flatten_cons, ih, List.replicate_succ]; rfl
theorem dep_dI {k : Nat} (ns : List Int) : (dI ns).all (dep (k + 1)) = true := by
  rw [List.all_eq_true]
  intro d hd
  obtain ⟨z, _, rfl⟩ := List.mem_map.mp hd
  rfl
end Lp

namespace Lp
open PySem PySem.Spec PyProof.Rows L2
local macro_rules | `(tactic| rfl') => `(tactic| try dsimp only [dVar_, gv_sh, gv_ow, gv_bx, gv_raw, gv_st, dC, dRaw, dOp, dUn, dTest, dTruth, dAnd, dOr, dNot, dYes, dIf, dAndV, dOrV, dNotV, dNotT, dChain, dNil, dCons, dTup, dLst, dats, dCB, dNoP, dPart, dSl, dNext, dBreak, dCont, dNever, dDrop, dRet, dRetN, dIfS, dSetG, dPar, dPar3, dAppend, dAppPop, dSetIx, dExt, dAug, dSet0, dSAdd, dSNotIn, dIter_, gi_l, gi_t, gi_b, dRng1, dRng2, dName, dGNil, dGCons, dGTup, dAsg, dFor, dWhile, dCall, dCallR, dArgs_, ga_f, ga_t, argsOf, dLc, wipeE, dListRg, dIndex, dSortSet, dSortSc, dEnum, dEnA, dZip, dIsi, dIsi2, isaT, φI, φB, φC, φNeg, add_i, add_l, add_t, mul_i, mul_l, φIx, sl_l, sl_t, eq_i, eq_s, eq_l, eq_t, eq_b, eq_n, φIsN, isN_n, isN_b, isN_i, isN_s, isN_l, isN_t, φLen, φList, φTuple, φAbs, φInt, φMax, φIsB, φIsNB, its_l, its_t, rd_sh, rd_nw, rd_br, rp_sh, rp_nw, rp_br, rp_bx, rp_raw, rp_sr, rr_sh, rr_nw, rr_br, ra_sh, ra_br, ra_bx, ra_raw, va_sh, va_nt, va_nf, va_raw, hb_n, hb_sh, hb_bx, hb_raw, hb_br, sh_n, sh_c, tr_n, tr_b, tr_i, tr_l, tr_t, ty_n, ty_b, ty_i, ty_s, ty_l, ty_t, if_ff, if_tt, Env.set, List.getElem?_cons_succ, List.getElem?_cons_zero, List.set_cons_succ, List.set_cons_zero, List.reverse_cons, List.reverse_nil, List.nil_append, List.cons_append, Option.bind_some, ite_true, ite_false])
section
variable {a : List Int} {w : Int} (h : Stt a) (hw : Per a w)
include h hw
end
theorem met_on {a : List Int} (h : Stt a) {x : Int} (hx : Per a x) : x ∈ routeF a (gt a x) ↔ ∃ c, Cyc a x c := by
  constructor
  · intro hm
    obtain ⟨m, m0, e⟩ := way_itr h hx hm
    exact back_cyc h hx m0 e.symm
  · rintro ⟨c, cy⟩
    have := itr_way h hx cy.1
    rw [cy.2.1] at this
    exact this
section
variable {a : List Int} {w : Int} (h : Stt a) (hw : Per a w)
include h hw
end
end Lp

namespace Lp
open PySem PySem.Spec PyProof.Rows L2
local macro_rules | `(tactic| rfl') => `(tactic| try dsimp only [dVar_, gv_sh, gv_ow, gv_bx, gv_raw, gv_st, dC, dRaw, dOp, dUn, dTest, dTruth, dAnd, dOr, dNot, dYes, dIf, dAndV, dOrV, dNotV, dNotT, dChain, dNil, dCons, dTup, dLst, dats, dCB, dNoP, dPart, dSl, dNext, dBreak, dCont, dNever, dDrop, dRet, dRetN, dIfS, dSetG, dPar, dPar3, dAppend, dAppPop, dSetIx, dExt, dAug, dSet0, dSAdd, dSNotIn, dIter_, gi_l, gi_t, gi_b, dRng1, dRng2, dName, dGNil, dGCons, dGTup, dAsg, dFor, dWhile, dCall, dCallR, dArgs_, ga_f, ga_t, argsOf, dLc, wipeE, dListRg, dIndex, dSortSet, dSortSc, dEnum, dEnA, dZip, dIsi, dIsi2, isaT, φI, φB, φC, φNeg, add_i, add_l, add_t, mul_i, mul_l, φIx, sl_l, sl_t, eq_i, eq_s, eq_l, eq_t, eq_b, eq_n, φIsN, isN_n, isN_b, isN_i, isN_s, isN_l, isN_t, φLen, φList, φTuple, φAbs, φInt, φMax, φIsB, φIsNB, its_l, its_t, rd_sh, rd_nw, rd_br, rp_sh, rp_nw, rp_br, rp_bx, rp_raw, rp_sr, rr_sh, rr_nw, rr_br, ra_sh, ra_br, ra_bx, ra_raw, va_sh, va_nt, va_nf, va_raw, hb_n, hb_sh, hb_bx, hb_raw, hb_br, sh_n, sh_c, tr_n, tr_b, tr_i, tr_l, tr_t, ty_n, ty_b, ty_i, ty_s, ty_l, ty_t, if_ff, if_tt, Env.set, List.getElem?_cons_succ, List.getElem?_cons_zero, List.set_cons_succ, List.set_cons_zero, List.reverse_cons, List.reverse_nil, List.nil_append, List.cons_append, Option.bind_some, ite_true, ite_false])
theorem high_on {a : List Int} (h : Stt a) {x : Int} (hx : Per a x) : 0 < heightF a x ↔ ¬ ∃ c, Cyc a x c := by
  rw [← met_on h hx, ← high_iff h hx]; omega
section
variable {a : List Int} {w : Int} (h : Stt a) (hw : Per a w)
include h hw
end
end Lp

namespace Lp
open PySem PySem.Spec PyProof.Rows L2
local macro_rules | `(tactic| rfl') => `(tactic| try dsimp only [dVar_, gv_sh, gv_ow, gv_bx, gv_raw, gv_exn, gv_st, dC, dRaw, dOp, dUn, dTest, dTruth, dAnd, dOr, dNot, dYes, dIf, dAndV, dOrV, dNotV, dNotT, dChain, dNil, dCons, dTup, dLst, dats, dCB, dNoP, dPart, dSl, dNext, dBreak, dCont, dNever, dDrop, dRet, dRetN, dIfS, dSetG, dPar, dPar3, dAppend, dAppPop, dSetIx, dExt, dAug, dSet0, dSAdd, dSNotIn, dIter_, gi_l, gi_t, gi_b, dRng1, dRng2, dName, dGNil, dGCons, dGTup, dAsg, dFor, dWhile, dCall, dCallR, dArgs_, ga_f, ga_t, argsOf, dLc, wipeE, dListRg, dIndex, dSortSet, dSortSc, dEnum, dEnA, dZip, dIsi, dIsi2, isaT, φI, φB, φC, φNeg, add_i, add_l, add_t, mul_i, mul_l, φIx, sl_l, sl_t, eq_i, eq_s, eq_l, eq_t, eq_b, eq_n, φIsN, isN_n, isN_b, isN_i, isN_s, isN_l, isN_t, φLen, φList, φTuple, φAbs, φInt, φMax, φIsB, φIsNB, its_l, its_t, rd_sh, rd_nw, rd_br, rp_sh, rp_nw, rp_br, rp_bx, rp_raw, rp_sr, rr_sh, rr_nw, rr_br, ra_sh, ra_br, ra_bx, ra_raw, va_sh, va_nt, va_nf, va_raw, hb_n, hb_sh, hb_bx, hb_raw, hb_br, sh_n, sh_c, tr_n, tr_b, tr_i, tr_l, tr_t, ty_n, ty_b, ty_i, ty_s, ty_l, ty_t, if_ff, if_tt, Env.set, List.getElem?_cons_succ, List.getElem?_cons_zero, List.set_cons_succ, List.set_cons_zero, List.reverse_cons, List.reverse_nil, List.nil_append, List.cons_append, Option.bind_some, ite_true, ite_false])
theorem for_inv {γ : DTG} {p : DTS} {Δ : DEnds} {N : Nat} (I : Nat → Env → Prop) : ∀ (ds : List PyData) (k : Nat) (ε : Env), k + ds.length ≤ N → I k ε →
    (∀ d ∈ ds, ∀ (k : Nat) (ε : Env) (D : Env → Prop), k < N → I k ε → (∀ ε', I (k + 1) ε' → D ε') → γ d ε fun ε1 => p { nx := D, rt := Δ.rt, bk := Δ.nx, ct := D } ε1) →
    (∀ ε', I (k + ds.length) ε' → Δ.nx ε') → forD γ p Δ ds ε
  | [], k, ε, _, h, _, q => q ε h
  | d :: ds, k, ε, hN, h, st, q => for_cons (st d List.mem_cons_self k ε _ (by rw [List.length_cons] at hN; omega) h fun ε' h' => for_inv I ds (k + 1) ε' (by rw [List.length_cons] at hN; omega) h' (fun z hz => st z (List.mem_cons_of_mem _ hz)) fun ε2 h2 => q ε2 (by rw [List.length_cons, Nat.add_comm ds.length 1, ← Nat.add_assoc]; exact h2))
end Lp

namespace Lp
open PySem PySem.Spec PyProof.Rows L2
local macro_rules | `(tactic| rfl') => `(tactic| try dsimp only [dVar_, gv_sh, gv_ow, gv_bx, gv_raw, gv_exn, gv_st, dC, dRaw, dOp, dUn, dTest, dTruth, dAnd, dOr, dNot, dYes, dIf, dAndV, dOrV, dNotV, dNotT, dChain, dNil, dCons, dTup, dLst, dats, dCB, dNoP, dPart, dSl, dNext, dBreak, dCont, dNever, dDrop, dRet, dRetN, dIfS, dSetG, dPar, dPar3, dAppend, dAppPop, dSetIx, dExt, dAug, dSet0, dSAdd, dSNotIn, dIter_, gi_l, gi_t, gi_b, dRng1, dRng2, dName, dGNil, dGCons, dGTup, dAsg, dFor, dWhile, dCall, dCallR, dArgs_, ga_f, ga_t, argsOf, dLc, wipeE, dListRg, dIndex, dSortSet, dSortSc, dEnum, dEnA, dZip, dIsi, dIsi2, isaT, φI, φB, φC, φNeg, add_i, add_l, add_t, mul_i, mul_l, φIx, sl_l, sl_t, eq_i, eq_s, eq_l, eq_t, eq_b, eq_n, φIsN, isN_n, isN_b, isN_i, isN_s, isN_l, isN_t, φLen, φList, φTuple, φAbs, φInt, φMax, φIsB, φIsNB, its_l, its_t, rd_sh, rd_nw, rd_br, rp_sh, rp_nw, rp_br, rp_bx, rp_raw, rp_sr, rr_sh, rr_nw, rr_br, ra_sh, ra_br, ra_bx, ra_raw, va_sh, va_nt, va_nf, va_raw, hb_n, hb_sh, hb_bx, hb_raw, hb_br, sh_n, sh_c, tr_n, tr_b, tr_i, tr_l, tr_t, ty_n, ty_b, ty_i, ty_s, ty_l, ty_t, if_ff, if_tt, Env.set, List.getElem?_cons_succ, List.getElem?_cons_zero, List.set_cons_succ, List.set_cons_zero, List.reverse_cons, List.reverse_nil, List.nil_append, List.cons_append, Option.bind_some, ite_true, ite_false])
theorem on_way {ns : List Int} (h : Stt ns) {x : Int} (hx : Per ns x) : (∃ c, Cyc ns x c) ↔ x ∈ routeF ns (gt ns x) := by
  rw [← high_iff h hx]
  have := high_on h hx
  constructor
  · intro e
    rcases Nat.eq_zero_or_pos (heightF ns x) with z | z
    · exact z
    · exact absurd e (this.mp z)
  · intro e
    rcases Classical.em (∃ c, Cyc ns x c) with z | z
    · exact z
    · have := this.mpr z
      omega
theorem high_one {ns : List Int} (h : Stt ns) {w : Int} (hw : Per ns w) : heightF ns w = 1 ↔ (¬ ∃ c, Cyc ns w c) ∧ ∃ c, Cyc ns (gt ns w) c := by
  obtain ⟨c, cy, _, _⟩ := ringF_cyc h.lo hw.1 hw.2
  constructor
  · intro e
    refine ⟨(high_on h hw).mp (by omega), c, ?_⟩
    rw [e] at cy
    exact cy
  · rintro ⟨a, b⟩
    have p0 := (high_on h hw).mpr a
    rcases Nat.lt_or_ge 1 (heightF ns w) with z | z
    · have pg := h.gt hw
      have := off_ring h.lo hw.1 hw.2 (t := 1) z (h.rt (h.gt pg))
      exact absurd ((on_way h pg).mp b) this
    · omega
theorem cyc_eq {a b : List Int} {x : Int} {c : Nat} (cy : Cyc a x c) (e : ∀ z ∈ itrs a x c, gt a z = gt b z) : Cyc b x c ∧ itrs b x c = itrs a x c := by
  have key : ∀ k, k ≤ c → itr b x k = itr a x k := by
    intro k
    induction k with
    | zero => intro _; rfl
    | succ k ih =>
      intro hk
      show gt b (itr b x k) = gt a (itr a x k)
      rw [ih (by omega), e _ (itrs_mem.mpr ⟨k, by omega, rfl⟩)]
  have e2 : itrs b x c = itrs a x c := by
    unfold itrs
    exact List.map_congr_left fun k hk => key k (by have := List.mem_range.mp hk; omega)
  exact ⟨⟨cy.1, by rw [key c (Nat.le_refl c)]; exact cy.2.1, by rw [e2]; exact cy.2.2⟩, e2⟩
theorem gt_call_ne {ns : List Int} {w x : Int} (hw : Per ns w) (hx : Per ns x) (ne : x ≠ w) : gt (call1 ns w) x = gt ns x := by
  unfold call1 gt
  rw [List.getD_eq_getElem?_getD, List.getElem?_set, if_neg (by have := hw.1; have := hx.1; omega), List.getD_eq_getElem?_getD]
theorem gt_call_eq {ns : List Int} {w : Int} (hw : Per ns w) : gt (call1 ns w) w = gt ns (gt ns w) := by
  unfold call1
  show List.getD (List.set ns w.toNat (gt ns (gt ns w))) w.toNat 0 = _
  rw [List.getD_eq_getElem?_getD, List.getElem?_set, if_pos rfl, if_pos (by have := hw.1; have := hw.2; omega)]
  rfl
theorem call_sttR {a : List Int} {w : Int} (h : Stt a) (hw : Per a w) : Stt (call1 a w) := h.callAll (ws := [w]) fun z hz => by rw [List.mem_singleton.mp hz]; exact hw
theorem cyc_per {ns : List Int} (h : Stt ns) {x z : Int} (hx : Per ns x) {c : Nat} (hz : z ∈ itrs ns x c) : Per ns z := by
  obtain ⟨i, _, rfl⟩ := itrs_mem.mp hz
  exact itr_low h.lo hx.1 hx.2 i
/-- where a call is not settled, the person called loses somebody on their way -/
theorem call_loses {ns : List Int} (h : Stt ns) {w : Int} (hw : Per ns w) (nr : gt ns w ≠ w) (n1 : heightF ns w ≠ 1) : gt ns w ∉ routeF (call1 ns w) (gt (call1 ns w) w) := by
  have ha := call_sttR h hw
  have py := h.gt hw
  have py2 : Per (call1 ns w) (gt ns w) := ⟨py.1, by rw [call1_len]; exact py.2⟩
  rw [gt_call_eq hw, ← gt_call_ne hw py nr, ← on_way ha py2]
  rintro ⟨c, cy⟩
  by_cases m : w ∈ itrs (call1 ns w) (gt ns w) c
  · obtain ⟨j, hj, ej⟩ := itrs_mem.mp m
    have e1 : itr (call1 ns w) (gt ns w) (j + 1) = itr (call1 ns w) (gt ns w) 1 := by
      show gt (call1 ns w) (itr (call1 ns w) (gt ns w) j) = gt (call1 ns w) (gt ns w)
      rw [ej, gt_call_eq hw, gt_call_ne hw py nr]
    have j0 : j ≠ 0 := fun z => by subst z; exact nr ej
    rcases Nat.lt_or_ge (j + 1) c with l | l
    · have := itrs_apart cy.2.2 l (by omega) e1
      omega
    · have : j + 1 = c := by omega
      rw [this, cy.2.1] at e1
      have := itrs_apart cy.2.2 (i := 0) (j := 1) cy.1 (by omega) e1
      omega
  · obtain ⟨cn, en⟩ := cyc_eq (b := ns) cy fun z hz => gt_call_ne hw (by have := cyc_per ha py2 hz; exact ⟨this.1, by have := this.2; rw [call1_len] at this; exact this⟩) fun e => m (e ▸ hz)
    refine n1 ((high_one h hw).mpr ⟨fun ⟨d, cd⟩ => ?_, c, cn⟩)
    have my : gt ns w ∈ itrs ns w d := cd.all 1
    obtain ⟨c2, mm⟩ := cd.at my
    have := cn.uniq c2
    subst this
    rw [← en] at m
    exact m ((mm w).mpr (itrs_mem.mpr ⟨0, cd.1, rfl⟩))
theorem nodup_len : ∀ (l m : List Int), l.Nodup → (∀ z ∈ l, z ∈ m) → l.length ≤ m.length
  | [], m, _, _ => Nat.zero_le _
  | x :: l, m, nd, s => by
    have q := List.nodup_cons.mp nd
    have mx := s x List.mem_cons_self
    have := nodup_len l (m.erase x) q.2 fun z hz => (List.mem_erase_of_ne (fun (e : z = x) => q.1 (e ▸ hz))).mpr (s z (List.mem_cons_of_mem _ hz))
    rw [List.length_erase_of_mem mx] at this
    have : 0 < m.length := List.length_pos_of_mem mx
    rw [List.length_cons]
    omega
def wsum (ns : List Int) : Nat := ((List.range ns.length).map fun i : Nat => (routeF ns (gt ns (i : Int))).length).sum
theorem sum_le {f g : Nat → Nat} : ∀ l : List Nat, (∀ i ∈ l, f i ≤ g i) → (l.map f).sum ≤ (l.map g).sum
  | [], _ => Nat.le_refl _
  | i :: l, h => by
    rw [List.map_cons, List.map_cons, List.sum_cons, List.sum_cons]
    have := h i List.mem_cons_self
    have := sum_le l fun j hj => h j (List.mem_cons_of_mem _ hj)
    omega
theorem sum_lt {f g : Nat → Nat} : ∀ l : List Nat, (∀ i ∈ l, f i ≤ g i) → (∃ i ∈ l, f i < g i) → (l.map f).sum < (l.map g).sum
  | [], _, ⟨_, h, _⟩ => nomatch h
  | i :: l, h, ⟨j, hj, lt⟩ => by
    rw [List.map_cons, List.map_cons, List.sum_cons, List.sum_cons]
    have h1 := h i List.mem_cons_self
    have h2 := sum_le l fun j hj => h j (List.mem_cons_of_mem _ hj)
    rcases List.mem_cons.mp hj with e | e
    · rw [e] at lt; omega
    · have := sum_lt l (fun j hj => h j (List.mem_cons_of_mem _ hj)) ⟨j, e, lt⟩
      omega
theorem route_nodup {ns : List Int} (h : Stt ns) {p : Int} (hp : Per ns p) : (routeF ns p).Nodup := by
  obtain ⟨L, e, nd, _⟩ := h.rt hp
  exact nd
theorem way_sub {ns : List Int} (h : Stt ns) {w x : Int} (hw : Per ns w) (hx : Per ns x) : ∀ z ∈ routeF (call1 ns w) (gt (call1 ns w) x), z ∈ routeF ns (gt ns x) := by
  have ha := call_sttR h hw
  have px : Per (call1 ns w) x := ⟨hx.1, by rw [call1_len]; exact hx.2⟩
  exact way_call h.lo hw.1 hw.2 hx.1 hx.2 (h.rt (h.gt hx)) (ha.rt (ha.gt px))
theorem way_le {ns : List Int} (h : Stt ns) {w x : Int} (hw : Per ns w) (hx : Per ns x) : (routeF (call1 ns w) (gt (call1 ns w) x)).length ≤ (routeF ns (gt ns x)).length := by
  have ha := call_sttR h hw
  have px : Per (call1 ns w) x := ⟨hx.1, by rw [call1_len]; exact hx.2⟩
  exact nodup_len _ _ (route_nodup ha (ha.gt px)) (way_sub h hw hx)
theorem wsum_le {ns : List Int} (h : Stt ns) {w : Int} (hw : Per ns w) : wsum (call1 ns w) ≤ wsum ns := by
  unfold wsum
  rw [call1_len]
  exact sum_le _ fun i hi => way_le h hw (per_nat (List.mem_range.mp hi))
theorem wsum_lt {ns : List Int} (h : Stt ns) {w : Int} (hw : Per ns w) (nr : gt ns w ≠ w) (n1 : heightF ns w ≠ 1) : wsum (call1 ns w) < wsum ns := by
  unfold wsum
  rw [call1_len]
  refine sum_lt _ (fun i hi => way_le h hw (per_nat (List.mem_range.mp hi))) ⟨w.toNat, List.mem_range.mpr (by have := hw.1; have := hw.2; omega), ?_⟩
  rw [Int.toNat_of_nonneg hw.1]
  have ha := call_sttR h hw
  have pw : Per (call1 ns w) w := ⟨hw.1, by rw [call1_len]; exact hw.2⟩
  have := nodup_len (gt ns w :: routeF (call1 ns w) (gt (call1 ns w) w)) (routeF ns (gt ns w)) (List.nodup_cons.mpr ⟨call_loses h hw nr n1, route_nodup ha (ha.gt pw)⟩) fun z hz => by
    rcases List.mem_cons.mp hz with e | e
    · rw [e]
      obtain ⟨r, er⟩ := route_head h (h.gt hw)
      rw [er]; exact List.mem_cons_self
    · exact way_sub h hw hw z e
  rw [List.length_cons] at this
  omega
theorem wsum_calls : ∀ (ws : List Int) {ns : List Int}, Stt ns → Low ns.length ws → wsum (callAll ns ws) ≤ wsum ns
  | [], _, _, _ => Nat.le_refl _
  | w :: ws, ns, h, lw => by
    have hw : Per ns w := lw w List.mem_cons_self
    have := wsum_calls ws (call_sttR h hw) (by rw [call1_len]; exact fun z hz => lw z (List.mem_cons_of_mem _ hz))
    exact Nat.le_trans this (wsum_le h hw)
def SetP (ns : List Int) (p : Int) : Prop := gt ns p = p ∨ heightF ns p = 1
def Settled (ns ws : List Int) : Prop := ∀ p ∈ ws, SetP ns p
/-- a call of one who points at a ring from outside keeps all rings -/
theorem cyc_out {ns : List Int} (h : Stt ns) {p : Int} (hp : Per ns p) (e : heightF ns p = 1) {x : Int} (hx : Per ns x) {c : Nat} : Cyc (call1 ns p) x c → Cyc ns x c := by
  intro cy
  obtain ⟨off, d, cd⟩ := (high_one h hp).mp e
  have ha := call_sttR h hp
  have px : Per (call1 ns p) x := ⟨hx.1, by rw [call1_len]; exact hx.2⟩
  have pg := h.gt hp
  have np : p ∉ itrs (call1 ns p) x c := fun m => by
    obtain ⟨cp, mm⟩ := cy.at m
    -- from whom p points at in the ring on, nobody comes back to p
    have key : ∀ k, itr (call1 ns p) p (k + 1) ∈ itrs ns (gt ns p) d := by
      intro k
      induction k with
      | zero =>
        show gt (call1 ns p) p ∈ _
        rw [gt_call_eq hp]
        exact cd.all 1
      | succ k ih =>
        show gt (call1 ns p) (itr (call1 ns p) p (k + 1)) ∈ _
        generalize itr (call1 ns p) p (k + 1) = z at ih
        have pz := cyc_per h pg ih
        have nz : z ≠ p := fun q => by
          rw [q] at ih
          exact off ⟨d, (cd.at ih).1⟩
        rw [gt_call_ne hp pz nz]
        obtain ⟨i, hi, rfl⟩ := itrs_mem.mp ih
        exact cd.all (i + 1)
    have k2 := key (c - 1)
    rw [show c - 1 + 1 = c by have := cy.1; omega, cp.2.1] at k2
    exact off ⟨d, (cd.at k2).1⟩
  exact (cyc_eq cy fun z hz => gt_call_ne hp (by have := cyc_per ha px hz; exact ⟨this.1, by have := this.2; rw [call1_len] at this; exact this⟩) fun q => np (q ▸ hz)).1
theorem cyc_in {ns : List Int} (h : Stt ns) {p : Int} (hp : Per ns p) (e : heightF ns p = 1) {x : Int} (hx : Per ns x) {c : Nat} : Cyc ns x c → Cyc (call1 ns p) x c := by
  intro cy
  obtain ⟨off, _⟩ := (high_one h hp).mp e
  refine (cyc_eq cy fun z hz => ?_).1
  rw [gt_call_ne hp (cyc_per h hx hz) fun q => ?_]
  rw [q] at hz
  exact off ⟨c, (cy.at hz).1⟩
theorem settle_less : ∀ (ws : List Int) {ns : List Int}, Stt ns → Low ns.length ws → ¬ Settled ns ws → wsum (callAll ns ws) < wsum ns
  | [], ns, h, lw, no => absurd (fun p hp => nomatch hp) no
  | w :: ws, ns, h, lw, no => by
    have hw : Per ns w := lw w List.mem_cons_self
    have ha := call_sttR h hw
    have lw2 : Low (call1 ns w).length ws := by rw [call1_len]; exact fun z hz => lw z (List.mem_cons_of_mem _ hz)
    rcases Classical.em (SetP ns w) with s | s
    · have no2 : ∃ q ∈ ws, ¬ SetP ns q := Classical.byContradiction fun k => no fun p hp => by
        rcases List.mem_cons.mp hp with e | e
        · rw [e]; exact s
        · exact Classical.byContradiction fun z => k ⟨p, e, z⟩
      obtain ⟨q, hq, nq⟩ := no2
      have pq : Per ns q := lw q (List.mem_cons_of_mem _ hq)
      refine Nat.lt_of_lt_of_le (settle_less ws ha lw2 fun st => ?_) (wsum_le h hw)
      have ne : q ≠ w := fun e => nq (e ▸ s)
      have pq2 : Per (call1 ns w) q := ⟨pq.1, by rw [call1_len]; exact pq.2⟩
      rcases s with s | s
      · have e : call1 ns w = ns := by
          refine gt_ext (call1_len _ _) fun x hx => ?_
          have hx2 : Per ns x := ⟨hx.1, by have := hx.2; rw [call1_len] at this; exact this⟩
          by_cases z : x = w
          · rw [z, gt_call_eq hw, s, s]
          · exact gt_call_ne hw hx2 z
        rw [e] at st
        exact nq (st q hq)
      · rcases st q hq with z | z
        · rw [gt_call_ne hw pq ne] at z
          exact nq (.inl z)
        · obtain ⟨a1, c, a2⟩ := (high_one ha pq2).mp z
          rw [gt_call_ne hw pq ne] at a2
          exact nq (.inr ((high_one h pq).mpr ⟨fun ⟨d, cd⟩ => a1 ⟨d, cyc_in h hw s pq cd⟩, c, cyc_out h hw s (h.gt pq) a2⟩))
    · have nr : gt ns w ≠ w := fun e => s (.inl e)
      have n1 : heightF ns w ≠ 1 := fun e => s (.inr e)
      exact Nat.lt_of_le_of_lt (wsum_calls ws ha lw2) (wsum_lt h hw nr n1)
/-- the state after k repetitions -/
def rep (ns ws : List Int) : Nat → List Int
  | 0 => ns
  | k + 1 => callAll (rep ns ws k) ws
theorem rep_len (ns ws : List Int) : ∀ k, (rep ns ws k).length = ns.length
  | 0 => rfl
  | k + 1 => by
    show (callAll (rep ns ws k) ws).length = _
    rw [callAll_len, rep_len ns ws k]
theorem rep_stt {ns ws : List Int} (h : Stt ns) (lw : Low ns.length ws) : ∀ k, Stt (rep ns ws k)
  | 0 => h
  | k + 1 => (rep_stt h lw k).callAll (by rw [rep_len]; exact lw)
theorem rep_add (ns ws : List Int) (a : Nat) : ∀ b, rep ns ws (a + b) = rep (rep ns ws a) ws b
  | 0 => rfl
  | b + 1 => by
    show callAll (rep ns ws (a + b)) ws = callAll (rep (rep ns ws a) ws b) ws
    rw [rep_add ns ws a b]
theorem wsum_top {ns : List Int} (h : Stt ns) : wsum ns ≤ ns.length * ns.length := by
  have := sum_le (f := fun i : Nat => (routeF ns (gt ns (i : Int))).length) (g := fun _ => ns.length) (List.range ns.length) fun i hi => (route_len h (h.gt (per_nat (List.mem_range.mp hi)))).2
  have e : ((List.range ns.length).map fun _ => ns.length).sum = ns.length * ns.length := by
    rw [List.map_const', List.sum_replicate_nat, List.length_range]
  rw [e] at this
  exact this
/-- settled: pointers go on along the rings -/
theorem settled_gt {s0 ws : List Int} (h : Stt s0) (lw : Low s0.length ws) (st : Settled s0 ws) : ∀ (us : List Int) (t : List Int) (f : Int → Nat), t.length = s0.length → (∀ u ∈ us, u ∈ ws) →
    (∀ x, Per s0 x → gt t x = itr s0 (gt s0 x) (f x)) → (∀ x, f x ≠ 0 → x ∈ ws) → ∀ x, Per s0 x → gt (callAll t us) x = itr s0 (gt s0 x) (f x + us.count x)
  | [], t, f, _, _, ht, _, x, hx => ht x hx
  | p :: us, t, f, tl, hu, ht, hf, x, hx => by
    have pw := hu p List.mem_cons_self
    have pp : Per s0 p := lw p pw
    have pt : Per t p := ⟨pp.1, by rw [tl]; exact pp.2⟩
    have step : ∀ x, Per s0 x → gt (call1 t p) x = itr s0 (gt s0 x) (if x = p then f x + 1 else f x) := by
      intro x hx
      have xt : Per t x := ⟨hx.1, by rw [tl]; exact hx.2⟩
      by_cases e : x = p
      · rw [if_pos e]
        subst e
        rw [gt_call_eq pt]
        have pz : Per s0 (gt t x) := by
          rw [ht x hx]
          have := h.gt hx
          exact itr_low h.lo this.1 this.2 _
        rw [ht _ pz]
        show itr s0 (gt s0 (gt t x)) (f (gt t x)) = gt s0 (itr s0 (gt s0 x) (f x))
        rw [← ht x hx]
        generalize hz : gt t x = z at pz
        -- z is x itself, a root, or on a ring
        have fz : f z = 0 ∨ gt s0 z = z := by
          rcases Nat.eq_zero_or_pos (f z) with k | k
          · exact .inl k
          · have zw := hf z (by omega)
            rcases st z zw with r | r
            · exact .inr r
            · exfalso
              rcases st x pw with r2 | r2
              · rw [ht x hx, r2] at hz
                have : ∀ k, itr s0 x k = x := by
                  intro k
                  induction k with
                  | zero => rfl
                  | succ k ih => show gt s0 (itr s0 x k) = x; rw [ih, r2]
                rw [this] at hz
                subst hz
                have := (high_one h hx).mp r
                exact this.1 ⟨1, Nat.one_pos, r2, by show [x].Nodup; exact List.pairwise_singleton _ _⟩
              · obtain ⟨_, c, cy⟩ := (high_one h hx).mp r2
                rw [ht x hx] at hz
                have mz : z ∈ itrs s0 (gt s0 x) c := by rw [← hz]; exact cy.all _
                exact ((high_one h pz).mp r).1 ⟨c, (cy.at mz).1⟩
        rcases fz with k | k
        · rw [k]; rfl
        · have : ∀ k, itr s0 z k = z := by
            intro m
            induction m with
            | zero => rfl
            | succ m ih => show gt s0 (itr s0 z m) = z; rw [ih, k]
          rw [k, this]
      · rw [if_neg e, gt_call_ne pt xt e, ht x hx]
    have := settled_gt h lw st us (call1 t p) (fun x => if x = p then f x + 1 else f x) (by rw [call1_len]; exact tl) (fun u hu' => hu u (List.mem_cons_of_mem _ hu')) step (fun x hx => by
      by_cases e : x = p
      · rw [e]; exact pw
      · simp only [if_neg e] at hx
        exact hf x hx) x hx
    show gt (callAll (call1 t p) us) x = _
    rw [this, List.count_cons]
    by_cases e : x = p
    · subst e
      simp only [if_true, beq_self_eq_true]
      congr 1; omega
    · have e2 : (p == x) = false := beq_eq_false_iff_ne.mpr fun z => e z.symm
      rw [if_neg e, e2]
      simp
theorem rep_settled {s0 ws : List Int} (h : Stt s0) (lw : Low s0.length ws) (st : Settled s0 ws) : ∀ k x, Per s0 x → gt (rep s0 ws k) x = itr s0 (gt s0 x) (k * ws.count x)
  | 0, x, hx => by rw [Nat.zero_mul]; rfl
  | k + 1, x, hx => by
    have := settled_gt h lw st ws (rep s0 ws k) (fun x => k * ws.count x) (rep_len _ _ _) (fun u hu => hu) (fun x hx => rep_settled h lw st k x hx) (fun x hx => by
      rcases Classical.em (x ∈ ws) with m | m
      · exact m
      · rw [List.count_eq_zero.mpr m, Nat.mul_zero] at hx
        exact absurd rfl hx) x hx
    show gt (callAll (rep s0 ws k) ws) x = _
    rw [this, Nat.succ_mul]
end Lp

namespace Lp
open PySem PySem.Spec PyProof.Rows L2
local macro_rules | `(tactic| rfl') => `(tactic| try dsimp only [dVar_, gv_sh, gv_ow, gv_bx, gv_raw, gv_st, dC, dRaw, dOp, dUn, dTest, dTruth, dAnd, dOr, dNot, dYes, dIf, dAndV, dOrV, dNotV, dNotT, dChain, dNil, dCons, dTup, dLst, dats, dCB, dNoP, dPart, dSl, dNext, dBreak, dCont, dNever, dDrop, dRet, dRetN, dIfS, dSetG, dPar, dPar3, dAppend, dAppPop, dSetIx, dExt, dAug, dSet0, dSAdd, dSNotIn, dIter_, gi_l, gi_t, gi_b, dRng1, dRng2, dName, dGNil, dGCons, dGTup, dAsg, dFor, dWhile, dCall, dCallR, dArgs_, ga_f, ga_t, argsOf, dLc, wipeE, dListRg, dIndex, dSortSet, dSortSc, dEnum, dEnA, dZip, dIsi, dIsi2, isaT, φI, φB, φC, φNeg, add_i, add_l, add_t, mul_i, mul_l, φIx, sl_l, sl_t, eq_i, eq_s, eq_l, eq_t, eq_b, eq_n, φIsN, isN_n, isN_b, isN_i, isN_s, isN_l, isN_t, φLen, φList, φTuple, φAbs, φInt, φMax, φIsB, φIsNB, its_l, its_t, rd_sh, rd_nw, rd_br, rp_sh, rp_nw, rp_br, rp_bx, rp_raw, rp_sr, rr_sh, rr_nw, rr_br, ra_sh, ra_br, ra_bx, ra_raw, va_sh, va_nt, va_nf, va_raw, hb_n, hb_sh, hb_bx, hb_raw, hb_br, sh_n, sh_c, tr_n, tr_b, tr_i, tr_l, tr_t, ty_n, ty_b, ty_i, ty_s, ty_l, ty_t, if_ff, if_tt, Env.set, List.getElem?_cons_succ, List.getElem?_cons_zero, List.set_cons_succ, List.set_cons_zero, List.reverse_cons, List.reverse_nil, List.nil_append, List.cons_append, Option.bind_some, ite_true, ite_false])
end Lp

namespace Lp
open PySem PySem.Spec PyProof.Rows L2
local macro_rules | `(tactic| rfl') => `(tactic| try dsimp only [dVar_, gv_sh, gv_ow, gv_bx, gv_raw, gv_exn, gv_st, dC, dRaw, dOp, dUn, dTest, dTruth, dAnd, dOr, dNot, dYes, dIf, dAndV, dOrV, dNotV, dNotT, dChain, dNil, dCons, dTup, dLst, dats, dCB, dNoP, dPart, dSl, dNext, dBreak, dCont, dNever, dDrop, dRet, dRetN, dIfS, dSetG, dPar, dPar3, dAppend, dAppPop, dSetIx, dExt, dAug, dSet0, dSAdd, dSNotIn, dIter_, gi_l, gi_t, gi_b, dRng1, dRng2, dName, dGNil, dGCons, dGTup, dAsg, dFor, dWhile, dCall, dCallR, dArgs_, ga_f, ga_t, argsOf, dLc, wipeE, dListRg, dIndex, dSortSet, dSortSc, dEnum, dEnA, dZip, dIsi, dIsi2, isaT, φI, φB, φC, φNeg, add_i, add_l, add_t, mul_i, mul_l, φIx, sl_l, sl_t, eq_i, eq_s, eq_l, eq_t, eq_b, eq_n, φIsN, isN_n, isN_b, isN_i, isN_s, isN_l, isN_t, φLen, φList, φTuple, φAbs, φInt, φMax, φIsB, φIsNB, its_l, its_t, rd_sh, rd_nw, rd_br, rp_sh, rp_nw, rp_br, rp_bx, rp_raw, rp_sr, rr_sh, rr_nw, rr_br, ra_sh, ra_br, ra_bx, ra_raw, va_sh, va_nt, va_nf, va_raw, hb_n, hb_sh, hb_bx, hb_raw, hb_br, sh_n, sh_c, tr_n, tr_b, tr_i, tr_l, tr_t, ty_n, ty_b, ty_i, ty_s, ty_l, ty_t, if_ff, if_tt, Env.set, List.getElem?_cons_succ, List.getElem?_cons_zero, List.set_cons_succ, List.set_cons_zero, List.reverse_cons, List.reverse_nil, List.nil_append, List.cons_append, Option.bind_some, ite_true, ite_false])
end Lp

namespace Lp
open PySem PySem.Spec PyProof.Rows L2
local macro_rules | `(tactic| rfl') => `(tactic| try dsimp only [dVar_, gv_sh, gv_ow, gv_bx, gv_raw, gv_exn, gv_st, dC, dRaw, dOp, dUn, dTest, dTruth, dAnd, dOr, dNot, dYes, dIf, dAndV, dOrV, dNotV, dNotT, dChain, dNil, dCons, dTup, dLst, dats, dCB, dNoP, dPart, dSl, dNext, dBreak, dCont, dNever, dDrop, dRet, dRetN, dIfS, dSetG, dPar, dPar3, dAppend, dAppPop, dSetIx, dExt, dAug, dSet0, dSAdd, dSNotIn, dIter_, gi_l, gi_t, gi_b, dRng1, dRng2, dName, dGNil, dGCons, dGTup, dAsg, dFor, dWhile, dCall, dCallR, dArgs_, ga_f, ga_t, argsOf, dLc, wipeE, dListRg, dIndex, dSortSet, dSortSc, dEnum, dEnA, dZip, dIsi, dIsi2, isaT, φI, φB, φC, φNeg, add_i, add_l, add_t, mul_i, mul_l, φIx, sl_l, sl_t, eq_i, eq_s, eq_l, eq_t, eq_b, eq_n, φIsN, isN_n, isN_b, isN_i, isN_s, isN_l, isN_t, φLen, φList, φTuple, φAbs, φInt, φMax, φIsB, φIsNB, its_l, its_t, rd_sh, rd_nw, rd_br, rp_sh, rp_nw, rp_br, rp_bx, rp_raw, rp_sr, rr_sh, rr_nw, rr_br, ra_sh, ra_br, ra_bx, ra_raw, va_sh, va_nt, va_nf, va_raw, hb_n, hb_sh, hb_bx, hb_raw, hb_br, sh_n, sh_c, tr_n, tr_b, tr_i, tr_l, tr_t, ty_n, ty_b, ty_i, ty_s, ty_l, ty_t, if_ff, if_tt, Env.set, List.getElem?_cons_succ, List.getElem?_cons_zero, List.set_cons_succ, List.set_cons_zero, List.reverse_cons, List.reverse_nil, List.nil_append, List.cons_append, Option.bind_some, ite_true, ite_false])
end Lp

namespace Lp
open PySem PySem.Spec PyProof.Rows L2
end Lp

namespace Lp
open PySem PySem.Spec PyProof.Rows L2
/-- a set as it is made -/
abbrev set0 (w : World) : Obj := { cls := .type "set", dict := none, data := .set #[] 0 (.fresh 0 0 (!w.params.followText "set-order")) }
section
variable {P : Program} {w : World} {A : Around} {E : Value → Shared → Prop} {s : Shared}
/-- what set.__init__ leaves of a list of ints -/
theorem init_ints {l : Addr} {items : Array Value} {ns : List Int} (hh : A.handled = none) (hl : s.heap.IsList l items) (hit : IntsAre items.toList ns) (few : ns.length + 1 < scanBound) {R : Value → Shared → Prop}
    (q : ∀ (h' : Heap) (tk c : Nat), SetR w h' s.heap.objs.size (fun j => decide (j ∈ ns)) c → c ≤ ns.length → (∀ b o, s.heap.get? b = some o → h'.get? b = some o) → R .none { s with heap := h', toks := tk }) :
    codeAny (model P w) A (.call (.builtin "set.__init__") ⟨[.ref s.heap.objs.size, .ref l], []⟩) (wants R E) { s with heap := s.heap.push (set0 w) } := by
  have at_S : (s.heap.push (set0 w)).get? s.heap.objs.size = some (set0 w) := Heap.get?_push_size _ rfl
  have many : items.size = ns.length := by
    have := IntsAre.length hit
    rw [Array.length_toList] at this
    exact this
  refine codeAny_call_builtin F.called_set.init.plain F.entry_set_init (check_set_init_1 ⟨_, at_S, rfl⟩ ?_)
  obtain ⟨⟨_, od, _, os⟩, at_l, hc, nl, hd⟩ := hl
  simp only at hc hd
  subst hc hd
  have at_l' : (s.heap.push (set0 w)).get? l = some { cls := .type "list", dict := od, data := .seq items nl, slots := os } := Heap.get?_push_of_some _ at_l
  have isl : (s.heap.push (set0 w)).IsList l items := ⟨_, at_l', rfl, nl, rfl⟩
  have low : l < s.heap.objs.size := Heap.lt_size at_l
  have f1 := F.sub_list_set
  have f2 := F.sub_list_frozenset
  have f3 : (Value.type "list" == Value.type "dict") = false := by decide
  unfold Builtin.«set.__init__» noKeywords Builtin.Frozenset.updateFrom
  generalize hPI : pyIter = PI
  wp_walk
  subst hPI
  refine wpAny_pyIter_list isl ?_
  refine wpAny_bind (wpAny_runValue ?_)
  have quiet : A.in1.in1.handled = none := by simp [hh]
  have ne : l ≠ (s.heap.push (set0 w)).objs.size := by rw [Heap.size_push]; exact Nat.ne_of_lt (Nat.lt_succ_of_lt low)
  have out : s.heap.objs.size ∉ [(s.heap.push (set0 w)).objs.size, l] := by
    rw [Heap.size_push, List.mem_cons, List.mem_singleton]
    exact fun z => z.elim (fun e => absurd e (Nat.ne_of_lt (Nat.lt_succ_self _))) fun e => absurd e (Nat.ne_of_gt low)
  refine set_update_ints ((Walks.list quiet _ l ne items).toS) s.heap.objs.size out ns many few (fun i v hv => ?_) (items.size - 0) 0 _ (by omega) (Nat.zero_le _) ?_ ?_ ?_
  · have hi : i < ns.length := by rw [← many]; exact (Array.getElem?_eq_some_iff.mp hv).1
    obtain ⟨t, e⟩ := IntsAre.int_at hit i v (by rw [Array.getElem?_toList]; exact hv)
    refine ⟨ns[i], t, List.getElem?_eq_getElem hi, ?_⟩
    rw [e, List.getD_eq_getElem?_getD, List.getElem?_eq_getElem hi] <;> rfl
  · exact ⟨⟨_, Heap.get?_push_size _ rfl, rfl, rfl⟩, isl.push _⟩
  · exact ⟨0, Nat.le_refl 0, setR_new_at (Heap.get?_push_of_some _ at_S)⟩
  · rintro ⟨h', g', d', tk', os'⟩ c hm hc hS
    have e1 : g' = s.gens := hm.gens
    have e2 : d' = s.drawn := hm.drawn
    have e3 : os' = s.os := hm.os
    subst e1 e2 e3
    show wpAny _ _ _ _ _ _
    refine wpAny_pure ?_
    show wpAny _ _ (ret Value.none) _ _ _
    refine wpAny_pure (q h' tk' c hS (by rw [← many]; exact hc) fun b o e => ?_)
    have lb : b < s.heap.objs.size := Heap.lt_size e
    refine hm.heap b o ?_ (Heap.get?_push_of_some _ (Heap.get?_push_of_some _ e))
    rw [List.mem_cons, List.mem_singleton, Heap.size_push]
    exact fun z => z.elim (fun e => absurd e (Nat.ne_of_lt lb)) fun e => absurd e (Nat.ne_of_lt (Nat.lt_succ_of_lt lb))
/-- set(xs), xs a list of ints -/
theorem call_set_ints {l : Addr} {items : Array Value} {ns : List Int} {Q : Value → Shared → Prop} (hh : A.handled = none) (hl : s.heap.IsList l items) (hit : IntsAre items.toList ns) (few : ns.length + 1 < scanBound)
    (q : ∀ (h' : Heap) (tk c : Nat), SetR w h' s.heap.objs.size (fun j => decide (j ∈ ns)) c → c ≤ ns.length → (∀ b o, s.heap.get? b = some o → h'.get? b = some o) → Q (.ref s.heap.objs.size) { s with heap := h', toks := tk }) :
    wpAny (model P w) A (call (.type "set") [.ref l]) Q E s := by
  obtain ⟨c, tl, hmro⟩ := F.called_set.mro
  have m1 := F.called_set.made
  have m2 := F.called_set.sub
  have m3 := F.called_set.notType
  have m4 := F.called_set.canCreate
  have m5 := F.typeCall_set_1 (.ref l)
  refine wpAny_call (codeAny_of_tree ?_)
  show wpAny _ _ (callAny (.type "set") _) _ _ _
  refine wpAny_pure ⟨Code.quiet_builtin _ (by decide +kernel), codeAny_builtin F.entry_type_call ?_⟩
  rw [Around.under_plain (weight_type_call_type "set" [.ref l] []) rfl]
  repeat (any_goals (first | assumption | wp_step))
  refine codeAny_mono (code_set_led1 (.ref l) (E := E) (Q₁ := fun obj s₁ => obj = .ref s.heap.objs.size ∧ s₁ = { s with heap := s.heap.push (set0 w) }) ⟨rfl, rfl⟩) fun r s₁ hr => ?_
  match r, hr with
  | .error e, hr => exact hr
  | .ok (.ret obj), hr =>
    obtain ⟨rfl, rfl⟩ := hr
    have at_S : (s.heap.push (set0 w)).get? s.heap.objs.size = some (set0 w) := Heap.get?_push_size _ rfl
    have ty : Shared.TypeIs { s with heap := s.heap.push (set0 w) } (.ref s.heap.objs.size) "set" := ⟨_, at_S, rfl⟩
    have m6 := F.called_set.init.lookup
    have m7 := F.called_set.init.bind (.ref s.heap.objs.size)
    repeat (any_goals (first | assumption | wp_step))
    refine codeAny_mono (init_ints (A := A.in1) (E := E) (R := fun r s₂ => r = .none ∧ ∃ (h' : Heap) (tk c : Nat), s₂ = { s with heap := h', toks := tk } ∧ SetR w h' s.heap.objs.size (fun j => decide (j ∈ ns)) c ∧ c ≤ ns.length ∧ (∀ b o, s.heap.get? b = some o → h'.get? b = some o))
      (by simp [hh]) hl hit few fun h' tk c a b d => ⟨rfl, h', tk, c, rfl, a, b, d⟩) fun r₂ s₂ hr₂ => ?_
    match r₂, hr₂ with
    | .error e, hr₂ => exact hr₂
    | .ok (.ret r), hr₂ =>
      obtain ⟨rfl, h', tk, c', rfl, h1, h2, h3⟩ := hr₂
      repeat (any_goals (first | assumption | wp_step))
      exact q _ _ _ h1 h2 h3
end
section
variable {X : Cx}
def rSetI (K : PySem.W.Frag) (w : World) : List V → Hp → VK → Prop := fun vs H Q => ∃ (l : Addr) (ns : List Int), vs = [V.ref l] ∧ SqL K H l (ns.map V.int) ∧ ns.length ≤ 1000 ∧ ∀ a n, H a = none → n ≤ ns.length → Q (.ref a) (upd H a (SetO w a (fun j => decide (j ∈ ns)) n))
theorem cr_setI (hc : X.calm = true) : CallR X (.type "set") (rSetI X.K X.w) := by
  rintro pins s σ H vs us Q I r ⟨l, ns, rfl, hl, few, q⟩
  rw [Vals.ref1 r]
  obtain ⟨its, rv, pl, hz⟩ := I.list hl
  have hn : H s.heap.objs.size = none := I.hok.fresh (Nat.le_refl _)
  refine call_set_ints (P := X.prog) (w := X.w) (I.ok.hd hc) pl.isList (by simpa using intsAre_of rv) (by unfold scanBound; omega) fun h' tk c R hcn keep => ?_
  exact ⟨.ref s.heap.objs.size, upd H s.heap.objs.size (SetO X.w s.heap.objs.size (fun j => decide (j ∈ ns)) c), I.laid (t' := tk) keep (Nat.le_refl _) (setO_new R), rfl, q _ _ hn hcn⟩
theorem sortSetK {w : World} (ew : X.w = w) (hc : X.calm = true) : CallR X (.builtin "sorted") (rSortedSet w) := by
  subst ew
  exact cr_sortedSet hc
end
section
variable {w : Wx} {K : PySem.W.Frag} {te : TE} {f : DTE}
end
end Lp

namespace Lp
open PySem PySem.Spec PyProof.Rows L2
section
variable {X : Cx}
end
section
variable {w : Wx} {K : PySem.W.Frag} {te : TE} {f : DTE}
end
end Lp

namespace Lp
open PySem PySem.Spec PyProof.Rows L2
section
variable {X : Cx} {pins : List (Addr × Obj)} {σ : L2.St} {H : Hp} {s : Shared} {a C : Addr} {B newId initId : String} {bm : List Value} {E : Value → Shared → Prop} {A : Around}
end
section
open Builtin Builtin.ObjectAttr PySem.W PySem.Calls PySem.HandSPX
variable {prog : Program} {w : World} {A : Around} {R : Result → Shared → Prop} {hp : Heap} {g : Array GenState} {d : Drawn} {t : Nat} {os : OsState}
end
section
variable {X : Cx} {pins : List (Addr × Obj)} {σ : L2.St} {H : Hp} {s : Shared} {a C : Addr} {B newId initId : String} {bm : List Value} {E : Value → Shared → Prop} {A : Around} {f : Str} {y : V} {u : Value}
end
section
variable {X : Cx} {o e : Expr} {es : List Expr} {to te : TE} {ta : TA} {f : Str} {p p' p1 p2 pos : Pos} {B newId initId : String} {bm : List Value}
end
end Lp

namespace Lp
open PySem PySem.Spec PyProof.Rows L2
abbrev DSpX := List SV → Nat → (R → Nat → Prop) → (Xn → Nat → Prop) → Prop
def dArgsX (F : DSpX) (rs : List R) (ε : Env) (Q : R → Env → Prop) (Ex : Xn → Env → Prop) : Prop := match argsOf rs with
  | some args => hasBr rs = false ∧ F args ε.c (fun r c => Q r ⟨ε.s, c⟩) (fun x c => Ex x ⟨ε.s, c⟩)
  | none => False
def dCallX (F : DSpX) (Ex : Xn → Env → Prop) (f : DTA) (ε : Env) (Q : R → Env → Prop) : Prop := f ε fun rs ε1 => dArgsX F rs ε1 Q Ex
section
variable {w : World} {cl : Str → Option Addr} {P0 : Hp} {W : WX} {Ex : Xn → Env → Prop}
end
section
variable {P : Program} {w : World} {K : PySem.W.Frag} {mg : Str → Option Value} {base : Heap} {cl : Str → Option Addr}
end
def dRaise (nm fld : Str) (f : DTE) (Ex : Xn → Env → Prop) (_ : DEnds) (ε : Env) : Prop := f ε fun r ε1 => match r with
  | .sh (.int i) => Ex ⟨nm, [(fld, .int i)]⟩ ε1
  | .sh (.tuple ds) => Ex ⟨nm, [(fld, .tuple ds)]⟩ ε1
  | _ => False
section
variable {w : World} {cl : Str → Option Addr} {P0 : Hp} {W : WX} {Ex : Xn → Env → Prop} {K : PySem.W.Frag} {C : Addr} {nm fld : Str} {te : TE} {f : DTE}
end
end Lp

namespace PySem.W
open PySem PySem.Spec PySem.Calls PyProof.Rows
section
variable {M : Model} {K : Frag}
end
end PySem.W
namespace Lp
open PySem PySem.Spec PyProof.Rows L2
section
variable {X : Cx}
end
section
variable {X : Cx} {pins : List (Addr × Obj)} {σ : L2.St} {H : Hp} {s : Shared}
end
section
variable {X : Cx} {n : Str} {cs : List Value} {te : Expr} {i : Nat} {body suite : List Stmt} {b₀ : Stmt} {pos pos' : Pos} {tb : WX → TS} {ts : Addr → Value → Option Addr → TS}
end
end Lp

namespace Lp
open PySem PySem.Spec PyProof.Rows L2
/-- None, or a caught exception, and its class -/
def TyE (K : PySem.W.Frag) (H : Hp) (v : V) (t : Value) : Prop := (v = .non ∧ t = .type "NoneType") ∨ ∃ (a C : Addr) (d : Option Addr), v = .ref a ∧ t = .ref C ∧ H a = some (exc a (.ref C) d) ∧ (d = none ∨ ∃ dd fs, d = some dd ∧ H dd = some (.xd fs)) ∧ ExcC K C
section
variable {X : Cx} {pins : List (Addr × Obj)} {σ : L2.St} {H : Hp} {s : Shared}
end
def baseX : Str → Str
  | "NoPerson" => "LookupError" | "NoNumber" => "LookupError" | "NoDeed" => "LookupError"
  | "OtherSize" => "ValueError" | "NoRoot" => "ValueError" | "MissingRoot" => "ValueError" | "NotKin" => "ValueError" | "NotPast" => "ValueError" | "BadDeed" => "ValueError" | "BadText" => "ValueError" | "BadLine" => "ValueError"
  | "Unreachable" => "RuntimeError" | "NoCommon" => "RuntimeError" | "Denied" => "RuntimeError" | "IsRoot" => "RuntimeError"
  | "TooMany" => "OverflowError"
  | _ => ""
def subX (c n : Str) : Bool := c == n || baseX c == n
def dIsX (nms : List Str) (f : DTE) (ε : Env) (Q : R → Env → Prop) : Prop := f ε fun r ε1 => match r with
  | .exn x => Q (.sh (.bool (nms.any (subX x.cls)))) ε1
  | .sh .none => Q (.sh (.bool false)) ε1
  | _ => False
def dAttr (n : Str) (f : DTE) (ε : Env) (Q : R → Env → Prop) : Prop := f ε fun r ε1 => match r with
  | .exn x => ∃ d, x.fs.lookup n = some d ∧ Q (.sh d) ε1
  | _ => False
theorem FVs.look {H : Hp} {n : Str} {d : PyData} : ∀ {vs : List (Str × V)} {ds : List (Str × PyData)}, FVs H vs ds → ds.lookup n = some d → ∃ v, vs.lookup n = some v ∧ DV H v d
  | _, _, .nil, e => by cases e
  | _, _, .cons (f := f) a r, e => by
    unfold List.lookup at e ⊢
    split at e
    · rename_i h
      cases e
      exact ⟨_, rfl, a⟩
    · exact r.look e
section
variable {w : Wx} {K : PySem.W.Frag} {te : TE} {f : DTE}
theorem XF.dict {H : Hp} {d : Option Addr} {fs : List (Str × PyData)} (x : XF H d fs) : d = none ∨ ∃ dd vs, d = some dd ∧ H dd = some (.xd vs) := by
  cases d with
  | none => exact .inl rfl
  | some dd =>
    obtain ⟨vs, h, _⟩ := x
    exact .inr ⟨dd, vs, rfl, h⟩
theorem TyE.of {H L : Hp} {v : V} {x : Xn} {C : Addr} (h : XV w L v x) (s : Same L H) (hC : w.cl x.cls = some C) (T : ExcC K C) : TyE K H v (.ref C) := by
  obtain ⟨a, C', d, h1, h2, h3, h4⟩ := h
  rw [hC] at h2
  cases h2
  exact .inr ⟨a, C, d, h1, rfl, s _ _ h3, (h4.to s).dict, T⟩
end
end Lp

namespace Lp
open PySem PySem.Spec PyProof.Rows L2
section
variable {X : Cx} {o e : Expr} {es : List Expr} {to te : TE} {ta : TA} {f : Str} {p p' p1 p2 pos : Pos} {B newId initId : String} {bm : List Value}
end
section
variable {P : Program} {w : World} {K : PySem.W.Frag} {mg : Str → Option Value} {base : Heap} {cl : Str → Option Addr}
end
def dIsNE (neg : Bool) (f : DTE) (ε : Env) (Q : R → Env → Prop) : Prop := f ε fun r ε1 => match r with
  | .exn _ => Q (.sh (.bool neg)) ε1
  | r => match r.dat with
    | some d => Q (.sh (.bool (if neg then !isN d else isN d))) ε1
    | none => False
section
variable {w : Wx} {K : PySem.W.Frag} {te : TE} {f : DTE}
end
def gx (F : DSpX) (o : Option (List SV)) (b : Bool) (ε : Env) (Q : R → Env → Prop) (Ex : Xn → Env → Prop) : Prop := match o with
  | some args => b = false ∧ F args ε.c (fun r c => Q r ⟨ε.s, c⟩) (fun x c => Ex x ⟨ε.s, c⟩)
  | none => False
theorem dArgsX_ (F : DSpX) (rs : List R) (ε : Env) (Q : R → Env → Prop) (Ex : Xn → Env → Prop) : dArgsX F rs ε Q Ex = gx F (argsOf rs) (hasBr rs) ε Q Ex := rfl
theorem gx_s (F : DSpX) (args : List SV) (b : Bool) (ε : Env) (Q : R → Env → Prop) (Ex : Xn → Env → Prop) : gx F (some args) b ε Q Ex = (b = false ∧ F args ε.c (fun r c => Q r ⟨ε.s, c⟩) (fun x c => Ex x ⟨ε.s, c⟩)) := rfl
end Lp

namespace Lp
open PySem PySem.Spec PyProof.Rows L2
local macro_rules | `(tactic| rfl') => `(tactic| try dsimp only [dVar_, gv_sh, gv_ow, gv_bx, gv_raw, gv_exn, gv_st, dC, dRaw, dOp, dUn, dTest, dTruth, dAnd, dOr, dNot, dYes, dIf, dAndV, dOrV, dNotV, dNotT, dChain, dNil, dCons, dTup, dLst, dats, dCB, dNoP, dPart, dSl, dNext, dBreak, dCont, dNever, dDrop, dRet, dRetN, dIfS, dSetG, dPar, dPar3, dAppend, dAppPop, dSetIx, dExt, dAug, dSet0, dSAdd, dSNotIn, dIter_, gi_l, gi_t, gi_b, dRng1, dRng2, dName, dGNil, dGCons, dGTup, dAsg, dFor, dWhile, dCall, dCallR, dArgs_, ga_f, ga_t, argsOf, dLc, wipeE, dListRg, dIndex, dSortSet, dSortSc, dEnum, dEnA, dZip, dIsi, dIsi2, isaT, φI, φB, φC, φNeg, add_i, add_l, add_t, mul_i, mul_l, φIx, sl_l, sl_t, eq_i, eq_s, eq_l, eq_t, eq_b, eq_n, φIsN, isN_n, isN_b, isN_i, isN_s, isN_l, isN_t, φLen, φList, φTuple, φAbs, φInt, φMax, φIsB, φIsNB, its_l, its_t, rd_sh, rd_nw, rd_br, rp_sh, rp_nw, rp_br, rp_bx, rp_raw, rp_sr, rr_sh, rr_nw, rr_br, ra_sh, ra_br, ra_bx, ra_raw, va_sh, va_nt, va_nf, va_raw, hb_n, hb_sh, hb_bx, hb_raw, hb_br, sh_n, sh_c, tr_n, tr_b, tr_i, tr_l, tr_t, ty_n, ty_b, ty_i, ty_s, ty_l, ty_t, if_ff, if_tt, Env.set, List.getElem?_cons_succ, List.getElem?_cons_zero, List.set_cons_succ, List.set_cons_zero, List.reverse_cons, List.reverse_nil, List.nil_append, List.cons_append, Option.bind_some, ite_true, ite_false, dCallX, dArgsX_, gx_s, dRaise, dIsX, dAttr, dIsNE])
end Lp

namespace Lp
open PySem PySem.Spec PyProof.Rows L2
local macro_rules | `(tactic| rfl') => `(tactic| try dsimp only [dVar_, gv_sh, gv_ow, gv_bx, gv_raw, gv_exn, gv_st, dC, dRaw, dOp, dUn, dTest, dTruth, dAnd, dOr, dNot, dYes, dIf, dAndV, dOrV, dNotV, dNotT, dChain, dNil, dCons, dTup, dLst, dats, dCB, dNoP, dPart, dSl, dNext, dBreak, dCont, dNever, dDrop, dRet, dRetN, dIfS, dSetG, dPar, dPar3, dAppend, dAppPop, dSetIx, dExt, dAug, dSet0, dSAdd, dSNotIn, dIter_, gi_l, gi_t, gi_b, dRng1, dRng2, dName, dGNil, dGCons, dGTup, dAsg, dFor, dWhile, dCall, dCallR, dArgs_, ga_f, ga_t, argsOf, dLc, wipeE, dListRg, dIndex, dSortSet, dSortSc, dEnum, dEnA, dZip, dIsi, dIsi2, isaT, φI, φB, φC, φNeg, add_i, add_l, add_t, mul_i, mul_l, φIx, sl_l, sl_t, eq_i, eq_s, eq_l, eq_t, eq_b, eq_n, φIsN, isN_n, isN_b, isN_i, isN_s, isN_l, isN_t, φLen, φList, φTuple, φAbs, φInt, φMax, φIsB, φIsNB, its_l, its_t, rd_sh, rd_nw, rd_br, rp_sh, rp_nw, rp_br, rp_bx, rp_raw, rp_sr, rr_sh, rr_nw, rr_br, ra_sh, ra_br, ra_bx, ra_raw, va_sh, va_nt, va_nf, va_raw, hb_n, hb_sh, hb_bx, hb_raw, hb_br, sh_n, sh_c, tr_n, tr_b, tr_i, tr_l, tr_t, ty_n, ty_b, ty_i, ty_s, ty_l, ty_t, if_ff, if_tt, Env.set, List.getElem?_cons_succ, List.getElem?_cons_zero, List.set_cons_succ, List.set_cons_zero, List.reverse_cons, List.reverse_nil, List.nil_append, List.cons_append, Option.bind_some, ite_true, ite_false, dCallX, dArgsX_, gx_s, dRaise, dIsX, dAttr, dIsNE])
end Lp

namespace Lp
open PySem PySem.Spec PyProof.Rows L2
local macro_rules | `(tactic| rfl') => `(tactic| try dsimp only [dVar_, gv_sh, gv_ow, gv_bx, gv_raw, gv_st, dC, dRaw, dOp, dUn, dTest, dTruth, dAnd, dOr, dNot, dYes, dIf, dAndV, dOrV, dNotV, dNotT, dChain, dNil, dCons, dTup, dLst, dats, dCB, dNoP, dPart, dSl, dNext, dBreak, dCont, dNever, dDrop, dRet, dRetN, dIfS, dSetG, dPar, dPar3, dAppend, dAppPop, dSetIx, dExt, dAug, dSet0, dSAdd, dSNotIn, dIter_, gi_l, gi_t, gi_b, dRng1, dRng2, dName, dGNil, dGCons, dGTup, dAsg, dFor, dWhile, dCall, dCallR, dArgs_, ga_f, ga_t, argsOf, dLc, wipeE, dListRg, dIndex, dSortSet, dSortSc, dEnum, dEnA, dZip, dIsi, dIsi2, isaT, φI, φB, φC, φNeg, add_i, add_l, add_t, mul_i, mul_l, φIx, sl_l, sl_t, eq_i, eq_s, eq_l, eq_t, eq_b, eq_n, φIsN, isN_n, isN_b, isN_i, isN_s, isN_l, isN_t, φLen, φList, φTuple, φAbs, φInt, φMax, φIsB, φIsNB, its_l, its_t, rd_sh, rd_nw, rd_br, rp_sh, rp_nw, rp_br, rp_bx, rp_raw, rp_sr, rr_sh, rr_nw, rr_br, ra_sh, ra_br, ra_bx, ra_raw, va_sh, va_nt, va_nf, va_raw, hb_n, hb_sh, hb_bx, hb_raw, hb_br, sh_n, sh_c, tr_n, tr_b, tr_i, tr_l, tr_t, ty_n, ty_b, ty_i, ty_s, ty_l, ty_t, if_ff, if_tt, Env.set, List.getElem?_cons_succ, List.getElem?_cons_zero, List.set_cons_succ, List.set_cons_zero, List.reverse_cons, List.reverse_nil, List.nil_append, List.cons_append, Option.bind_some, ite_true, ite_false])
end Lp

namespace Lp
open PySem PySem.Spec PyProof.Rows L2
section
variable {X : Cx}
def rCntT (K : PySem.W.Frag) : V → List V → Hp → VK → Prop := fun x xs H Q => ∃ (a : Addr) (ns : List Int) (k : Int), x = .ref a ∧ xs = [.int k] ∧ SqT K H a (IL ns) ∧ Q (.int (ns.count k : Nat)) H
theorem mt_countT : MtR X "tuple.count" (rCntT X.K) := by
  rintro pins s σ H x xs v us Q J rx rxs ⟨a, ns, k, rfl, rfl, at_a, q⟩
  cases rx
  obtain ⟨uy, rfl, ry⟩ := vals1 rxs
  obtain ⟨t, rfl⟩ := ry
  obtain ⟨its, rv, pl, _⟩ := J.tuple at_a
  obtain ⟨⟨cls, dd, dt, sl⟩, look, isT, n, seq⟩ := pl
  simp only at isT seq
  subst isT
  subst seq
  have are := ints_of_vals rv
  have many : its.countP (eqk k) = ns.count k := eqk_count are
  have each : ∀ y ∈ its.toArray, MeetsSeq.EqGives y (.int k t) (eqk k y) := fun y hy => eqk_gives are y (by simpa using hy)
  have ty : s.TypeIs (.ref a) "tuple" := ⟨_, look, rfl⟩
  apply call_meets PySem.F.slot_tuple_count ty PySem.F.entry_tuple_count (PySem.F.args_tuple_count_2 _ _) (SeqAt.tuple_countAt a its.toArray n dd sl (.int k t) (eqk k))
  refine ⟨look, fun y hy => (each y hy).at _ _, .int (ns.count k : Nat), H, J.tok _, ⟨s.toks, ?_⟩, q⟩
  rw [← many]
def tCount (K : PySem.W.Frag) (to : TE) (t : TA) : TE := fun σ H Q => to σ H fun x H1 => (tyV K "list" x H1 ∧ t σ H1 fun xs H2 => rCntI K x xs H2 Q) ∨ ((∃ a ys, x = .ref a ∧ Sol H1 a ys) ∧ t σ H1 fun xs H2 => rCntT K x xs H2 Q)
theorem pe_count {o e : Expr} {to : TE} {t : TA} {apos cpos : Pos} (ho : PE X o to) (ha : PA X [e] t)
    (hbase : attributeBase o "count" X.env (eval o X.env) = eval o X.env := by rfl)
    (hfew : ((backTo cpos (starEach [e] X.env)).all (fun x => !x.1) && (backToKw cpos (keywordEach [] X.env)).all (fun x => x.1.isSome) && decide ([e].length + ([] : List Keyword).length + (if ([] : List Keyword).isEmpty then 0 else 1) < 30)) = true := by rfl)
    (hline : (apos.endLine == cpos.line) = true := by rfl) (hs : starEach [e] X.env = (false, eval e X.env) :: starEach [] X.env := by rfl) (hplain : (backTo cpos (starEach [] X.env)).any (·.1) = false := by rfl) :
    PE X (.Call (.Attribute o "count" apos) [e] [] cpos) (tCount X.K to t) := by
  constructor
  intro pins s σ H Q J want
  refine wpAny_Call_method_late hbase hfew hline rfl (thn (ho.run pins s σ H _ J want) ?_)
  rintro v s' ⟨x, H', J', rx, ways⟩
  have go : ∀ (id : String) (r : V → List V → Hp → VK → Prop), MtR X id r → (t σ H' fun xs H2 => r x xs H2 Q) → wpAny (model X.prog X.w) X.A (callWith cpos (.builtin id) [v] (backTo cpos (starEach [e] X.env)) []) (EP X pins σ Q) X.xe s' := by
    intro id r hm hq
    have hA := ha.run cpos pins s' σ H' _ J' hq
    rw [hs] at hA ⊢
    refine Calls.callWith_builtin (by show (false || (backTo cpos (starEach [] X.env)).any (·.1)) = false; rw [hplain]; rfl) (Calls.evalArgs_plain (thn hA ?_))
    rintro us s2 ⟨xs, H2, J2, rs, q2⟩
    exact hm pins s2 σ H2 x xs v us Q J2 rx rs q2
  rcases ways with ⟨ty, hq⟩ | ⟨⟨a, ys, rfl, o', nd, at_a⟩, hq⟩
  · obtain ⟨h1, h2⟩ := tyV_is J' rx ty
    exact ⟨"list", _, PySem.F.plainAttrs_list, PySem.F.slot_list_count, PySem.F.type_list_count, h1, h2, go _ _ mt_lcount hq⟩
  · cases rx
    have ok : ObjOk X.prog X.w H' s'.heap a (.frz o' (.tup ys)) := J'.hok a _ at_a
    obtain ⟨k1, k2, its, rv, k3⟩ := ok
    refine ⟨"tuple", _, PySem.F.plainAttrs_tuple, PySem.F.slot_tuple_count, PySem.F.type_tuple_count, k3.typeIs, fun b e => ?_, go _ _ mt_countT hq⟩
    cases e
    exact ⟨o', k1, nd⟩
end
section
variable {w : Wx} {K : PySem.W.Frag} {ta te : TE} {f g : DTE}
def dCount (f g : DTE) (ε : Env) (Q : R → Env → Prop) : Prop := f ε fun x ε1 => match x.dat.bind PyData.its with
  | some ds => g ε1 fun y ε2 => match y.dat, intsD ds with
    | some (.int k), some ns => Q (.sh (.int (ns.count k : Nat))) ε2
    | _, _ => False
  | none => False
theorem se_count (hf : SE w ta f) (hg : SE w te g) : SE w (tCount K ta (tCons te tNil)) (dCount f g) := by
  constructor
  · intro ε A B h q
    refine hf.mono _ _ _ (fun x ε1 q => ?_) q
    split at q
    · refine hg.mono _ _ _ (fun y ε2 q => ?_) q
      split at q
      · exact h _ _ q
      · exact q.elim
    · exact q.elim
  · intro Z O σ ε L H Q X q
    refine hf.run Z O σ ε L H _ X (hf.mono _ _ _ (fun x ε1 q => ?_) q)
    intro v L1 H1 X1 e1 r1
    split at q
    · rename_i ds hds
      cases hx : x.dat with
      | none => rw [hx] at hds; cases hds
      | some d =>
        rw [hx] at hds
        cases d with
        | list es =>
          cases hds
          obtain ⟨a, ys, rfl, k1, k2⟩ := (r1.vl hx).lst X1.lh
          refine .inl ⟨.inl ⟨rfl, _, SqL.of k1⟩, hg.run Z O σ ε1 L1 H1 _ X1 (hg.mono _ _ _ (fun y ε2 q => ?_) q)⟩
          intro u L2 H2 X2 e2 r2
          split at q
          · rename_i k ns hk hn
            cases (r2.vl hk).int
            obtain ⟨_, _, ea, k3, k4⟩ := ((r1.mono X1 e2).vl hx).lst X2.lh
            cases ea
            rw [intsD_is hn] at k4
            cases ints_dvs k4
            exact ⟨a, ns, k, rfl, rfl, SqL.of k3, q _ L2 H2 X2 (e1.trans e2) (.int _)⟩
          · exact q.elim
        | tuple es =>
          cases hds
          obtain ⟨a, ys, rfl, k1, k2⟩ := (r1.vl hx).tup
          refine .inr ⟨⟨a, ys, rfl, k1.to X1.lh⟩, hg.run Z O σ ε1 L1 H1 _ X1 (hg.mono _ _ _ (fun y ε2 q => ?_) q)⟩
          intro u L2 H2 X2 e2 r2
          split at q
          · rename_i k ns hk hn
            cases (r2.vl hk).int
            rw [intsD_is hn] at k2
            cases ints_dvs k2
            exact ⟨a, ns, k, rfl, rfl, ((k1.to e2.ll).to X2.lh).seq, q _ L2 H2 X2 (e1.trans e2) (.int _)⟩
          · exact q.elim
        | _ => cases hds
    · exact q.elim
end
section
variable {X : Cx} {K : PySem.W.Frag}
theorem countK {e : Expr} {to : TE} {t : TA} (h : X.K = K) (x : PE X e (tCount X.K to t)) : PE X e (tCount K to t) := h ▸ x
end
section
variable {X : Cx}
def rSetIT (K : PySem.W.Frag) (w : World) : List V → Hp → VK → Prop := fun vs H Q => ∃ (l : Addr) (ns : List Int), vs = [V.ref l] ∧ SqT K H l (ns.map V.int) ∧ ns.length ≤ 1000 ∧ ∀ a n, H a = none → n ≤ ns.length → Q (.ref a) (upd H a (SetO w a (fun j => decide (j ∈ ns)) n))
theorem cr_setIT (hc : X.calm = true) : CallR X (.type "set") (rSetIT X.K X.w) := by
  rintro pins s σ H vs us Q I r ⟨l, ns, rfl, hl, few, q⟩
  rw [Vals.ref1 r]
  obtain ⟨its, rv, pl, hz⟩ := I.tuple hl
  have hn : H s.heap.objs.size = none := I.hok.fresh (Nat.le_refl _)
  refine call_set_tupI (P := X.prog) (w := X.w) ns (I.ok.hd hc) pl (by simpa using intsAre_of rv) (by unfold scanBound; omega) fun h' tk c R hcn keep => ?_
  exact ⟨.ref s.heap.objs.size, upd H s.heap.objs.size (SetO X.w s.heap.objs.size (fun j => decide (j ∈ ns)) c), I.laid (t' := tk) keep (Nat.le_refl _) (setO_new R), rfl, q _ _ hn hcn⟩
def rSetIA (K : PySem.W.Frag) (w : World) : List V → Hp → VK → Prop := fun vs H Q => rSetI K w vs H Q ∨ rSetIT K w vs H Q
theorem setIAK {K : PySem.W.Frag} {w : World} (e : X.K = K) (ew : X.w = w) (hc : X.calm = true) : CallR X (.type "set") (rSetIA K w) := by
  subst e ew
  rintro pins s σ H vs us Q I r (h | h)
  · exact cr_setI hc pins s σ H vs us Q I r h
  · exact cr_setIT hc pins s σ H vs us Q I r h
end
section
variable {w : Wx} {K : PySem.W.Frag} {te : TE} {f : DTE}
def dSortSetA (f : DTE) (ε : Env) (Q : R → Env → Prop) : Prop := f ε fun r ε1 => match r.dat.bind PyData.its with
  | some ds => match intsD ds with
    | some ns => ns.length < 64 ∧ ∀ ms : List Int, ms.Pairwise (· < ·) → (∀ k, k ∈ ms ↔ k ∈ ns) → Q (.nw (dI ms)) ε1
    | none => False
  | none => False
theorem se_sortSetA (hf : SE w te f) : SE w (tCB (rSortedSet w) (tCons (tCB (rSetIA K w) (tCons te tNil)) tNil)) (dSortSetA f) := by
  constructor
  · intro ε A B h q
    refine hf.mono _ _ _ (fun r ε1 q => ?_) q
    split at q
    · split at q
      · exact ⟨q.1, fun ms h1 h2 => h _ _ (q.2 ms h1 h2)⟩
      · exact q.elim
    · exact q.elim
  · intro Z O σ ε L H Q X q
    refine hf.run Z O σ ε L H _ X (hf.mono _ _ _ (fun r ε1 q => ?_) q)
    intro v L1 H1 X1 e1 r1
    split at q
    · rename_i ds hds
      split at q
      · rename_i ns hn
        have few : ns.length ≤ 1000 := by have := q.1; omega
        have rest : ∀ b n, H1 b = none → n ≤ ns.length → rSortedSet w [.ref b] (upd H1 b (SetO w b (fun j => decide (j ∈ ns)) n)) Q := fun b n nb hb => by
          refine ⟨b, _, n, rfl, upd_same, by have := q.1; omega, fun ms c pw mem ln nc => ?_⟩
          have eb : Ext none L1 H1 L1 (upd H1 b (SetO w b (fun j => decide (j ∈ ns)) n)) := Ext.own nb
          have s2 : Same L1 (upd H1 b (SetO w b (fun j => decide (j ∈ ns)) n)) := same_own X1.lh (X1.lh.free nb)
          have ec : Ext none L1 (upd H1 b (SetO w b (fun j => decide (j ∈ ns)) n)) L1 (upd (upd H1 b (SetO w b (fun j => decide (j ∈ ns)) n)) c (.lst (ms.map V.int))) := Ext.own nc
          have X2 := X1.step eb s2
          have nc1 : H1 c = none := eb.free nc
          have X3 := X2.step ec (same_own s2 (X1.lh.free nc1))
          exact q.2 ms pw (fun k => by rw [mem k, decide_eq_true_eq]) _ L1 _ X3 ((e1.trans eb.any).trans ec.any) (VR.back (VR0.vr (r := .nw (dI ms)) ⟨c, _, rfl, nc, X1.lh.free nc1, upd_same, dvs_ints ms⟩ X2) (e1.trans eb.any))
        cases hx : r.dat with
        | none => rw [hx] at hds; cases hds
        | some d =>
          rw [hx] at hds
          cases d with
          | list es =>
            cases hds
            obtain ⟨a, ys, rfl, k1, k2⟩ := (r1.vl hx).lst X1.lh
            rw [intsD_is hn] at k2
            cases ints_dvs k2
            exact .inl ⟨a, ns, rfl, SqL.of k1, few, rest⟩
          | tuple es =>
            cases hds
            obtain ⟨a, ys, rfl, k1, k2⟩ := (r1.vl hx).tup
            rw [intsD_is hn] at k2
            cases ints_dvs k2
            exact .inr ⟨a, ns, rfl, (k1.to X1.lh).seq, few, rest⟩
          | _ => cases hds
      · exact q.elim
    · exact q.elim
end
end Lp

namespace Lp
open PySem PySem.Spec PyProof.Rows L2
local macro_rules | `(tactic| rfl') => `(tactic| try dsimp only [dVar_, gv_sh, gv_ow, gv_bx, gv_raw, gv_exn, gv_st, dC, dRaw, dOp, dUn, dTest, dTruth, dAnd, dOr, dNot, dYes, dIf, dAndV, dOrV, dNotV, dNotT, dChain, dNil, dCons, dTup, dLst, dats, dCB, dNoP, dPart, dSl, dNext, dBreak, dCont, dNever, dDrop, dRet, dRetN, dIfS, dSetG, dPar, dPar3, dAppend, dAppPop, dSetIx, dExt, dAug, dSet0, dSAdd, dSNotIn, dIter_, gi_l, gi_t, gi_b, dRng1, dRng2, dName, dGNil, dGCons, dGTup, dAsg, dFor, dWhile, dCall, dCallR, dArgs_, ga_f, ga_t, argsOf, dLc, wipeE, dListRg, dIndex, dSortSet, dSortSc, dEnum, dEnA, dZip, dIsi, dIsi2, isaT, φI, φB, φC, φNeg, add_i, add_l, add_t, mul_i, mul_l, φIx, sl_l, sl_t, eq_i, eq_s, eq_l, eq_t, eq_b, eq_n, φIsN, isN_n, isN_b, isN_i, isN_s, isN_l, isN_t, φLen, φList, φTuple, φAbs, φInt, φMax, φIsB, φIsNB, its_l, its_t, rd_sh, rd_nw, rd_br, rp_sh, rp_nw, rp_br, rp_bx, rp_raw, rp_sr, rr_sh, rr_nw, rr_br, ra_sh, ra_br, ra_bx, ra_raw, va_sh, va_nt, va_nf, va_raw, hb_n, hb_sh, hb_bx, hb_raw, hb_br, sh_n, sh_c, tr_n, tr_b, tr_i, tr_l, tr_t, ty_n, ty_b, ty_i, ty_s, ty_l, ty_t, if_ff, if_tt, Env.set, List.getElem?_cons_succ, List.getElem?_cons_zero, List.set_cons_succ, List.set_cons_zero, List.reverse_cons, List.reverse_nil, List.nil_append, List.cons_append, Option.bind_some, ite_true, ite_false, dCallX, dArgsX_, gx_s, dRaise, dIsX, dAttr, dIsNE, dCount, dSortSetA])
/-- person_after: state, person, steps, route, begin -/
def b_person_after : DTS := (dSeq (dDrop (dCall p_check_person (dCons (dVar 0) (dCons (dVar 1) dNil))))
  (dSeq (dSetG false 3 (dCall p_route_from (dCons (dVar 0) (dCons (dVar 1) dNil))))
  (dSeq (dIfS (dTest (dOp (φB fun i j => decide (i < j)) (dVar 2) (dCB φLen (dCons (dVar 3) dNil)))) (dRet (dOp φIx (dVar 3) (dVar 2))) dNext)
  (dSeq (dSetG false 4 (dCall p_ring_begin (dCons (dVar 0) (dCons (dVar 3) dNil))))
  (dRet (dOp φIx (dVar 3) (dOp φAdd (dVar 4) (dOp (φC (fun _ j => 0 < j) fun i j => i % j) (dOp (φI fun i j => i - j) (dVar 2) (dVar 4)) (dOp (φI fun i j => i - j) (dCB φLen (dCons (dVar 3) dNil)) (dVar 4))))))))))
abbrev k_person_after : Nat := 2
def p_person_after : DSp := fun args c Q => ∃ (d : PyData) (ns : List Int) (p s : Int), args = [.sh d, .sh (.int p), .sh (.int s)] ∧ PyData.its d = some (dI ns) ∧ Stt ns ∧ Per ns p ∧ 0 ≤ s ∧ Q (.sh (.int (itr ns p s.toNat))) c
theorem mon_person_after : MonF p_person_after := fun args c A B h ⟨d, ns, p, s, e, h1, h2, h3, h4, q⟩ => ⟨d, ns, p, s, e, h1, h2, h3, h4, h _ _ q⟩
theorem route_itr {ns : List Int} (h : Stt ns) {p : Int} (hp : Per ns p) {i : Nat} (hi : i < (routeF ns p).length) : gt (routeF ns p) (i : Int) = itr ns p i := by
  obtain ⟨L, e, nd, _⟩ := h.rt hp
  rw [e, itrs_len] at hi
  unfold gt
  rw [e, Int.toNat_natCast, List.getD_eq_getElem?_getD, itrs_get hi]
  rfl
theorem route_per {ns : List Int} (h : Stt ns) {p : Int} (hp : Per ns p) : itr ns p (routeF ns p).length = itr ns p (heightF ns p) := by
  obtain ⟨c, cy, _, e⟩ := ringF_cyc h.lo hp.1 hp.2
  have : (routeF ns p).length = heightF ns p + c := by rw [e, itrs_len]
  rw [this, itr_add]
  exact cy.2.1
theorem m_person_after : ∀ args c Q, p_person_after args c Q → defF k_person_after b_person_after args c Q := by
  rintro _ c Q ⟨d, ns, p, s, rfl, h1, h2, h3, h4, q⟩
  show b_person_after _ ⟨[.sh d, .sh (.int p), .sh (.int s), .un, .un], c⟩
  unfold b_person_after
  have bl := begin_lt h2 h3
  refine sq_ ?_
  rfl'
  refine c_check h1 h3 ?_
  refine sq_ ?_
  rfl'
  refine c_route h1 h2 h3 ?_
  rfl'
  refine sq_ ?_
  rfl'
  rw [dI_len]
  refine it_2 (fun e => ?_) fun e => ?_
  · refine ⟨_, atI_dI h4 e, ?_⟩
    rw [show gt (routeF ns p) s = itr ns p s.toNat by
      have := route_itr h2 h3 (i := s.toNat) (by omega)
      rw [Int.toNat_of_nonneg h4] at this
      exact this]
    exact q
  refine sq_ ?_
  rfl'
  refine ⟨d, _, ns, p, rfl, h1, h2, h3, its_l _, ?_⟩
  rfl'
  rw [dI_len]
  have m0 : 0 < ((routeF ns p).length : Int) - (heightF ns p : Int) := by omega
  refine ⟨m0, ?_⟩
  have r0 := Int.emod_nonneg (s - (heightF ns p : Int)) (Int.ne_of_gt m0)
  have r1 := Int.emod_lt_of_pos (s - (heightF ns p : Int)) m0
  refine ⟨_, atI_dI (by omega) (by omega), ?_⟩
  have e2 : gt (routeF ns p) ((heightF ns p : Int) + (s - (heightF ns p : Int)) % (((routeF ns p).length : Int) - (heightF ns p : Int))) = itr ns p s.toNat := by
    obtain ⟨k, ek⟩ : ∃ k : Nat, s = (heightF ns p : Int) + k := ⟨(s - (heightF ns p : Int)).toNat, by omega⟩
    obtain ⟨D, eD⟩ : ∃ D : Nat, (routeF ns p).length = heightF ns p + D := ⟨(routeF ns p).length - heightF ns p, by omega⟩
    have per := itr_mod (ns := ns) (p := p) (b := heightF ns p) (d := D) (by omega) (by rw [← eD]; exact route_per h2 h3) k
    have e3 : (heightF ns p : Int) + (s - (heightF ns p : Int)) % (((routeF ns p).length : Int) - (heightF ns p : Int)) = ((heightF ns p + k % D : Nat) : Int) := by
      rw [eD, ek, show ((heightF ns p : Int) + (k : Int) - (heightF ns p : Int)) = (k : Int) by omega, show (((heightF ns p + D : Nat) : Int) - (heightF ns p : Int)) = (D : Int) by omega]
      rw [Int.natCast_add, Int.natCast_emod]
    have lt : k % D < D := Nat.mod_lt _ (by omega)
    rw [e3, route_itr h2 h3 (by omega), ek, show ((heightF ns p : Int) + (k : Int)).toNat = heightF ns p + k by omega, per]
  rw [e2]
  exact q
def setB (ns ws : List Int) : Bool := ws.all fun p => decide (gt ns p = p) || decide (heightF ns p = 1)
theorem setB_iff {ns ws : List Int} : setB ns ws = true ↔ Settled ns ws := by
  unfold setB Settled SetP
  rw [List.all_eq_true]
  constructor
  · intro h p hp
    have := h p hp
    simpa using this
  · intro h p hp
    simpa using h p hp
/-- is_settled: state, word, person -/
def b_is_settled : DTS := (dRet (dCB (φAll false) (dCons (dLc (dIter (dSortSetA (dVar 1))) (dName 2) dYes (dOrV (dOp (φEq false) (dOp φIx (dVar 0) (dVar 2)) (dVar 2)) (dOp (φEq false) (dCall p_height (dCons (dVar 0) (dCons (dVar 2) dNil))) (dC (.int 1)))) [2]) dNil)))
abbrev k_is_settled : Nat := 1
def p_is_settled : DSp := fun args c Q => ∃ (d e : PyData) (ns ws : List Int), args = [.sh d, .sh e] ∧ PyData.its d = some (dI ns) ∧ PyData.its e = some (dI ws) ∧ Stt ns ∧ Low ns.length ws ∧ ws.length < 64 ∧ Q (.sh (.bool (setB ns ws))) c
theorem mon_is_settled : MonF p_is_settled := fun args c A B h ⟨d, e, ns, ws, ea, h1, h2, h3, h4, h5, q⟩ => ⟨d, e, ns, ws, ea, h1, h2, h3, h4, h5, h _ _ q⟩
theorem m_is_settled : ∀ args c Q, p_is_settled args c Q → defF k_is_settled b_is_settled args c Q := by
  rintro _ c Q ⟨d, e, ns, ws, rfl, h1, h2, h3, h4, h5, q⟩
  show b_is_settled _ ⟨[.sh d, .sh e, .un], c⟩
  unfold b_is_settled
  rfl'
  rw [h2]
  rfl'
  rw [intsD_dI]
  refine ⟨h5, fun ms pw mem => ?_⟩
  rfl'
  have lm : ms.length ≤ ws.length := nodup_len ms ws (List.Pairwise.imp (fun {a b} l => Int.ne_of_lt l) pw) fun z hz => (mem z).mp hz
  refine lc_all PyData.int (fun p => .bool (decide (gt ns p = p) || decide (heightF ns p = 1))) ms [] (fun p hp K hK => ?_) (by show 0 + _ ≤ _; omega) ?_
  · have pp : Per ns p := h4 p ((mem p).mp hp)
    rfl'
    rw [h1]
    refine ⟨_, atI_dI pp.1 pp.2, ?_⟩
    rfl'
    by_cases e : gt ns p = p
    · rw [decide_eq_true e]
      refine if_t rfl ?_
      exact hK _ _ (by rw [decide_eq_true e]; rfl) rfl
    · rw [decide_eq_false e]
      refine if_f rfl ?_
      refine c_height h1 h3 pp ?_
      rfl'
      have e2 : decide (((heightF ns p : Nat) : Int) = 1) = decide (heightF ns p = 1) := by
        by_cases z : heightF ns p = 1
        · rw [decide_eq_true z, decide_eq_true (by omega)]
        · rw [decide_eq_false z, decide_eq_false (by omega)]
      rw [e2]
      exact hK _ _ (by rw [decide_eq_false e, Bool.false_or]; rfl) rfl
  rw [List.nil_append, dB_map]
  refine φAll_dB ?_
  have e3 : (ms.map fun p => decide (gt ns p = p) || decide (heightF ns p = 1)).all id = setB ns ws := by
    unfold setB
    rw [List.all_map]
    apply Bool.eq_iff_iff.mpr
    rw [List.all_eq_true, List.all_eq_true]
    constructor
    · intro z p hp
      exact z p ((mem p).mpr hp)
    · intro z p hp
      exact z p ((mem p).mp hp)
  rw [e3]
  exact q
def alongR (ns ws : List Int) (B : Nat) : List (List Int) := (List.range (B + 1)).map (rep ns ws)
theorem along_lenR (ns ws : List Int) (B : Nat) : (alongR ns ws B).length = B + 1 := by unfold alongR; rw [List.length_map, List.length_range]
theorem along_snoc (ns ws : List Int) (B : Nat) : alongR ns ws B ++ [rep ns ws (B + 1)] = alongR ns ws (B + 1) := by
  unfold alongR
  rw [List.range_succ (n := B + 1), List.map_append]; rfl
theorem along_last (ns ws : List Int) (B : Nat) : (alongR ns ws B).getLast? = some (rep ns ws B) := by
  unfold alongR
  rw [List.range_succ, List.map_append, List.map_cons, List.map_nil, List.getLast?_concat]
theorem dT_lastR {a : List (List Int)} {s : List Int} (h : a.getLast? = some s) : (dT a).getLast? = some (.tuple (dI s)) := by
  show (List.map _ _).getLast? = _
  rw [List.getLast?_map, h]; rfl
/-- B is the first time at which the word is settled -/
def FirstS (ns ws : List Int) (B : Nat) : Prop := Settled (rep ns ws B) ws ∧ (∀ k, k < B → ¬ Settled (rep ns ws k) ws) ∧ B ≤ ns.length * ns.length
theorem su_loop {d e : PyData} {ns ws : List Int} (h1 : PyData.its d = some (dI ns)) (h2 : PyData.its e = some (dI ws)) (h3 : Stt ns) (h4 : Low ns.length ws) (h5 : ws.length < 64) {Δ : DEnds} {c : Nat} (q : ∀ B, FirstS ns ws B → Δ.nx ⟨[.sh d, .sh e, .ow (dT (alongR ns ws B))], c⟩) : ∀ (m k : Nat), (∀ j, j < k → ¬ Settled (rep ns ws j) ws) → wsum (rep ns ws k) + k ≤ wsum ns → wsum ns + 1 ≤ m + k →
    whileN (dNot (dTruth (dCall p_is_settled (dCons (dOp φIx (dVar 2) (dUn φNeg (dC (.int 1)))) (dCons (dVar 1) dNil))))) (dAppend 2 (dCall p_called_all (dCons (dOp φIx (dVar 2) (dUn φNeg (dC (.int 1)))) (dCons (dVar 1) dNil)))) Δ (m + 1) ⟨[.sh d, .sh e, .ow (dT (alongR ns ws k))], c⟩
  | m, k, first, hw, hm => by
    have sk := rep_stt h3 h4 k
    have lk : Low (rep ns ws k).length ws := by rw [rep_len]; exact h4
    have top := wsum_top h3
    have hle := h3.le
    have kt : k ≤ ns.length * ns.length := by omega
    have sq : ns.length * ns.length ≤ 1000 * 1000 := Nat.mul_le_mul hle hle
    unfold whileN
    rfl'
    refine ⟨_, atI_last (dT_lastR (along_last ns ws k)), ?_⟩
    rfl'
    refine ⟨_, e, rep ns ws k, ws, rfl, its_t _, h2, sk, lk, h5, ?_⟩
    rfl'
    cases b : setB (rep ns ws k) ws with
    | true =>
      refine if_f rfl ?_
      exact q k ⟨setB_iff.mp b, first, kt⟩
    | false =>
      refine if_t rfl ?_
      have no : ¬ Settled (rep ns ws k) ws := fun z => by rw [setB_iff.mpr z] at b; cases b
      have less := settle_less ws sk lk no
      refine ⟨_, atI_last (dT_lastR (along_last ns ws k)), ?_⟩
      rfl'
      refine c_called (its_t _) h2 sk lk ?_
      rfl'
      refine ⟨show _ < 16777216 by unfold dT; rw [List.length_map, along_lenR]; omega, ?_⟩
      rw [show dT (alongR ns ws k) ++ [PyData.tuple (dI (callAll (rep ns ws k) ws))] = dT (alongR ns ws (k + 1)) by
        rw [← along_snoc]; show _ = List.map _ _; rw [List.map_append]; rfl]
      have hw2 : wsum (rep ns ws (k + 1)) + (k + 1) ≤ wsum ns := by
        show wsum (callAll (rep ns ws k) ws) + (k + 1) ≤ _
        omega
      cases m with
      | zero => exfalso; omega
      | succ m =>
        exact su_loop h1 h2 h3 h4 h5 q m (k + 1) (fun j hj => by
          rcases Nat.lt_or_ge j k with l | l
          · exact first j l
          · rw [show j = k by omega]; exact no) hw2 (by omega)
abbrev su_rest : DTS := (dSeq (dSetG true 2 (dLst (dCons (dCB φTuple (dCons (dVar 0) dNil)) dNil)))
  (dSeq (dWhile (dNot (dTruth (dCall p_is_settled (dCons (dOp φIx (dVar 2) (dUn φNeg (dC (.int 1)))) (dCons (dVar 1) dNil))))) (dAppend 2 (dCall p_called_all (dCons (dOp φIx (dVar 2) (dUn φNeg (dC (.int 1)))) (dCons (dVar 1) dNil)))))
  (dRet (dVar 2))))
theorem su_end {d e : PyData} {ns ws : List Int} (h1 : PyData.its d = some (dI ns)) (h2 : PyData.its e = some (dI ws)) (h3 : Stt ns) (h4 : Low ns.length ws) (h5 : ws.length < 64) {c : Nat} {Q : R → Nat → Prop} {nx : Env → Prop} (q : ∀ B, FirstS ns ws B → Q (.nw (dT (alongR ns ws B))) c) :
    su_rest { nx := nx, rt := fun r ε => Q r ε.c } ⟨[.sh d, .sh e, .un], c⟩ := by
  refine sq_ ?_
  rfl'
  rw [h1]
  rfl'
  refine sq_ ?_
  refine ⟨wsum ns + 1 + 1, ?_⟩
  have e0 : [PyData.tuple (dI ns)] = dT (alongR ns ws 0) := rfl
  rw [e0]
  refine su_loop h1 h2 h3 h4 h5 (fun B hB => ?_) (wsum ns + 1) 0 (fun j hj => absurd hj (Nat.not_lt_zero _)) (Nat.le_refl _) (by omega)
  rfl'
  exact q B hB
/-- states_until_settled: state, word, along -/
def b_states_until_settled : DTS := (dSeq (dDrop (dCall p_check_word (dCons (dVar 0) (dCons (dVar 1) dNil))))
  (dSeq (dSetG true 2 (dLst (dCons (dCB φTuple (dCons (dVar 0) dNil)) dNil)))
  (dSeq (dWhile (dNot (dTruth (dCall p_is_settled (dCons (dOp φIx (dVar 2) (dUn φNeg (dC (.int 1)))) (dCons (dVar 1) dNil))))) (dAppend 2 (dCall p_called_all (dCons (dOp φIx (dVar 2) (dUn φNeg (dC (.int 1)))) (dCons (dVar 1) dNil)))))
  (dRet (dVar 2)))))
abbrev k_states_until_settled : Nat := 1
def p_states_until_settled : DSp := fun args c Q => ∃ (d e : PyData) (ns ws : List Int), args = [.sh d, .sh e] ∧ PyData.its d = some (dI ns) ∧ PyData.its e = some (dI ws) ∧ Stt ns ∧ Low ns.length ws ∧ ws.length < 64 ∧ ∀ B, FirstS ns ws B → Q (.nw (dT (alongR ns ws B))) c
theorem mon_states_until_settled : MonF p_states_until_settled := fun args c A B h ⟨d, e, ns, ws, ea, h1, h2, h3, h4, h5, q⟩ => ⟨d, e, ns, ws, ea, h1, h2, h3, h4, h5, fun B hB => h _ _ (q B hB)⟩
theorem m_states_until_settled : ∀ args c Q, p_states_until_settled args c Q → defF k_states_until_settled b_states_until_settled args c Q := by
  rintro _ c Q ⟨d, e, ns, ws, rfl, h1, h2, h3, h4, h5, q⟩
  show b_states_until_settled _ ⟨[.sh d, .sh e, .un], c⟩
  unfold b_states_until_settled
  refine sq_ ?_
  rfl'
  refine ⟨d, e, ns, ws, rfl, h1, h2, h4, ?_⟩
  exact su_end h1 h2 h3 h4 h5 q
/-- pointer_later: settled, word, person, more -/
def b_pointer_later : DTS := (dRet (dCall p_person_after (dCons (dVar 0) (dCons (dOp φIx (dVar 0) (dVar 2)) (dCons (dOp φMul (dCount (dVar 1) (dVar 2)) (dVar 3)) dNil)))))
abbrev k_pointer_later : Nat := 0
def p_pointer_later : DSp := fun args c Q => ∃ (d e : PyData) (ns ws : List Int) (x k : Int), args = [.sh d, .sh e, .sh (.int x), .sh (.int k)] ∧ PyData.its d = some (dI ns) ∧ PyData.its e = some (dI ws) ∧ Stt ns ∧ Per ns x ∧ ws.length < 1000 ∧ 0 ≤ k ∧ k ≤ 100000000000000000 ∧ Q (.sh (.int (itr ns (gt ns x) (k.toNat * ws.count x)))) c
theorem mon_pointer_later : MonF p_pointer_later := fun args c A B h ⟨d, e, ns, ws, x, k, ea, h1, h2, h3, h4, h5, h6, h7, q⟩ => ⟨d, e, ns, ws, x, k, ea, h1, h2, h3, h4, h5, h6, h7, h _ _ q⟩
theorem m_pointer_later : ∀ args c Q, p_pointer_later args c Q → defF k_pointer_later b_pointer_later args c Q := by
  rintro _ c Q ⟨d, e, ns, ws, x, k, rfl, h1, h2, h3, h4, h5, h6, h7, q⟩
  show b_pointer_later _ ⟨[.sh d, .sh e, .sh (.int x), .sh (.int k)], c⟩
  unfold b_pointer_later
  have cl : ws.count x ≤ ws.length := List.count_le_length
  rfl'
  rw [h1]
  refine ⟨_, atI_dI h4.1 h4.2, ?_⟩
  rfl'
  rw [h2]
  rfl'
  rw [intsD_dI]
  refine ⟨wide_mul (a := 10) (b := 64) (by omega) (by omega) (by decide) (by decide) (by decide), ?_⟩
  rfl'
  have e1 : ((ws.count x : Nat) : Int) * k = ((k.toNat * ws.count x : Nat) : Int) := by
    rw [Int.natCast_mul, Int.toNat_of_nonneg h6, Int.mul_comm]
  refine ⟨d, ns, _, _, rfl, h1, h3, h3.gt h4, by rw [e1]; omega, ?_⟩
  rw [e1, Int.toNat_natCast]
  exact q
/-- repeated: state, word, many, along, begin, person -/
def b_repeated : DTS := (dSeq (dSetG false 3 (dCall p_states_until_settled (dCons (dVar 0) (dCons (dVar 1) dNil))))
  (dSeq (dSetG false 4 (dOp (φI fun i j => i - j) (dCB φLen (dCons (dVar 3) dNil)) (dC (.int 1))))
  (dSeq (dIfS (dTest (dOp (φB fun i j => decide (i ≤ j)) (dVar 2) (dVar 4))) (dRet (dOp φIx (dVar 3) (dVar 2))) dNext)
  (dRet (dCB φTuple (dCons (dLc (dRng1 (dCons (dCB φLen (dCons (dVar 0) dNil)) dNil)) (dName 5) dYes (dCall p_pointer_later (dCons (dOp φIx (dVar 3) (dUn φNeg (dC (.int 1)))) (dCons (dVar 1) (dCons (dVar 5) (dCons (dOp (φI fun i j => i - j) (dVar 2) (dVar 4)) dNil))))) [5]) dNil))))))
abbrev k_repeated : Nat := 3
def p_repeated : DSp := fun args c Q => ∃ (d e : PyData) (ns ws : List Int) (m : Int), args = [.sh d, .sh e, .sh (.int m)] ∧ PyData.its d = some (dI ns) ∧ PyData.its e = some (dI ws) ∧ Stt ns ∧ Low ns.length ws ∧ ws.length < 64 ∧ 0 ≤ m ∧ m ≤ 100000000000000000 ∧ Q (.sh (.tuple (dI (rep ns ws m.toNat)))) c
theorem mon_repeated : MonF p_repeated := fun args c A B h ⟨d, e, ns, ws, m, ea, h1, h2, h3, h4, h5, h6, h7, q⟩ => ⟨d, e, ns, ws, m, ea, h1, h2, h3, h4, h5, h6, h7, h _ _ q⟩
abbrev re_rest : DTS := (dSeq (dSetG false 4 (dOp (φI fun i j => i - j) (dCB φLen (dCons (dVar 3) dNil)) (dC (.int 1))))
  (dSeq (dIfS (dTest (dOp (φB fun i j => decide (i ≤ j)) (dVar 2) (dVar 4))) (dRet (dOp φIx (dVar 3) (dVar 2))) dNext)
  (dRet (dCB φTuple (dCons (dLc (dRng1 (dCons (dCB φLen (dCons (dVar 0) dNil)) dNil)) (dName 5) dYes (dCall p_pointer_later (dCons (dOp φIx (dVar 3) (dUn φNeg (dC (.int 1)))) (dCons (dVar 1) (dCons (dVar 5) (dCons (dOp (φI fun i j => i - j) (dVar 2) (dVar 4)) dNil))))) [5]) dNil)))))
theorem re_end {d e : PyData} {ns ws : List Int} {m : Int} (h1 : PyData.its d = some (dI ns)) (h2 : PyData.its e = some (dI ws)) (h3 : Stt ns) (h4 : Low ns.length ws) (h5 : ws.length < 64) (h6 : 0 ≤ m) (h7 : m ≤ 100000000000000000) {c : Nat} {Q : R → Nat → Prop} {nx : Env → Prop} (q : Q (.sh (.tuple (dI (rep ns ws m.toNat)))) c) {B : Nat} (hB : FirstS ns ws B) :
    re_rest { nx := nx, rt := fun r ε => Q r ε.c } ⟨[.sh d, .sh e, .sh (.int m), .sh (.list (dT (alongR ns ws B))), .un, .un], c⟩ := by
  have dl : (dT (alongR ns ws B)).length = B + 1 := by show (List.map _ _).length = _; rw [List.length_map, along_lenR]
  have sB := rep_stt h3 h4 B
  have lB : Low (rep ns ws B).length ws := by rw [rep_len]; exact h4
  have hle := h3.le
  refine sq_ ?_
  rfl'
  rw [dl]
  refine sq_ ?_
  rfl'
  refine it_2 (fun g => ?_) fun g => ?_
  · refine ⟨.tuple (dI (rep ns ws m.toNat)), ?_, q⟩
    rw [atI_nat h6 (by rw [dl]; omega)]
    show (List.map _ (alongR ns ws B))[m.toNat]? = _
    unfold alongR
    rw [List.getElem?_map, List.getElem?_map, List.getElem?_range (by omega)]
    rfl
  rw [h1]
  rfl'
  rw [dI_len]
  refine ⟨⟨by omega, by omega⟩, ?_⟩
  rw [Int.toNat_natCast, rg0]
  refine lc_all (fun i : Nat => PyData.int (i : Nat)) (fun i : Nat => PyData.int (gt (rep ns ws m.toNat) (i : Int))) (List.range ns.length) [] (fun i hi K hK => ?_) (by rw [List.length_range]; show 0 + _ ≤ _; omega) ?_
  · have pi := per_nat (List.mem_range.mp hi)
    have pB : Per (rep ns ws B) (i : Int) := ⟨pi.1, by rw [rep_len]; exact pi.2⟩
    rfl'
    refine ⟨_, atI_last (dT_lastR (along_last ns ws B)), ?_⟩
    rfl'
    refine ⟨_, e, rep ns ws B, ws, (i : Int), _, rfl, its_t _, h2, sB, pB, by omega, by omega, by omega, ?_⟩
    obtain ⟨k, ek⟩ : ∃ k : Nat, m = (B : Int) + k := ⟨(m - B).toNat, by omega⟩
    have e3 : gt (rep ns ws m.toNat) (i : Int) = itr (rep ns ws B) (gt (rep ns ws B) (i : Int)) (k * ws.count (i : Int)) := by
      rw [ek, show ((B : Int) + (k : Int)).toNat = B + k by omega, rep_add]
      exact rep_settled sB lB hB.1 k _ pB
    refine hK _ _ ?_ rfl
    rw [e3, show (m - (((B + 1 : Nat) : Int) - 1)).toNat = k by omega]
    rfl
  rw [List.nil_append]
  rfl'
  have e4 : (List.range ns.length).map (fun i : Nat => PyData.int (gt (rep ns ws m.toNat) (i : Int))) = dI (rep ns ws m.toNat) := by
    have : rep ns ws m.toNat = (List.range ns.length).map fun i : Nat => gt (rep ns ws m.toNat) (i : Int) := by
      refine List.ext_getElem (by rw [rep_len, List.length_map, List.length_range]) fun i a b => ?_
      rw [List.getElem_map, List.getElem_range, gt_nat a]
    conv => rhs; rw [this]
    show _ = List.map _ (List.map _ _)
    rw [List.map_map]; rfl
  rw [e4]
  exact q
theorem m_repeated : ∀ args c Q, p_repeated args c Q → defF k_repeated b_repeated args c Q := by
  rintro _ c Q ⟨d, e, ns, ws, m, rfl, h1, h2, h3, h4, h5, h6, h7, q⟩
  show b_repeated _ ⟨[.sh d, .sh e, .sh (.int m), .un, .un, .un], c⟩
  unfold b_repeated
  refine sq_ ?_
  rfl'
  refine ⟨d, e, ns, ws, rfl, h1, h2, h3, h4, h5, fun B hB => ?_⟩
  rfl'
  exact re_end h1 h2 h3 h4 h5 h6 h7 q hB
end Lp

namespace Lp
open PySem PySem.Spec PyProof.Rows L2
local macro_rules | `(tactic| rfl') => `(tactic| try dsimp only [dVar_, gv_sh, gv_ow, gv_bx, gv_raw, gv_exn, gv_st, dC, dRaw, dOp, dUn, dTest, dTruth, dAnd, dOr, dNot, dYes, dIf, dAndV, dOrV, dNotV, dNotT, dChain, dNil, dCons, dTup, dLst, dats, dCB, dNoP, dPart, dSl, dNext, dBreak, dCont, dNever, dDrop, dRet, dRetN, dIfS, dSetG, dPar, dPar3, dAppend, dAppPop, dSetIx, dExt, dAug, dSet0, dSAdd, dSNotIn, dIter_, gi_l, gi_t, gi_b, dRng1, dRng2, dName, dGNil, dGCons, dGTup, dAsg, dFor, dWhile, dCall, dCallR, dArgs_, ga_f, ga_t, argsOf, dLc, wipeE, dListRg, dIndex, dSortSet, dSortSc, dEnum, dEnA, dZip, dIsi, dIsi2, isaT, φI, φB, φC, φNeg, add_i, add_l, add_t, mul_i, mul_l, φIx, sl_l, sl_t, eq_i, eq_s, eq_l, eq_t, eq_b, eq_n, φIsN, isN_n, isN_b, isN_i, isN_s, isN_l, isN_t, φLen, φList, φTuple, φAbs, φInt, φMax, φIsB, φIsNB, its_l, its_t, rd_sh, rd_nw, rd_br, rp_sh, rp_nw, rp_br, rp_bx, rp_raw, rp_sr, rr_sh, rr_nw, rr_br, ra_sh, ra_br, ra_bx, ra_raw, va_sh, va_nt, va_nf, va_raw, hb_n, hb_sh, hb_bx, hb_raw, hb_br, sh_n, sh_c, tr_n, tr_b, tr_i, tr_l, tr_t, ty_n, ty_b, ty_i, ty_s, ty_l, ty_t, if_ff, if_tt, Env.set, List.getElem?_cons_succ, List.getElem?_cons_zero, List.set_cons_succ, List.set_cons_zero, List.reverse_cons, List.reverse_nil, List.nil_append, List.cons_append, Option.bind_some, ite_true, ite_false, dCallX, dArgsX_, gx_s, dRaise, dIsX, dAttr, dIsNE, dCount, dSortSetA])
/-- common_divisor: one, other -/
def b_common_divisor : DTS := (dSeq (dWhile (dTest (dOp (φB fun i j => decide (j < i)) (dVar 1) (dC (.int 0)))) (dPar 0 false 1 false (dVar 1) (dOp (φC (fun _ j => 0 < j) fun i j => i % j) (dVar 0) (dVar 1))))
  (dRet (dVar 0)))
abbrev k_common_divisor : Nat := 0
def p_common_divisor : DSp := fun args c Q => ∃ a b : Nat, args = [.sh (.int (a : Nat)), .sh (.int (b : Nat))] ∧ Q (.sh (.int (Nat.gcd a b : Nat))) c
theorem mon_common_divisor : MonF p_common_divisor := fun args c A B h ⟨a, b, e, q⟩ => ⟨a, b, e, h _ _ q⟩
theorem gcd_loop {Δ : DEnds} {c : Nat} : ∀ (m a b : Nat), b ≤ m → Δ.nx ⟨[.sh (.int (Nat.gcd a b : Nat)), .sh (.int 0)], c⟩ →
    whileN (dTest (dOp (φB fun i j => decide (j < i)) (dVar 1) (dC (.int 0)))) (dPar 0 false 1 false (dVar 1) (dOp (φC (fun _ j => 0 < j) fun i j => i % j) (dVar 0) (dVar 1))) Δ (m + 1) ⟨[.sh (.int (a : Nat)), .sh (.int (b : Nat))], c⟩
  | m, a, b, hm, q => by
    unfold whileN
    rfl'
    refine it_2 (fun e => ?_) fun e => ?_
    · refine ⟨e, ?_⟩
      have e2 : ((a : Nat) : Int) % ((b : Nat) : Int) = ((a % b : Nat) : Int) := (Int.natCast_emod a b).symm
      rw [e2]
      have lt : a % b < b := Nat.mod_lt _ (by omega)
      cases m with
      | zero => exfalso; omega
      | succ m =>
        refine gcd_loop m b (a % b) (by omega) ?_
        rw [show Nat.gcd b (a % b) = Nat.gcd a b by rw [Nat.gcd_comm b, ← Nat.gcd_rec, Nat.gcd_comm]]
        exact q
    · have : b = 0 := by omega
      subst this
      rw [Nat.gcd_zero_right] at q
      exact q
theorem m_common_divisor : ∀ args c Q, p_common_divisor args c Q → defF k_common_divisor b_common_divisor args c Q := by
  rintro _ c Q ⟨a, b, rfl, q⟩
  show b_common_divisor _ ⟨[.sh (.int (a : Nat)), .sh (.int (b : Nat))], c⟩
  unfold b_common_divisor
  refine sq_ ?_
  refine ⟨b + 1, gcd_loop b a b (Nat.le_refl b) ?_⟩
  rfl'
  exact q
def tpF (ns ws : List Int) (p : Int) : Nat := (ringF ns p).length / Nat.gcd (ringF ns p).length (ws.count p)
theorem ring_pos {ns : List Int} (h : Stt ns) {p : Int} (hp : Per ns p) : 1 ≤ (ringF ns p).length ∧ (ringF ns p).length ≤ ns.length := by
  obtain ⟨c, e, cy, p0, p1⟩ := headF_form h.lo hp.1 hp.2
  rw [e, itrs_len]
  refine ⟨cy.1, ?_⟩
  have := low_len ns.length _ cy.2.2 fun z hz => cyc_per h ⟨p0, p1⟩ hz
  rw [itrs_len] at this
  exact this
theorem tp_pos {ns ws : List Int} (h : Stt ns) {p : Int} (hp : Per ns p) : 1 ≤ tpF ns ws p := by
  have := (ring_pos h hp).1
  unfold tpF
  have g := Nat.gcd_dvd_left (ringF ns p).length (ws.count p)
  exact Nat.div_pos (Nat.le_of_dvd (by omega) g) (Nat.gcd_pos_of_pos_left _ (by omega))
theorem tp_le {ns ws : List Int} (h : Stt ns) {p : Int} (hp : Per ns p) : tpF ns ws p ≤ ns.length := Nat.le_trans (Nat.div_le_self _ _) (ring_pos h hp).2
theorem tp_mul {ns ws : List Int} (p : Int) : ∃ q, tpF ns ws p * ws.count p = (ringF ns p).length * q := by
  unfold tpF
  obtain ⟨a, ha⟩ := Nat.gcd_dvd_left (ringF ns p).length (ws.count p)
  obtain ⟨b, hb⟩ := Nat.gcd_dvd_right (ringF ns p).length (ws.count p)
  generalize Nat.gcd (ringF ns p).length (ws.count p) = g at ha hb
  refine ⟨b, ?_⟩
  rcases Nat.eq_zero_or_pos g with z | z
  · subst z
    rw [ha, hb]; simp
  · rw [ha, hb, Nat.mul_div_cancel_left _ z]
    rw [Nat.mul_comm g a, Nat.mul_assoc]
/-- turn_period: settled, word, person, length -/
def b_turn_period : DTS := (dSeq (dSetG false 3 (dCB φLen (dCons (dCall p_ring_of (dCons (dVar 0) (dCons (dVar 2) dNil))) dNil)))
  (dRet (dOp (φC CDivW fun i j => i / j) (dVar 3) (dCall p_common_divisor (dCons (dVar 3) (dCons (dCount (dVar 1) (dVar 2)) dNil))))))
abbrev k_turn_period : Nat := 1
def p_turn_period : DSp := fun args c Q => ∃ (d e : PyData) (ns ws : List Int) (p : Int), args = [.sh d, .sh e, .sh (.int p)] ∧ PyData.its d = some (dI ns) ∧ PyData.its e = some (dI ws) ∧ Stt ns ∧ Per ns p ∧ Q (.sh (.int (tpF ns ws p : Nat))) c
theorem mon_turn_period : MonF p_turn_period := fun args c A B h ⟨d, e, ns, ws, p, ea, h1, h2, h3, h4, q⟩ => ⟨d, e, ns, ws, p, ea, h1, h2, h3, h4, h _ _ q⟩
theorem m_turn_period : ∀ args c Q, p_turn_period args c Q → defF k_turn_period b_turn_period args c Q := by
  rintro _ c Q ⟨d, e, ns, ws, p, rfl, h1, h2, h3, h4, q⟩
  show b_turn_period _ ⟨[.sh d, .sh e, .sh (.int p), .un], c⟩
  unfold b_turn_period
  have rp := ring_pos h3 h4
  have hle := h3.le
  refine sq_ ?_
  rfl'
  refine c_ring h1 h3 h4 ?_
  rfl'
  rw [dI_len]
  rw [h2]
  rfl'
  rw [intsD_dI]
  refine ⟨(ringF ns p).length, ws.count p, rfl, ?_⟩
  rfl'
  have g1 : 1 ≤ Nat.gcd (ringF ns p).length (ws.count p) := Nat.gcd_pos_of_pos_left _ (by omega)
  have g2 : Nat.gcd (ringF ns p).length (ws.count p) ≤ (ringF ns p).length := Nat.le_of_dvd (by omega) (Nat.gcd_dvd_left _ _)
  refine ⟨⟨by omega, ?_⟩, ?_⟩
  · rw [Int.natAbs_natCast]
    exact Nat.lt_trans ((Nat.log2_lt (by omega)).mpr (Nat.lt_of_le_of_lt (Nat.le_trans g2 (Nat.le_trans rp.2 hle)) (by decide : 1000 < 2 ^ 10))) (by decide)
  · rw [← Int.natCast_ediv]
    exact q
theorem cyc_mul {a : List Int} {y : Int} {c : Nat} (cy : Cyc a y c) (n : Nat) : ∀ q, itr a y (n + c * q) = itr a y n
  | 0 => rfl
  | q + 1 => by
    have e : n + c * (q + 1) = c + (n + c * q) := by rw [Nat.mul_succ]; omega
    rw [e, itr_add, cy.2.1]
    exact cyc_mul cy n q
theorem root_itr {a : List Int} {x : Int} (r : gt a x = x) : ∀ k, itr a x k = x
  | 0 => rfl
  | k + 1 => by
    show gt a (itr a x k) = x
    rw [root_itr r k, r]
theorem ring_lenC {s : List Int} (h : Stt s) {x : Int} (hx : Per s x) {c : Nat} (cy : Cyc s (gt s x) c) : (ringF s x).length = c := by
  have py := h.gt hx
  have e : ringF s x = ringF s (gt s x) := (meet_ring h hx py).mpr ⟨1, 0, rfl⟩
  rw [e, cyc_ring h py cy]
  unfold turnF
  rw [List.length_append, List.length_drop, List.length_take, itrs_len]
  omega
/-- the pointer of x after k repetitions -/
abbrev sqF (ns ws : List Int) (x : Int) (k : Nat) : Int := gt (rep ns ws k) x
theorem seq_mul {ns ws : List Int} (h : Stt ns) (lw : Low ns.length ws) {B : Nat} (st : Settled (rep ns ws B) ws) {x : Int} (hx : Per ns x) {M q : Nat} (e : M * ws.count x = (ringF (rep ns ws B) x).length * q) (k : Nat) : sqF ns ws x (B + k + M) = sqF ns ws x (B + k) := by
  have sB := rep_stt h lw B
  have lB : Low (rep ns ws B).length ws := by rw [rep_len]; exact lw
  have pB : Per (rep ns ws B) x := ⟨hx.1, by rw [rep_len]; exact hx.2⟩
  unfold sqF
  have e1 : rep ns ws (B + k + M) = rep (rep ns ws B) ws (k + M) := by rw [Nat.add_assoc]; exact rep_add ns ws B (k + M)
  rw [e1, rep_add ns ws B k, rep_settled sB lB st _ x pB, rep_settled sB lB st _ x pB, Nat.add_mul, e]
  rcases Classical.em (x ∈ ws) with m | m
  · rcases st x m with r | r
    · rw [r, root_itr r, root_itr r]
    · obtain ⟨_, c, cy⟩ := (high_one sB pB).mp r
      rw [ring_lenC sB pB cy]
      exact cyc_mul cy _ q
  · rw [List.count_eq_zero.mpr m, Nat.mul_zero] at e
    rw [← e, Nat.add_zero]
def Whole (s : Nat → Int) (a : Nat) : Prop := ∀ k, ∃ j, j < a ∧ s j = s k
theorem whole_of {s : Nat → Int} {B T : Nat} (T1 : 1 ≤ T) (h : ∀ k, s (B + k + T) = s (B + k)) : Whole s (B + T) := by
  intro k
  induction k using Nat.strongRecOn with
  | ind k ih =>
    rcases Nat.lt_or_ge k (B + T) with l | l
    · exact ⟨k, l, rfl⟩
    · obtain ⟨j, hj, e⟩ := ih (k - T) (by omega)
      refine ⟨j, hj, e.trans ?_⟩
      have := h (k - T - B)
      rw [show B + (k - T - B) + T = k by omega, show B + (k - T - B) = k - T by omega] at this
      exact this.symm
noncomputable def ftR (s : Nat → Int) (t : Int) : PyData := open Classical in if h : ∃ k, s k = t ∧ ∀ j, j < k → s j ≠ t then .int ((Classical.choose h : Nat) : Int) else .none
theorem ft_prefix {s : Nat → Int} {a : Nat} (w : Whole s a) (t : Int) : (if t ∈ (List.range a).map s then PyData.int ((((List.range a).map s).idxOf t : Nat) : Int) else .none) = ftR s t := by
  have get : ∀ i, i < a → ((List.range a).map s)[i]? = some (s i) := fun i hi => by rw [List.getElem?_map, List.getElem?_range hi]; rfl
  by_cases m : t ∈ (List.range a).map s
  · rw [if_pos m]
    have il := List.idxOf_lt_length_of_mem m
    rw [List.length_map, List.length_range] at il
    have e1 := idx_get m
    rw [get _ il] at e1
    have h : ∃ k, s k = t ∧ ∀ j, j < k → s j ≠ t := ⟨_, Option.some.inj e1, fun j hj e => idx_first _ t j hj (by rw [get j (by omega), e])⟩
    unfold ftR
    rw [dif_pos h]
    have c1 := (Classical.choose_spec h).1
    have c2 := (Classical.choose_spec h).2
    generalize Classical.choose h = k at c1 c2
    have : ((List.range a).map s).idxOf t = k := by
      rcases Nat.lt_trichotomy (((List.range a).map s).idxOf t) k with l | l | l
      · exact absurd (Option.some.inj e1) (c2 _ l)
      · exact l
      · exact absurd (by rw [get k (by omega), c1]) (idx_first _ t k l)
    rw [this]
  · rw [if_neg m]
    unfold ftR
    rw [dif_neg]
    rintro ⟨k, e, _⟩
    obtain ⟨j, hj, e2⟩ := w k
    exact m (List.mem_map.mpr ⟨j, List.mem_range.mpr hj, e2.trans e⟩)
abbrev ft_rest : DTS := (dSeq (dSetG true 5 (dLc (dIter (dVar 4)) (dName 6) dYes (dOp φIx (dVar 6) (dVar 2)) [6]))
  (dSeq (dFor (dRng2 (dCons (dC (.int 1)) (dCons (dCall p_turn_period (dCons (dOp φIx (dVar 4) (dUn φNeg (dC (.int 1)))) (dCons (dVar 1) (dCons (dVar 2) dNil)))) dNil))) (dName 7) (dAppend 5 (dCall p_pointer_later (dCons (dOp φIx (dVar 4) (dUn φNeg (dC (.int 1)))) (dCons (dVar 1) (dCons (dVar 2) (dCons (dVar 7) dNil)))))))
  (dRet (dIf (dTest (dOp (φIn false) (dVar 3) (dVar 5))) (dIndex (dVar 5) (dVar 3)) (dC .none)))))
theorem rg_one (n : Nat) : rgD 1 n = (List.range' 1 n).map fun i : Nat => PyData.int (i : Nat) := by
  unfold rgD
  rw [List.range'_eq_map_range, List.map_map]
  exact List.map_congr_left fun i _ => by show PyData.int _ = PyData.int _; congr 1
theorem for_rgN {γ : DTG} {p : DTS} {Δ : DEnds} {N : Nat} (I : Nat → Env → Prop) : ∀ (n k : Nat) (ε : Env), k + n = N → I k ε →
    (∀ (k : Nat) (ε : Env) (D : Env → Prop), k < N → I k ε → (∀ ε', I (k + 1) ε' → D ε') → γ (.int (k : Nat)) ε fun ε1 => p { nx := D, rt := Δ.rt, bk := Δ.nx, ct := D } ε1) →
    (∀ ε', I N ε' → Δ.nx ε') → forD γ p Δ ((List.range' k n).map fun i : Nat => PyData.int (i : Nat)) ε
  | 0, k, ε, e, h, _, q => by
    have : k = N := by omega
    subst this
    exact q ε h
  | n + 1, k, ε, e, h, st, q => by
    rw [List.range'_succ, List.map_cons]
    exact for_cons (st k ε _ (by omega) h fun ε' h' => for_rgN I n (k + 1) ε' (by omega) h' st q)
theorem ft_end {d e : PyData} {ns ws : List Int} {x t : Int} (h2 : PyData.its e = some (dI ws)) (h3 : Stt ns) (h4 : Low ns.length ws) (h5 : ws.length < 64) (hx : Per ns x) {c : Nat} {Q : R → Nat → Prop} {nx : Env → Prop} (q : Q (.sh (ftR (sqF ns ws x) t)) c) {B : Nat} (hB : FirstS ns ws B) :
    ft_rest { nx := nx, rt := fun r ε => Q r ε.c } ⟨[.sh d, .sh e, .sh (.int x), .sh (.int t), .sh (.list (dT (alongR ns ws B))), .un, .un, .un], c⟩ := by
  have sB := rep_stt h3 h4 B
  have lB : Low (rep ns ws B).length ws := by rw [rep_len]; exact h4
  have pB : Per (rep ns ws B) x := ⟨hx.1, by rw [rep_len]; exact hx.2⟩
  have hle := h3.le
  have t1 := tp_pos (ws := ws) sB pB
  have t2 := tp_le (ws := ws) sB pB
  rw [rep_len] at t2
  have sq2 : ns.length * ns.length ≤ 1000 * 1000 := Nat.mul_le_mul hle hle
  have Bs := hB.2.2
  obtain ⟨q0, eq0⟩ := tp_mul (ns := rep ns ws B) (ws := ws) x
  have wh : Whole (sqF ns ws x) (B + tpF (rep ns ws B) ws x) := whole_of t1 fun k => seq_mul h3 h4 hB.1 hx eq0 k
  generalize hT : tpF (rep ns ws B) ws x = T at t1 t2 wh
  refine sq_ ?_
  rfl'
  refine lc_all (fun s : List Int => PyData.tuple (dI s)) (fun s : List Int => PyData.int (gt s x)) (alongR ns ws B) [] (fun s hs K hK => ?_) (by rw [along_lenR]; show 0 + _ ≤ _; omega) ?_
  · obtain ⟨k, hk, rfl⟩ := List.mem_map.mp hs
    rfl'
    refine ⟨_, atI_dI hx.1 (by rw [rep_len]; exact hx.2), ?_⟩
    exact hK _ _ rfl rfl
  rw [List.nil_append]
  have e1 : (alongR ns ws B).map (fun s : List Int => PyData.int (gt s x)) = dI ((List.range (B + 1)).map (sqF ns ws x)) := by
    unfold alongR
    show _ = List.map _ (List.map _ _)
    rw [List.map_map, List.map_map]; rfl
  rw [e1]
  rfl'
  refine sqa_ fun D hD => ?_
  rfl'
  refine ⟨_, atI_last (dT_lastR (along_last ns ws B)), ?_⟩
  rfl'
  refine ⟨_, e, rep ns ws B, ws, x, rfl, its_t _, h2, sB, pB, ?_⟩
  rw [hT]
  rfl'
  refine ⟨⟨by decide, by decide, by omega, by omega⟩, rfl, ?_⟩
  rw [show (((T : Nat) : Int) - 1).toNat = T - 1 by omega, rg_one]
  refine for_rgN (N := T) (fun k ε => ∃ y7, ε = ⟨[.sh d, .sh e, .sh (.int x), .sh (.int t), .sh (.list (dT (alongR ns ws B))), .ow (dI ((List.range (B + k)).map (sqF ns ws x))), .un, y7], c⟩) (T - 1) 1 _ (by omega) ⟨_, rfl⟩ ?_ ?_
  · rintro k _ E hk ⟨y7, rfl⟩ hE
    rfl'
    refine ⟨_, atI_last (dT_lastR (along_last ns ws B)), ?_⟩
    rfl'
    refine ⟨_, e, rep ns ws B, ws, x, ((k : Nat) : Int), rfl, its_t _, h2, sB, pB, by omega, by omega, by omega, ?_⟩
    rw [Int.toNat_natCast, ← rep_settled sB lB hB.1 k x pB, ← rep_add]
    rfl'
    refine ⟨show _ < 16777216 by rw [dI_len, List.length_map, List.length_range]; omega, ?_⟩
    rw [dI_snoc]
    rw [show (List.range (B + k)).map (sqF ns ws x) ++ [gt (rep ns ws (B + k)) x] = (List.range (B + (k + 1))).map (sqF ns ws x) by rw [← Nat.add_assoc, List.range_succ, List.map_append]; rfl]
    exact hE _ ⟨_, rfl⟩
  rintro _ ⟨y7, rfl⟩
  refine hD _ ?_
  rfl'
  refine φIn_dI (its_l _) ?_
  rfl'
  have ep := ft_prefix wh t
  refine it_2 (fun m => ?_) fun m => ?_
  · rw [intsD_dI]
    refine ⟨m, ?_⟩
    rw [if_pos m] at ep
    rw [ep]
    exact q
  · rw [if_neg m] at ep
    rw [ep]
    exact q
/-- first_time: state, word, person, target, along, pointers, reached, more -/
def b_first_time : DTS := (dSeq (dSetG false 4 (dCall p_states_until_settled (dCons (dVar 0) (dCons (dVar 1) dNil))))
  (dSeq (dDrop (dCall p_check_person (dCons (dVar 0) (dCons (dVar 2) dNil))))
  (dSeq (dDrop (dCall p_check_person (dCons (dVar 0) (dCons (dVar 3) dNil))))
  (dSeq (dSetG true 5 (dLc (dIter (dVar 4)) (dName 6) dYes (dOp φIx (dVar 6) (dVar 2)) [6]))
  (dSeq (dFor (dRng2 (dCons (dC (.int 1)) (dCons (dCall p_turn_period (dCons (dOp φIx (dVar 4) (dUn φNeg (dC (.int 1)))) (dCons (dVar 1) (dCons (dVar 2) dNil)))) dNil))) (dName 7) (dAppend 5 (dCall p_pointer_later (dCons (dOp φIx (dVar 4) (dUn φNeg (dC (.int 1)))) (dCons (dVar 1) (dCons (dVar 2) (dCons (dVar 7) dNil)))))))
  (dRet (dIf (dTest (dOp (φIn false) (dVar 3) (dVar 5))) (dIndex (dVar 5) (dVar 3)) (dC .none))))))))
abbrev k_first_time : Nat := 4
def p_first_time : DSp := fun args c Q => ∃ (d e : PyData) (ns ws : List Int) (x t : Int), args = [.sh d, .sh e, .sh (.int x), .sh (.int t)] ∧ PyData.its d = some (dI ns) ∧ PyData.its e = some (dI ws) ∧ Stt ns ∧ Low ns.length ws ∧ ws.length < 64 ∧ Per ns x ∧ Per ns t ∧ Q (.sh (ftR (sqF ns ws x) t)) c
theorem mon_first_time : MonF p_first_time := fun args c A B h ⟨d, e, ns, ws, x, t, ea, h1, h2, h3, h4, h5, h6, h7, q⟩ => ⟨d, e, ns, ws, x, t, ea, h1, h2, h3, h4, h5, h6, h7, h _ _ q⟩
theorem m_first_time : ∀ args c Q, p_first_time args c Q → defF k_first_time b_first_time args c Q := by
  rintro _ c Q ⟨d, e, ns, ws, x, t, rfl, h1, h2, h3, h4, h5, h6, h7, q⟩
  show b_first_time _ ⟨[.sh d, .sh e, .sh (.int x), .sh (.int t), .un, .un, .un, .un], c⟩
  unfold b_first_time
  refine sq_ ?_
  rfl'
  refine ⟨d, e, ns, ws, rfl, h1, h2, h3, h4, h5, fun B hB => ?_⟩
  rfl'
  refine sq_ ?_
  rfl'
  refine c_check h1 h6 ?_
  refine sq_ ?_
  rfl'
  refine c_check h1 h7 ?_
  exact ft_end h2 h3 h4 h5 h6 q hB
end Lp

namespace Lp
open PySem PySem.Spec PyProof.Rows L2
local macro_rules | `(tactic| rfl') => `(tactic| try dsimp only [dVar_, gv_sh, gv_ow, gv_bx, gv_raw, gv_exn, gv_st, dC, dRaw, dOp, dUn, dTest, dTruth, dAnd, dOr, dNot, dYes, dIf, dAndV, dOrV, dNotV, dNotT, dChain, dNil, dCons, dTup, dLst, dats, dCB, dNoP, dPart, dSl, dNext, dBreak, dCont, dNever, dDrop, dRet, dRetN, dIfS, dSetG, dPar, dPar3, dAppend, dAppPop, dSetIx, dExt, dAug, dSet0, dSAdd, dSNotIn, dIter_, gi_l, gi_t, gi_b, dRng1, dRng2, dName, dGNil, dGCons, dGTup, dAsg, dFor, dWhile, dCall, dCallR, dArgs_, ga_f, ga_t, argsOf, dLc, wipeE, dListRg, dIndex, dSortSet, dSortSc, dEnum, dEnA, dZip, dIsi, dIsi2, isaT, φI, φB, φC, φNeg, add_i, add_l, add_t, mul_i, mul_l, φIx, sl_l, sl_t, eq_i, eq_s, eq_l, eq_t, eq_b, eq_n, φIsN, isN_n, isN_b, isN_i, isN_s, isN_l, isN_t, φLen, φList, φTuple, φAbs, φInt, φMax, φIsB, φIsNB, its_l, its_t, rd_sh, rd_nw, rd_br, rp_sh, rp_nw, rp_br, rp_bx, rp_raw, rp_sr, rr_sh, rr_nw, rr_br, ra_sh, ra_br, ra_bx, ra_raw, va_sh, va_nt, va_nf, va_raw, hb_n, hb_sh, hb_bx, hb_raw, hb_br, sh_n, sh_c, tr_n, tr_b, tr_i, tr_l, tr_t, ty_n, ty_b, ty_i, ty_s, ty_l, ty_t, if_ff, if_tt, Env.set, List.getElem?_cons_succ, List.getElem?_cons_zero, List.set_cons_succ, List.set_cons_zero, List.reverse_cons, List.reverse_nil, List.nil_append, List.cons_append, Option.bind_some, ite_true, ite_false, dCallX, dArgsX_, gx_s, dRaise, dIsX, dAttr, dIsNE, dCount, dSortSetA])
def lcT (s ws : List Int) : Nat → Nat
  | 0 => 1
  | k + 1 => Nat.lcm (lcT s ws k) (tpF s ws (k : Nat))
abbrev lcF (s ws : List Int) : Nat := lcT s ws s.length
theorem lcT_pos {s ws : List Int} (h : Stt s) : ∀ k, k ≤ s.length → 1 ≤ lcT s ws k
  | 0, _ => Nat.le_refl _
  | k + 1, hk => Nat.lcm_pos (lcT_pos h k (by omega)) (tp_pos h (per_nat (by omega)))
theorem lcT_le {s ws : List Int} (h : Stt s) (n : s.length ≤ 64) : ∀ k, k ≤ s.length → lcT s ws k ≤ 2 ^ (6 * k)
  | 0, _ => Nat.le_refl _
  | k + 1, hk => by
    have h1 := lcT_le (ws := ws) h n k (by omega)
    have h2 := tp_le (ws := ws) h (per_nat (ns := s) (j := k) (by omega))
    have h3 := Nat.mul_le_mul h1 (Nat.le_trans h2 n)
    have h4 : Nat.lcm (lcT s ws k) (tpF s ws (k : Nat)) ≤ lcT s ws k * tpF s ws (k : Nat) := Nat.le_of_dvd (Nat.mul_pos (lcT_pos h k (by omega)) (tp_pos h (per_nat (by omega)))) (Nat.lcm_dvd (Nat.dvd_mul_right _ _) (Nat.dvd_mul_left _ _))
    show Nat.lcm _ _ ≤ _
    rw [show 6 * (k + 1) = 6 * k + 6 by omega, Nat.pow_add]
    exact Nat.le_trans h4 h3
theorem log_lt {n m : Nat} (h : n ≤ 2 ^ m) : n.log2 < m + 1 := by
  rcases Nat.eq_zero_or_pos n with z | z
  · subst z
    show Nat.log2 0 < _
    rw [Nat.log2_zero]; omega
  · exact (Nat.log2_lt (by omega)).mpr (Nat.lt_of_le_of_lt h (Nat.pow_lt_pow_right (by decide) (by omega)))
/-- settles: state, word, along, period, person, own -/
def b_settles : DTS := (dSeq (dSetG false 2 (dCall p_states_until_settled (dCons (dVar 0) (dCons (dVar 1) dNil))))
  (dSeq (dSetG false 3 (dC (.int 1)))
  (dSeq (dFor (dRng1 (dCons (dCB φLen (dCons (dVar 0) dNil)) dNil)) (dName 4) (dSeq (dSetG false 5 (dCall p_turn_period (dCons (dOp φIx (dVar 2) (dUn φNeg (dC (.int 1)))) (dCons (dVar 1) (dCons (dVar 4) dNil)))))
  (dSetG false 3 (dOp (φC CDivW fun i j => i / j) (dOp φMul (dVar 3) (dVar 5)) (dCall p_common_divisor (dCons (dVar 3) (dCons (dVar 5) dNil)))))))
  (dRet (dTup (dCons (dOp (φI fun i j => i - j) (dCB φLen (dCons (dVar 2) dNil)) (dC (.int 1))) (dCons (dVar 3) dNil)))))))
abbrev k_settles : Nat := 4
def p_settles : DSp := fun args c Q => ∃ (d e : PyData) (ns ws : List Int) (B : Nat), args = [.sh d, .sh e] ∧ PyData.its d = some (dI ns) ∧ PyData.its e = some (dI ws) ∧ Stt ns ∧ Low ns.length ws ∧ ws.length < 64 ∧ ns.length ≤ 64 ∧ FirstS ns ws B ∧ Q (.sh (.tuple [.int (B : Nat), .int (lcF (rep ns ws B) ws : Nat)])) c
theorem mon_settles : MonF p_settles := fun args c A B h ⟨d, e, ns, ws, b, ea, h1, h2, h3, h4, h5, h6, h7, q⟩ => ⟨d, e, ns, ws, b, ea, h1, h2, h3, h4, h5, h6, h7, h _ _ q⟩
theorem FirstS.uniq {ns ws : List Int} {a b : Nat} (ha : FirstS ns ws a) (hb : FirstS ns ws b) : a = b := by
  rcases Nat.lt_trichotomy a b with z | z | z
  · exact absurd ha.1 (hb.2.1 a z)
  · exact z
  · exact absurd hb.1 (ha.2.1 b z)
theorem m_settles : ∀ args c Q, p_settles args c Q → defF k_settles b_settles args c Q := by
  rintro _ c Q ⟨d, e, ns, ws, B, rfl, h1, h2, h3, h4, h5, h6, hB, q⟩
  show b_settles _ ⟨[.sh d, .sh e, .un, .un, .un, .un], c⟩
  unfold b_settles
  have sB := rep_stt h3 h4 B
  have lB : (rep ns ws B).length = ns.length := rep_len _ _ _
  have dl : (dT (alongR ns ws B)).length = B + 1 := by show (List.map _ _).length = _; rw [List.length_map, along_lenR]
  refine sq_ ?_
  rfl'
  refine ⟨d, e, ns, ws, rfl, h1, h2, h3, h4, h5, fun B' hB' => ?_⟩
  obtain rfl := hB.uniq hB'
  rfl'
  refine sq_ ?_
  rfl'
  refine sqa_ fun D hD => ?_
  rfl'
  rw [h1]
  rfl'
  rw [dI_len]
  refine ⟨⟨by omega, by omega⟩, rfl, ?_⟩
  rw [Int.toNat_natCast, rg0, List.range_eq_range']
  refine for_rgN (N := ns.length) (fun k ε => ∃ y4 y5, ε = ⟨[.sh d, .sh e, .sh (.list (dT (alongR ns ws B))), .sh (.int (lcT (rep ns ws B) ws k : Nat)), y4, y5], c⟩) ns.length 0 _ (by omega) ⟨_, _, rfl⟩ ?_ ?_
  · rintro k _ E hk ⟨y4, y5, rfl⟩ hE
    have pB : Per (rep ns ws B) (k : Int) := per_nat (by omega)
    have l1 := lcT_pos (ws := ws) sB k (by omega)
    have l2 := lcT_le (ws := ws) sB (by omega) k (by omega)
    have t1 := tp_pos (ws := ws) sB pB
    have t2 := tp_le (ws := ws) sB pB
    rfl'
    refine sq_ ?_
    rfl'
    refine ⟨_, atI_last (dT_lastR (along_last ns ws B)), ?_⟩
    rfl'
    refine ⟨_, e, rep ns ws B, ws, _, rfl, its_t _, h2, sB, pB, ?_⟩
    rfl'
    have eS : lcT (rep ns ws B) ws (k + 1) = lcT (rep ns ws B) ws k * tpF (rep ns ws B) ws (k : Nat) / Nat.gcd (lcT (rep ns ws B) ws k) (tpF (rep ns ws B) ws (k : Nat)) := rfl
    have g1 : 1 ≤ Nat.gcd (lcT (rep ns ws B) ws k) (tpF (rep ns ws B) ws (k : Nat)) := Nat.gcd_pos_of_pos_left _ (by omega)
    have g2 : Nat.gcd (lcT (rep ns ws B) ws k) (tpF (rep ns ws B) ws (k : Nat)) ≤ tpF (rep ns ws B) ws (k : Nat) := Nat.le_of_dvd (by omega) (Nat.gcd_dvd_right _ _)
    refine ⟨?_, ?_⟩
    · show Nat.log2 _ + Nat.log2 _ < 1000000
      rw [Int.natAbs_natCast, Int.natAbs_natCast]
      have z1 := log_lt l2
      have z2 := log_lt (n := tpF (rep ns ws B) ws (k : Nat)) (m := 6) (by omega)
      omega
    refine ⟨_, _, rfl, ?_⟩
    rfl'
    refine ⟨⟨by omega, ?_⟩, ?_⟩
    · rw [Int.natAbs_natCast]
      have z2 := log_lt (n := Nat.gcd (lcT (rep ns ws B) ws k) (tpF (rep ns ws B) ws (k : Nat))) (m := 6) (by omega)
      omega
    · rw [← Int.natCast_mul, ← Int.natCast_ediv]
      exact hE _ ⟨_, _, rfl⟩
  rintro _ ⟨y4, y5, rfl⟩
  refine hD _ ?_
  rfl'
  rw [dl]
  rw [show (((B + 1 : Nat) : Int) - 1) = (B : Nat) by omega]
  rw [show lcF (rep ns ws B) ws = lcT (rep ns ws B) ws ns.length by show lcT _ _ _ = _; rw [lB]] at q
  exact q
def trF (s ws : List Int) : List Int := ((List.range s.length).filter fun i : Nat => decide (1 < tpF s ws (i : Nat))).map fun i : Nat => (i : Int)
/-- turning: state, word, settled, person -/
def b_turning : DTS := (dSeq (dSetG false 2 (dOp φIx (dCall p_states_until_settled (dCons (dVar 0) (dCons (dVar 1) dNil))) (dUn φNeg (dC (.int 1)))))
  (dRet (dLc (dRng1 (dCons (dCB φLen (dCons (dVar 0) dNil)) dNil)) (dName 3) (dTest (dOp (φB fun i j => decide (j < i)) (dCall p_turn_period (dCons (dVar 2) (dCons (dVar 1) (dCons (dVar 3) dNil)))) (dC (.int 1)))) (dVar 3) [3])))
abbrev k_turning : Nat := 2
def p_turning : DSp := fun args c Q => ∃ (d e : PyData) (ns ws : List Int) (B : Nat), args = [.sh d, .sh e] ∧ PyData.its d = some (dI ns) ∧ PyData.its e = some (dI ws) ∧ Stt ns ∧ Low ns.length ws ∧ ws.length < 64 ∧ FirstS ns ws B ∧ Q (.nw (dI (trF (rep ns ws B) ws))) c
theorem mon_turning : MonF p_turning := fun args c A B h ⟨d, e, ns, ws, b, ea, h1, h2, h3, h4, h5, h7, q⟩ => ⟨d, e, ns, ws, b, ea, h1, h2, h3, h4, h5, h7, h _ _ q⟩
theorem m_turning : ∀ args c Q, p_turning args c Q → defF k_turning b_turning args c Q := by
  rintro _ c Q ⟨d, e, ns, ws, B, rfl, h1, h2, h3, h4, h5, hB, q⟩
  show b_turning _ ⟨[.sh d, .sh e, .un, .un], c⟩
  unfold b_turning
  have sB := rep_stt h3 h4 B
  have hle := h3.le
  have lB : (rep ns ws B).length = ns.length := rep_len _ _ _
  refine sq_ ?_
  rfl'
  refine ⟨d, e, ns, ws, rfl, h1, h2, h3, h4, h5, fun B' hB' => ?_⟩
  obtain rfl := hB.uniq hB'
  rfl'
  refine ⟨_, atI_last (dT_lastR (along_last ns ws B)), ?_⟩
  rfl'
  rw [h1]
  rfl'
  rw [dI_len]
  refine ⟨⟨by omega, by omega⟩, ?_⟩
  rw [Int.toNat_natCast, rg0]
  refine lc_if (fun i : Nat => PyData.int (i : Nat)) (fun i : Nat => PyData.int (i : Nat)) (fun i : Nat => decide (1 < tpF (rep ns ws B) ws (i : Nat))) (List.range ns.length) [] (fun i hi Y N hY hN => ?_) (by rw [List.length_range]; show 0 + _ ≤ _; omega) ?_
  · have pB : Per (rep ns ws B) (i : Int) := per_nat (by rw [lB]; exact List.mem_range.mp hi)
    rfl'
    refine ⟨_, e, rep ns ws B, ws, _, rfl, its_t _, h2, sB, pB, ?_⟩
    rfl'
    refine it_2 (fun g => ?_) fun g => ?_
    · exact hY (decide_eq_true (by omega)) _ _ rfl rfl
    · exact hN (decide_eq_false (by omega)) _ rfl
  rw [List.nil_append]
  have e1 : ((List.range ns.length).filter fun i : Nat => decide (1 < tpF (rep ns ws B) ws (i : Nat))).map (fun i : Nat => PyData.int (i : Nat)) = dI (trF (rep ns ws B) ws) := by
    unfold trF
    rw [lB]
    show _ = List.map _ (List.map _ _)
    rw [List.map_map]; rfl
  rw [e1]
  exact q
end Lp

namespace Lp
open PySem PySem.Spec PyProof.Rows L2
local macro_rules | `(tactic| rfl') => `(tactic| try dsimp only [dVar_, gv_sh, gv_ow, gv_bx, gv_raw, gv_st, dC, dRaw, dOp, dUn, dTest, dTruth, dAnd, dOr, dNot, dYes, dIf, dAndV, dOrV, dNotV, dNotT, dChain, dNil, dCons, dTup, dLst, dats, dCB, dNoP, dPart, dSl, dNext, dBreak, dCont, dNever, dDrop, dRet, dRetN, dIfS, dSetG, dPar, dPar3, dAppend, dAppPop, dSetIx, dExt, dAug, dSet0, dSAdd, dSNotIn, dIter_, gi_l, gi_t, gi_b, dRng1, dRng2, dName, dGNil, dGCons, dGTup, dAsg, dFor, dWhile, dCall, dCallR, dArgs_, ga_f, ga_t, argsOf, dLc, wipeE, dListRg, dIndex, dSortSet, dSortSc, dEnum, dEnA, dZip, dIsi, dIsi2, isaT, φI, φB, φC, φNeg, add_i, add_l, add_t, mul_i, mul_l, φIx, sl_l, sl_t, eq_i, eq_s, eq_l, eq_t, eq_b, eq_n, φIsN, isN_n, isN_b, isN_i, isN_s, isN_l, isN_t, φLen, φList, φTuple, φAbs, φInt, φMax, φIsB, φIsNB, its_l, its_t, rd_sh, rd_nw, rd_br, rp_sh, rp_nw, rp_br, rp_bx, rp_raw, rp_sr, rr_sh, rr_nw, rr_br, ra_sh, ra_br, ra_bx, ra_raw, va_sh, va_nt, va_nf, va_raw, hb_n, hb_sh, hb_bx, hb_raw, hb_br, sh_n, sh_c, tr_n, tr_b, tr_i, tr_l, tr_t, ty_n, ty_b, ty_i, ty_s, ty_l, ty_t, if_ff, if_tt, Env.set, List.getElem?_cons_succ, List.getElem?_cons_zero, List.set_cons_succ, List.set_cons_zero, List.reverse_cons, List.reverse_nil, List.nil_append, List.cons_append, Option.bind_some, ite_true, ite_false])
/-- new numbers for n people -/
structure Tags (n : Nat) (ts : List Int) : Prop where
  len : ts.length = n
  nd : ts.Nodup
  lo : Low n ts
theorem Tags.per {n : Nat} {ts : List Int} (T : Tags n ts) {x : Int} (x0 : 0 ≤ x) (x1 : x < (n : Int)) : 0 ≤ gt ts x ∧ gt ts x < (n : Int) := gt_low T.lo x0 (by rw [T.len]; exact x1)
theorem Tags.inj {n : Nat} {ts : List Int} (T : Tags n ts) {x y : Int} (x0 : 0 ≤ x) (x1 : x < (n : Int)) (y0 : 0 ≤ y) (y1 : y < (n : Int)) (e : gt ts x = gt ts y) : x = y := by
  have h1 := gt_get (ns := ts) x0 (by rw [T.len]; exact x1)
  have h2 := gt_get (ns := ts) y0 (by rw [T.len]; exact y1)
  rw [e] at h1
  have := nd_ix T.nd h1 h2
  omega
/-- everybody has the number of somebody -/
theorem Tags.onto {n : Nat} {ts : List Int} (T : Tags n ts) {y : Int} (y0 : 0 ≤ y) (y1 : y < (n : Int)) : ∃ x, 0 ≤ x ∧ x < (n : Int) ∧ gt ts x = y := by
  have key : ∀ j : Nat, j < n → (j : Int) ∈ ts := by
    intro j hj
    by_cases q : (j : Int) ∈ ts
    · exact q
    · exfalso
      have h2 := nd_subG ts (((List.range n).map fun i : Nat => (i : Int)).erase (j : Int)) T.nd fun z hz => by
        have nd : ((List.range n).map fun i : Nat => (i : Int)).Nodup := List.pairwise_map.mpr (List.nodup_range.imp fun {a b} hab e => hab (by omega))
        rw [nd.mem_erase_iff]
        refine ⟨fun e => q (by rw [← e]; exact hz), List.mem_map.mpr ⟨z.toNat, List.mem_range.mpr ?_, ?_⟩⟩
        · have := T.lo z hz; omega
        · have := T.lo z hz; omega
      rw [List.length_erase_of_mem (List.mem_map.mpr ⟨j, List.mem_range.mpr hj, rfl⟩), List.length_map, List.length_range, T.len] at h2
      omega
  have hm := key y.toNat (by omega)
  rw [show ((y.toNat : Nat) : Int) = y by omega] at hm
  obtain ⟨i, hi, e⟩ := List.mem_iff_getElem.mp hm
  exact ⟨i, Int.natCast_nonneg i, by rw [← T.len]; omega, by rw [gt_nat hi]; exact e⟩
/-- a state and the state with other numbers -/
structure Ren (ts a r : List Int) : Prop where
  T : Tags a.length ts
  len : r.length = a.length
  to : ∀ x, Per a x → gt r (gt ts x) = gt ts (gt a x)
section
variable {ts a r : List Int} (h : Stt a) (R : Ren ts a r)
include h R
theorem Ren.tp {x : Int} (hx : Per a x) : Per r (gt ts x) := by
  have := R.T.per hx.1 hx.2
  exact ⟨this.1, by rw [R.len]; exact this.2⟩
theorem Ren.onto {y : Int} (hy : Per r y) : ∃ x, Per a x ∧ gt ts x = y := by
  obtain ⟨x, x0, x1, e⟩ := R.T.onto hy.1 (by rw [← R.len]; exact hy.2)
  exact ⟨x, ⟨x0, x1⟩, e⟩
theorem Ren.inj {x y : Int} (hx : Per a x) (hy : Per a y) (e : gt ts x = gt ts y) : x = y := R.T.inj hx.1 hx.2 hy.1 hy.2 e
theorem Ren.stt : Stt r := by
  refine ⟨fun z hz => ?_, by rw [R.len]; exact h.le, by rw [R.len]; exact h.ge⟩
  obtain ⟨i, hi, rfl⟩ := List.mem_iff_getElem.mp hz
  obtain ⟨x, px, e⟩ := Ren.onto h R (per_nat hi)
  rw [← gt_nat hi, ← e, R.to x px]
  exact Ren.tp h R (h.gt px)
theorem Ren.wk {x : Int} (hx : Per a x) : ∀ k, itr r (gt ts x) k = gt ts (itr a x k)
  | 0 => rfl
  | k + 1 => by
    show gt r (itr r (gt ts x) k) = gt ts (gt a (itr a x k))
    rw [Ren.wk hx k, R.to _ (itr_low h.lo hx.1 hx.2 k)]
theorem Ren.ws {x : Int} (hx : Per a x) (c : Nat) : itrs r (gt ts x) c = (itrs a x c).map (gt ts) := by
  unfold itrs
  rw [List.map_map]
  exact List.map_congr_left fun k _ => Ren.wk h R hx k
theorem Ren.nodup {l : List Int} (hl : ∀ z ∈ l, Per a z) : (l.map (gt ts)).Nodup ↔ l.Nodup := by
  constructor
  · intro q
    exact (List.pairwise_map.mp q).imp fun {x y} hab e => hab (by rw [e])
  · intro q
    exact List.pairwise_map.mpr (List.Pairwise.imp_of_mem (fun {x y} hx hy hab e => hab (Ren.inj h R (hl x hx) (hl y hy) e)) q)
theorem Ren.mem {l : List Int} (hl : ∀ z ∈ l, Per a z) {x : Int} (hx : Per a x) : gt ts x ∈ l.map (gt ts) ↔ x ∈ l := by
  rw [List.mem_map]
  constructor
  · rintro ⟨z, hz, e⟩
    rw [← Ren.inj h R (hl z hz) hx e]; exact hz
  · intro q; exact ⟨x, q, rfl⟩
theorem Ren.low {x : Int} (hx : Per a x) (c : Nat) : ∀ z ∈ itrs a x c, Per a z := fun z hz => by
  obtain ⟨i, _, rfl⟩ := itrs_mem.mp hz
  exact itr_low h.lo hx.1 hx.2 i
theorem Ren.cyc {x : Int} (hx : Per a x) {c : Nat} : Cyc r (gt ts x) c ↔ Cyc a x c := by
  have e1 := Ren.wk h R hx c
  have e2 := Ren.ws h R hx c
  have lo := Ren.low h R hx c
  constructor
  · rintro ⟨h0, h1, h2⟩
    rw [e1] at h1
    rw [e2] at h2
    exact ⟨h0, Ren.inj h R (itr_low h.lo hx.1 hx.2 c) hx h1, (Ren.nodup h R lo).mp h2⟩
  · rintro ⟨h0, h1, h2⟩
    exact ⟨h0, by rw [e1, h1], by rw [e2]; exact (Ren.nodup h R lo).mpr h2⟩
end
end Lp

namespace Lp
open PySem PySem.Spec PyProof.Rows L2
local macro_rules | `(tactic| rfl') => `(tactic| try dsimp only [dVar_, gv_sh, gv_ow, gv_bx, gv_raw, gv_exn, gv_st, dC, dRaw, dOp, dUn, dTest, dTruth, dAnd, dOr, dNot, dYes, dIf, dAndV, dOrV, dNotV, dNotT, dChain, dNil, dCons, dTup, dLst, dats, dCB, dNoP, dPart, dSl, dNext, dBreak, dCont, dNever, dDrop, dRet, dRetN, dIfS, dSetG, dPar, dPar3, dAppend, dAppPop, dSetIx, dExt, dAug, dSet0, dSAdd, dSNotIn, dIter_, gi_l, gi_t, gi_b, dRng1, dRng2, dName, dGNil, dGCons, dGTup, dAsg, dFor, dWhile, dCall, dCallR, dArgs_, ga_f, ga_t, argsOf, dLc, wipeE, dListRg, dIndex, dSortSet, dSortSc, dEnum, dEnA, dZip, dIsi, dIsi2, isaT, φI, φB, φC, φNeg, add_i, add_l, add_t, mul_i, mul_l, φIx, sl_l, sl_t, eq_i, eq_s, eq_l, eq_t, eq_b, eq_n, φIsN, isN_n, isN_b, isN_i, isN_s, isN_l, isN_t, φLen, φList, φTuple, φAbs, φInt, φMax, φIsB, φIsNB, its_l, its_t, rd_sh, rd_nw, rd_br, rp_sh, rp_nw, rp_br, rp_bx, rp_raw, rp_sr, rr_sh, rr_nw, rr_br, ra_sh, ra_br, ra_bx, ra_raw, va_sh, va_nt, va_nf, va_raw, hb_n, hb_sh, hb_bx, hb_raw, hb_br, sh_n, sh_c, tr_n, tr_b, tr_i, tr_l, tr_t, ty_n, ty_b, ty_i, ty_s, ty_l, ty_t, if_ff, if_tt, Env.set, List.getElem?_cons_succ, List.getElem?_cons_zero, List.set_cons_succ, List.set_cons_zero, List.reverse_cons, List.reverse_nil, List.nil_append, List.cons_append, Option.bind_some, ite_true, ite_false])
structure Emb (a r : List Int) (f : Int → Int) : Prop where
  ha : Stt a
  hr : Stt r
  per : ∀ x, Per a x → Per r (f x)
  inj : ∀ x y, Per a x → Per a y → f x = f y → x = y
  step : ∀ x, Per a x → gt r (f x) = f (gt a x)
theorem itr_per {a : List Int} (h : Stt a) {x : Int} (hx : Per a x) (k : Nat) : Per a (itr a x k) := itr_low h.lo hx.1 hx.2 k
section
variable {a r : List Int} {f : Int → Int} (E : Emb a r f)
include E
theorem Emb.walk {x : Int} (hx : Per a x) : ∀ k, itr r (f x) k = f (itr a x k)
  | 0 => rfl
  | k + 1 => by
    show gt r (itr r (f x) k) = f (gt a (itr a x k))
    rw [Emb.walk hx k, E.step _ (itr_per E.ha hx k)]
theorem Emb.walks {x : Int} (hx : Per a x) (c : Nat) : itrs r (f x) c = (itrs a x c).map f := by
  unfold itrs
  rw [List.map_map]
  exact List.map_congr_left fun k _ => E.walk hx k
theorem Emb.cyc {x : Int} (hx : Per a x) {c : Nat} : Cyc r (f x) c ↔ Cyc a x c := by
  unfold Cyc
  rw [E.walk hx, E.walks hx]
  have e1 : f (itr a x c) = f x ↔ itr a x c = x := ⟨E.inj _ _ (itr_per E.ha hx c) hx, fun z => by rw [z]⟩
  have e2 : ((itrs a x c).map f).Nodup ↔ (itrs a x c).Nodup := by
    unfold List.Nodup
    rw [List.pairwise_map]
    constructor
    · exact fun z => z.imp fun {u v} n e => n (by rw [e])
    · intro z
      refine List.Pairwise.imp_of_mem ?_ z
      intro u v hu hv n e
      exact n (E.inj u v (cyc_per E.ha hx hu) (cyc_per E.ha hx hv) e)
  rw [e1, e2]
theorem Emb.set {x : Int} (hx : Per a x) : SetP r (f x) ↔ SetP a x := by
  unfold SetP
  have pg := E.ha.gt hx
  have e1 : gt r (f x) = f x ↔ gt a x = x := by
    rw [E.step x hx]
    exact ⟨E.inj _ _ pg hx, fun z => by rw [z]⟩
  have e2 : heightF r (f x) = 1 ↔ heightF a x = 1 := by
    rw [high_one E.hr (E.per x hx), high_one E.ha hx, E.step x hx]
    constructor
    · rintro ⟨n, c, cy⟩
      exact ⟨fun ⟨d, z⟩ => n ⟨d, (E.cyc hx).mpr z⟩, c, (E.cyc pg).mp cy⟩
    · rintro ⟨n, c, cy⟩
      exact ⟨fun ⟨d, z⟩ => n ⟨d, (E.cyc hx).mp z⟩, c, (E.cyc pg).mpr cy⟩
  rw [e1, e2]
theorem Emb.call {w : Int} (hw : Per a w) : Emb (call1 a w) (call1 r (f w)) f where
  ha := call_sttR E.ha hw
  hr := call_sttR E.hr (E.per w hw)
  per := fun x hx => by
    have := E.per x ⟨hx.1, by have := hx.2; rw [call1_len] at this; exact this⟩
    exact ⟨this.1, by rw [call1_len]; exact this.2⟩
  inj := fun x y hx hy e => E.inj x y ⟨hx.1, by have := hx.2; rw [call1_len] at this; exact this⟩ ⟨hy.1, by have := hy.2; rw [call1_len] at this; exact this⟩ e
  step := fun x hx => by
    have hx2 : Per a x := ⟨hx.1, by have := hx.2; rw [call1_len] at this; exact this⟩
    by_cases z : x = w
    · rw [z, gt_call_eq hw, gt_call_eq (E.per w hw), E.step w hw, E.step _ (E.ha.gt hw)]
    · rw [gt_call_ne hw hx2 z, gt_call_ne (E.per w hw) (E.per x hx2) (fun e => z (E.inj _ _ hx2 hw e)), E.step x hx2]
end
theorem tp_zero {s ws : List Int} (h : Stt s) {x : Int} (hx : Per s x) (e : ws.count x = 0) : tpF s ws x = 1 := by
  unfold tpF
  rw [e, Nat.gcd_zero_right]
  exact Nat.div_self (ring_pos h hx).1
theorem tp_cyc {s ws : List Int} (h : Stt s) {x : Int} (hx : Per s x) {c : Nat} (cy : Cyc s (gt s x) c) : tpF s ws x = c / Nat.gcd c (ws.count x) := by
  unfold tpF
  rw [ring_lenC h hx cy]
theorem set_cyc {s : List Int} (h : Stt s) {x : Int} (hx : Per s x) (st : SetP s x) : ∃ c, Cyc s (gt s x) c := by
  rcases st with z | z
  · rw [z]
    exact ⟨1, by decide, z, List.pairwise_singleton _ _⟩
  · exact ((high_one h hx).mp z).2
theorem Emb.tp {a r : List Int} {f : Int → Int} (E : Emb a r f) {ws W : List Int} (st : Settled a ws) {x : Int} (hx : Per a x) (e : W.count (f x) = ws.count x) : tpF r W (f x) = tpF a ws x := by
  by_cases m : x ∈ ws
  · obtain ⟨c, cy⟩ := set_cyc E.ha hx (st x m)
    have cy2 := (E.cyc (E.ha.gt hx)).mpr cy
    rw [← E.step x hx] at cy2
    rw [tp_cyc E.ha hx cy, tp_cyc E.hr (E.per x hx) cy2, e]
  · have z := List.count_eq_zero.mpr m
    rw [tp_zero E.ha hx z, tp_zero E.hr (E.per x hx) (by rw [e, z])]
theorem gt_left {a b : List Int} {x : Int} (hx : Per a x) : gt (a ++ b) x = gt a x := by
  obtain ⟨i, rfl⟩ : ∃ i : Nat, x = i := ⟨x.toNat, by have := hx.1; omega⟩
  have hi : i < a.length := by have := hx.2; omega
  rw [gt_nat hi, gt_nat (by rw [List.length_append]; omega), List.getElem_append_left hi]
section
variable {a b ws vs : List Int} (ha : Stt a) (hb : Stt b) (le : a.length + b.length ≤ 1000) (la : Low a.length ws) (lb : Low b.length vs)
include ha hb le la lb
end
end Lp

namespace Lp
open PySem PySem.Spec PyProof.Rows L2
local macro_rules | `(tactic| rfl') => `(tactic| try dsimp only [dVar_, gv_sh, gv_ow, gv_bx, gv_raw, gv_st, dC, dRaw, dOp, dUn, dTest, dTruth, dAnd, dOr, dNot, dYes, dIf, dAndV, dOrV, dNotV, dNotT, dChain, dNil, dCons, dTup, dLst, dats, dCB, dNoP, dPart, dSl, dNext, dBreak, dCont, dNever, dDrop, dRet, dRetN, dIfS, dSetG, dPar, dPar3, dAppend, dAppPop, dSetIx, dExt, dAug, dSet0, dSAdd, dSNotIn, dIter_, gi_l, gi_t, gi_b, dRng1, dRng2, dName, dGNil, dGCons, dGTup, dAsg, dFor, dWhile, dCall, dCallR, dArgs_, ga_f, ga_t, argsOf, dLc, wipeE, dListRg, dIndex, dSortSet, dSortSc, dEnum, dEnA, dZip, dIsi, dIsi2, isaT, φI, φB, φC, φNeg, add_i, add_l, add_t, mul_i, mul_l, φIx, sl_l, sl_t, eq_i, eq_s, eq_l, eq_t, eq_b, eq_n, φIsN, isN_n, isN_b, isN_i, isN_s, isN_l, isN_t, φLen, φList, φTuple, φAbs, φInt, φMax, φIsB, φIsNB, its_l, its_t, rd_sh, rd_nw, rd_br, rp_sh, rp_nw, rp_br, rp_bx, rp_raw, rp_sr, rr_sh, rr_nw, rr_br, ra_sh, ra_br, ra_bx, ra_raw, va_sh, va_nt, va_nf, va_raw, hb_n, hb_sh, hb_bx, hb_raw, hb_br, sh_n, sh_c, tr_n, tr_b, tr_i, tr_l, tr_t, ty_n, ty_b, ty_i, ty_s, ty_l, ty_t, if_ff, if_tt, Env.set, List.getElem?_cons_succ, List.getElem?_cons_zero, List.set_cons_succ, List.set_cons_zero, List.reverse_cons, List.reverse_nil, List.nil_append, List.cons_append, Option.bind_some, ite_true, ite_false])
/-- all but b stand as they stood -/
def Sb (b : Addr) (H H' : Hp) : Prop := ∀ a o, a ≠ b → H a = some o → H' a = some o
theorem Sb.refl (b : Addr) (H : Hp) : Sb b H H := fun _ _ _ h => h
theorem Sb.trans {b : Addr} {H H1 H2 : Hp} (x : Sb b H H1) (y : Sb b H1 H2) : Sb b H H2 := fun a o n h => y a o n (x a o n h)
theorem Sb.upd {b : Addr} {H H1 : Hp} {o : HO} (x : Sb b H H1) : Sb b H (upd H1 b o) := fun a u n h => by
  rw [upd_ne n]; exact x a u n h
theorem same_new {H : Hp} {p : Addr} {o : HO} (h : H p = none) : Same H (upd H p o) := fun a u e => by
  rw [upd_ne (ne_of_none e h)]; exact e
def spTake : Sp := fun vs H Q _ => ∃ (b : Addr) (span : Int) (c : Nat), vs = [.ref b, .int span] ∧ Box H b c ∧ c ≤ 1000000000 ∧ 1 ≤ span ∧ span ≤ 10000000 ∧
  ∀ H' (r : Int), Sb b H H' → Box H' b (c + 1) → 0 ≤ r → r < span → Q (.int r) H'
def spTakeW : Sp := fun vs H Q _ => ∃ (b : Addr) (span : Int) (c : Nat), vs = [.ref b, .int span] ∧ Box H b c ∧ c ≤ 900000000 ∧ 1 ≤ span ∧ span ≤ 10000000000000 ∧
  ∀ H' (r : Int), Sb b H H' → Box H' b (c + 2) → 0 ≤ r → r < span → Q (.int r) H'
def spTakeB : Sp := fun vs H Q _ => ∃ (b : Addr) (span : Int) (c : Nat), vs = [.ref b, .int span] ∧ Box H b c ∧ c ≤ 900000000 ∧ 10000000 < span ∧ span ≤ 10000000000000 ∧
  ∀ H' (r : Int), Sb b H H' → Box H' b (c + 2) → 0 ≤ r → r < span → Q (.int r) H'
theorem take_imp {vs : List V} {H : Hp} {Q : VK} {E : XK} (h : spD 2 p_law_take vs H Q E) : spTakeW vs H Q E := by
  obtain ⟨b, L, c, args, hl, cz, ar, span, rfl, h1, h2, h3, q⟩ := h
  cases ar with
  | cons a0 r0 =>
    cases r0 with
    | cons a1 r1 =>
      cases r1
      obtain ⟨a, rfl, rfl⟩ := a0
      cases a1
      obtain ⟨sl, hb⟩ := cz
      obtain ⟨nl, bx⟩ := hb a rfl
      refine ⟨a, span, c, rfl, bx, h3, h1, h2, fun H' r sb bx' r0 r1 => ?_⟩
      have keep : Same L H' := fun x o e => sb x o (fun z => by rw [z, nl] at e; cases e) (sl x o e)
      refine q r (c + 2) r0 r1 (by omega) (.int r) L H' ⟨keep, fun x e => by cases e; exact ⟨nl, bx'⟩⟩ ⟨Same.refl L, fun x o e n => sb x o (fun z => n (by rw [z])) e, fun x hx => ?_, fun x n _ => n⟩ (.int r)
      by_cases z : x = a
      · rw [z]; exact bx'.there
      · cases e : H x with
        | none => exact absurd e hx
        | some o => rw [sb x o z e]; exact fun z => nomatch z
def spBox (K : PySem.W.Frag) : Sp := fun vs H Q _ => ∃ (a : Addr) (k : Int) (ns : List Int), vs = [.ref a, .int k] ∧ SqL K H a (IL ns) ∧ 0 ≤ k ∧ k ≤ 62 ∧
  ∀ H' p, Same H H' → H p = none → Box H' p 0 → Q (.ref p) H'
def spLaw (K : PySem.W.Frag) : Sp := fun vs H Q _ => ∃ (a : Addr) (ns : List Int), vs = [.ref a] ∧ SqL K H a (IL ns) ∧ ns.length ≤ 63 ∧ ∀ H', Q (.bl true) H'
theorem fn_none {P : Program} {w : World} {K : PySem.W.Frag} {mg : Str → Option Value} {base : Heap} {k : Nat} {f : Addr} {fd : FuncData} {ps : List Str} {sp : Sp} (h : ∀ vs H Q E, ¬ sp vs H Q E) : FnOk P w K mg base CX0 k f fd ps sp :=
  ⟨fun vs H Q E z => absurd z (h vs H Q E), fun A outer s H args us vs Q E hr he hb hv z => absurd z (h vs H Q E)⟩
theorem fn_or {P : Program} {w : World} {K : PySem.W.Frag} {mg : Str → Option Value} {base : Heap} {k : Nat} {f : Addr} {fd : FuncData} {ps : List Str} {s1 s2 : Sp} (F1 : FnOk P w K mg base CX0 k f fd ps s1) (F2 : FnOk P w K mg base CX0 k f fd ps s2) : FnOk P w K mg base CX0 k f fd ps (fun vs H Q E => s1 vs H Q E ∨ s2 vs H Q E) :=
  ⟨fun vs H Q E h => h.elim (F1.len vs H Q E) (F2.len vs H Q E), fun A outer s H args us vs Q E hr he hb hv hs => hs.elim (F1.run A outer s H args us vs Q E hr he hb hv) (F2.run A outer s H args us vs Q E hr he hb hv)⟩
theorem spD_none {n : Nat} {F : DSp} (h : ∀ args c Q, ¬ F args c Q) : ∀ vs H Q E, ¬ spD n F vs H Q E := fun vs H Q E ⟨b, L, c, args, _, _, _, z⟩ => h _ _ _ z
theorem yes_ok {te : TE} {σ : L2.St} {H : Hp} {R : V → Hp → Prop} {S : Hp → Prop} (h : te σ H R) : tYes σ H fun b H3 => if b = true then te σ H3 R else S H3 :=
  iteT (B := S H) h
theorem rep_bl (n : Nat) : (List.replicate n true).map V.bl = List.replicate n (.bl true) := by rw [List.map_replicate]
theorem rep_app (n : Nat) (x : V) : List.replicate n x ++ [x] = List.replicate (n + 1) x := by
  rw [List.replicate_succ']
theorem rep_all (n : Nat) : (List.replicate n true).all id = true := by
  rw [List.all_replicate]; split <;> rfl
/-- a list stands where its object stands -/
theorem SqL.keep {K : PySem.W.Frag} {H H' : Hp} {a : Addr} {xs : List V} (h : SqL K H a xs) (k : ∀ o, H a = some o → H' a = some o) : SqL K H' a xs := by
  rcases h with h | h
  · refine .inl ?_
    rcases h with h | ⟨o, h⟩
    · exact .inl (k _ h)
    · exact .inr ⟨o, k _ h⟩
  · exact .inr h
theorem at_lt {ns : List Int} {i : Int} (h0 : 0 ≤ i) (h1 : i < (ns.length : Int)) : ∃ z, atI (IL ns) i = some (.int z) := by
  refine ⟨gt ns i, ?_⟩
  rw [atI_nat h0 (by rw [List.length_map]; exact h1), List.getElem?_map, gt_get h0 h1]; rfl
def Stay (K : PySem.W.Frag) (D a : Addr) (xs : List V) (H : Hp) : Prop := (∃ o, H a = some o ∧ a ≠ D ∧ ∀ H', H' a = some o → SqL K H' a xs) ∨ ∀ H', SqL K H' a xs
theorem Stay.of {K : PySem.W.Frag} {D a : Addr} {xs : List V} {H : Hp} {u : HO} (h : SqL K H a xs) (n : H D = none) : Stay K D a xs (upd H D u) := by
  rcases h with h | h
  · refine .inl ?_
    rcases h with h | ⟨o, h⟩
    · have z : a ≠ D := ne_of_none h n
      exact ⟨_, by rw [upd_ne z]; exact h, z, fun H' e => .inl (.inl e)⟩
    · have z : a ≠ D := ne_of_none h n
      exact ⟨_, by rw [upd_ne z]; exact h, z, fun H' e => .inl (.inr ⟨o, e⟩)⟩
  · exact .inr fun H' => .inr h
theorem Stay.sq {K : PySem.W.Frag} {D a : Addr} {xs : List V} {H : Hp} (h : Stay K D a xs H) : SqL K H a xs := by
  rcases h with ⟨o, e, _, h⟩ | h
  · exact h H e
  · exact h H
theorem Stay.step {K : PySem.W.Frag} {D a b : Addr} {xs : List V} {H H6 H7 : Hp} {u : HO} (h : Stay K D a xs H) (s : Same H H6) (n : H b = none) (sb : Sb b H6 H7) : Stay K D a xs (upd H7 D u) := by
  rcases h with ⟨o, e, z, h⟩ | h
  · exact .inl ⟨o, by rw [upd_ne z]; exact sb a o (ne_of_none e n) (s a o e), z, h⟩
  · exact .inr h
end Lp

namespace Lp
open PySem PySem.Spec PyProof.Rows L2
local macro_rules | `(tactic| rfl') => `(tactic| try dsimp only [dVar_, gv_sh, gv_ow, gv_bx, gv_raw, gv_st, dC, dRaw, dOp, dUn, dTest, dTruth, dAnd, dOr, dNot, dYes, dIf, dAndV, dOrV, dNotV, dNotT, dChain, dNil, dCons, dTup, dLst, dats, dCB, dNoP, dPart, dSl, dNext, dBreak, dCont, dNever, dDrop, dRet, dRetN, dIfS, dSetG, dPar, dPar3, dAppend, dAppPop, dSetIx, dExt, dAug, dSet0, dSAdd, dSNotIn, dIter_, gi_l, gi_t, gi_b, dRng1, dRng2, dName, dGNil, dGCons, dGTup, dAsg, dFor, dWhile, dCall, dCallR, dArgs_, ga_f, ga_t, argsOf, dLc, wipeE, dListRg, dIndex, dSortSet, dSortSc, dEnum, dEnA, dZip, dIsi, dIsi2, isaT, φI, φB, φC, φNeg, add_i, add_l, add_t, mul_i, mul_l, φIx, sl_l, sl_t, eq_i, eq_s, eq_l, eq_t, eq_b, eq_n, φIsN, isN_n, isN_b, isN_i, isN_s, isN_l, isN_t, φLen, φList, φTuple, φAbs, φInt, φMax, φIsB, φIsNB, its_l, its_t, rd_sh, rd_nw, rd_br, rp_sh, rp_nw, rp_br, rp_bx, rp_raw, rp_sr, rr_sh, rr_nw, rr_br, ra_sh, ra_br, ra_bx, ra_raw, va_sh, va_nt, va_nf, va_raw, hb_n, hb_sh, hb_bx, hb_raw, hb_br, sh_n, sh_c, tr_n, tr_b, tr_i, tr_l, tr_t, ty_n, ty_b, ty_i, ty_s, ty_l, ty_t, if_ff, if_tt, Env.set, List.getElem?_cons_succ, List.getElem?_cons_zero, List.set_cons_succ, List.set_cons_zero, List.reverse_cons, List.reverse_nil, List.nil_append, List.cons_append, Option.bind_some, ite_true, ite_false])
theorem IL_at {es : List Int} {i : Nat} {x : V} (h : (IL es)[i]? = some x) (hi : i < es.length) : x = .int es[i] := by
  rw [IL_get (List.getElem?_eq_getElem hi)] at h
  exact (Option.some.inj h).symm
theorem IL_set (ns : List Int) (i : Nat) (z : Int) : (IL ns).set i (.int z) = IL (ns.set i z) := by
  show (ns.map V.int).set i (V.int z) = (ns.set i z).map V.int
  rw [List.map_set]
theorem same_mut {H H' : Hp} {p : Addr} {o : HO} (s : Same H H') (h : H p = none) : Same H (upd H' p o) := fun a u e => by
  rw [upd_ne (ne_of_none e h)]; exact s a u e
theorem cut_IL (ns : List Int) (lo hi : Option Int) : cutV (IL ns) lo hi = IL ((ns.drop (HT.sIx ns.length 0 lo)).take (HT.sIx ns.length ns.length hi - HT.sIx ns.length 0 lo)) := by
  unfold cutV
  show ((ns.map V.int).drop (HT.sIx (ns.map V.int).length 0 lo)).take (HT.sIx (ns.map V.int).length (ns.map V.int).length hi - HT.sIx (ns.map V.int).length 0 lo) = List.map V.int _
  rw [List.length_map, List.map_take, List.map_drop]
def spCells (K : PySem.W.Frag) : Sp := fun vs H Q _ => ∃ (a : Addr) (m : Int) (ns : List Int), vs = [.ref a, .int m] ∧ SqL K H a (IL ns) ∧ 1 ≤ m ∧ m ≤ 60 ∧
  ∀ H' p (ms : List Int), Same H H' → H p = none → H' p = some (.lst (IL ms)) → 1 ≤ ms.length → (ms.length : Int) ≤ m → Q (.ref p) H'
/-- a call of what draws from a box alone and answers True, with a count -/
theorem right_do2 {F : DSp} {H : Hp} {b : Addr} {c N : Nat} {Q : VK} {E : XK} (bx : Box H b c) (h : ∀ Q : R → Nat → Prop, (∀ c', c' ≤ c + N → Q (.sh (.bool true)) c') → F [.bx] c Q) (q : ∀ H', Sb b H H' → Box H' b (c + N) → Q (.bl true) H') : spD 1 F [.ref b] H Q E := by
  refine ⟨some b, fun _ => none, c, [.bx], rfl, ⟨(fun _ _ h => nomatch h), fun a e => by cases e; exact ⟨rfl, bx⟩⟩, .cons ⟨b, rfl, rfl⟩ .nil, h _ fun c' hc v L' H' cz ex vr => ?_⟩
  cases vr
  exact q H' (fun a o n e => ex.hh a o e fun z => n (by cases z; rfl)) ((cz.2 b rfl).2.le hc)
theorem Box.ne {H : Hp} {b D : Addr} {c : Nat} (x : Box H b c) (n : H D = none) : b ≠ D := fun z => x.there (by rw [z]; exact n)
theorem Box.new {H : Hp} {b D : Addr} {c : Nat} {o : HO} (x : Box H b c) (n : H D = none) : Box (upd H D o) b c := x.keep (upd_ne (x.ne n))
theorem Box.put {H : Hp} {b D : Addr} {c : Nat} {o : HO} (x : Box H b c) (n : b ≠ D) : Box (upd H D o) b c := x.keep (upd_ne n)
theorem upd_keep {H : Hp} {a p : Addr} {o u : HO} (h : H a = some o) (n : H p = none) : (upd H p u) a = some o := by rw [upd_ne (ne_of_none h n)]; exact h
end Lp

namespace Lp
open PySem PySem.Spec PyProof.Rows L2
local macro_rules | `(tactic| rfl') => `(tactic| try dsimp only [dVar_, gv_sh, gv_ow, gv_bx, gv_raw, gv_exn, gv_st, dC, dRaw, dOp, dUn, dTest, dTruth, dAnd, dOr, dNot, dYes, dIf, dAndV, dOrV, dNotV, dNotT, dChain, dNil, dCons, dTup, dLst, dats, dCB, dNoP, dPart, dSl, dNext, dBreak, dCont, dNever, dDrop, dRet, dRetN, dIfS, dSetG, dPar, dPar3, dAppend, dAppPop, dSetIx, dExt, dAug, dSet0, dSAdd, dSNotIn, dIter_, gi_l, gi_t, gi_b, dRng1, dRng2, dName, dGNil, dGCons, dGTup, dAsg, dFor, dWhile, dCall, dCallR, dArgs_, ga_f, ga_t, argsOf, dLc, wipeE, dListRg, dIndex, dSortSet, dSortSc, dEnum, dEnA, dZip, dIsi, dIsi2, isaT, φI, φB, φC, φNeg, add_i, add_l, add_t, mul_i, mul_l, φIx, sl_l, sl_t, eq_i, eq_s, eq_l, eq_t, eq_b, eq_n, φIsN, isN_n, isN_b, isN_i, isN_s, isN_l, isN_t, φLen, φList, φTuple, φAbs, φInt, φMax, φIsB, φIsNB, its_l, its_t, rd_sh, rd_nw, rd_br, rp_sh, rp_nw, rp_br, rp_bx, rp_raw, rp_sr, rr_sh, rr_nw, rr_br, ra_sh, ra_br, ra_bx, ra_raw, va_sh, va_nt, va_nf, va_raw, hb_n, hb_sh, hb_bx, hb_raw, hb_br, sh_n, sh_c, tr_n, tr_b, tr_i, tr_l, tr_t, ty_n, ty_b, ty_i, ty_s, ty_l, ty_t, if_ff, if_tt, Env.set, List.getElem?_cons_succ, List.getElem?_cons_zero, List.set_cons_succ, List.set_cons_zero, List.reverse_cons, List.reverse_nil, List.nil_append, List.cons_append, Option.bind_some, ite_true, ite_false])
theorem IL_app (ns : List Int) (z : Int) : (IL ns) ++ [.int z] = IL (ns ++ [z]) := by show _ = List.map _ _; rw [List.map_append]; rfl
abbrev kvG (G : List (Int × Addr)) : List (Key × V) := G.map fun g => (Sum.inl g.1, V.ref g.2)
theorem vG_none : ∀ (G : List (Int × Addr)) (m : Int), valV (kvG G) (.inl m) = none → m ∉ G.map (·.1)
  | [], m, _ => fun h => nomatch h
  | g :: G, m, h => by
    by_cases e : g.1 = m
    · have : valV (kvG (g :: G)) (.inl m) = some (V.ref g.2) := valV_pos (congrArg Sum.inl e)
      rw [this] at h; cases h
    · have : valV (kvG (g :: G)) (.inl m) = valV (kvG G) (.inl m) := valV_neg (fun z => e (Sum.inl.inj z))
      rw [this] at h
      intro q
      rcases List.mem_cons.mp q with q | q
      · exact e q.symm
      · exact vG_none G m h q
theorem vG_at : ∀ (G : List (Int × Addr)) (m : Int) (a : Addr), (G.map (·.1)).Nodup → (m, a) ∈ G → valV (kvG G) (.inl m) = some (.ref a)
  | g :: G, m, a, nd, h => by
    have q := List.nodup_cons.mp nd
    rcases List.mem_cons.mp h with e | e
    · rw [← e]; exact valV_pos rfl
    · have ne : ¬ g.1 = m := fun z => q.1 (List.mem_map.mpr ⟨(m, a), e, z.symm⟩)
      have : valV (kvG (g :: G)) (.inl m) = valV (kvG G) (.inl m) := valV_neg (fun z => ne (Sum.inl.inj z))
      rw [this]
      exact vG_at G m a q.2 e
theorem nd_snd : ∀ (G : List (Int × Addr)) {x y : Int} {a : Addr}, (G.map (·.2)).Nodup → (x, a) ∈ G → (y, a) ∈ G → x = y
  | g :: G, x, y, a, nd, h1, h2 => by
    have q := List.nodup_cons.mp nd
    rcases List.mem_cons.mp h1 with e1 | e1
    · rcases List.mem_cons.mp h2 with e2 | e2
      · exact congrArg Prod.fst (e1.trans e2.symm)
      · exact absurd (List.mem_map.mpr ⟨(y, a), e2, by rw [← e1]⟩) q.1
    · rcases List.mem_cons.mp h2 with e2 | e2
      · exact absurd (List.mem_map.mpr ⟨(x, a), e1, by rw [← e2]⟩) q.1
      · exact nd_snd G q.2 e1 e2
structure GR (H H3 : Hp) (d : Addr) (ns : List Int) (G : List (Int × Addr)) (i : Nat) : Prop where
  hd : H3 d = some (.dK (kvG G))
  n1 : (G.map (·.1)).Nodup
  n2 : (G.map (·.2)).Nodup
  ls : ∀ g ∈ G, H3 g.2 = some (.lst (IL (compH ns g.1 i))) ∧ H g.2 = none
  ks : ∀ m, m ∈ G.map (·.1) ↔ ∃ j : Nat, j < i ∧ headF ns (j : Int) = m
  len : G.length ≤ i
theorem GR.mono {H H3 H4 : Hp} {d : Addr} {ns : List Int} {G : List (Int × Addr)} {i : Nat} (r : GR H H3 d ns G i) (s : Same H3 H4) : GR H H4 d ns G i :=
  ⟨s _ _ r.hd, r.n1, r.n2, fun g hg => ⟨s _ _ (r.ls g hg).1, (r.ls g hg).2⟩, r.ks, r.len⟩
/-- a person whose ring has a group already -/
theorem GR.old {H H3 : Hp} {d a : Addr} {ns : List Int} {G : List (Int × Addr)} {i : Nat} (r : GR H H3 d ns G i) (ha : (headF ns (i : Int), a) ∈ G) : GR H (upd H3 a (.lst (IL (compH ns (headF ns (i : Int)) i) ++ [.int (i : Int)]))) d ns G (i + 1) := by
  have hl := (r.ls _ ha).1
  refine ⟨by rw [upd_ne (fun z => by rw [← z, r.hd] at hl; cases hl)]; exact r.hd, r.n1, r.n2, fun g hg => ⟨?_, (r.ls g hg).2⟩, fun m => ?_, Nat.le_succ_of_le r.len⟩
  · by_cases e : g.2 = a
    · have e1 : g.1 = headF ns (i : Int) := nd_snd G r.n2 (a := a) (by rw [← e]; exact hg) ha
      rw [e, upd_same, e1, compH_succ, if_pos rfl, IL_app]
    · have e1 : ¬ headF ns (i : Int) = g.1 := fun z => by
        have v1 := vG_at G _ _ r.n1 ha
        have v2 := vG_at G g.1 g.2 r.n1 hg
        rw [← z, v1] at v2
        exact e (by have := V.ref.inj (Option.some.inj v2); exact this.symm)
      rw [upd_ne e, compH_succ, if_neg e1]
      exact (r.ls g hg).1
  · rw [r.ks m]
    constructor
    · rintro ⟨j, hj, e⟩; exact ⟨j, by omega, e⟩
    · rintro ⟨j, hj, e⟩
      by_cases z : j = i
      · subst z
        exact (r.ks m).mp (List.mem_map.mpr ⟨_, ha, e⟩)
      · exact ⟨j, by omega, e⟩
/-- a person whose ring has none yet -/
theorem GR.new {H H3 : Hp} {d l : Addr} {ns : List Int} {G : List (Int × Addr)} {i : Nat} (r : GR H H3 d ns G i) (nl : H3 l = none) (nH : H l = none) (hv : valV (kvG G) (.inl (headF ns (i : Int))) = none) :
    GR H (upd (upd (upd H3 l (.lst [])) d (.dK (putK (kvG G) (.inl (headF ns (i : Int))) (.ref l)))) l (.lst ([] ++ [.int (i : Int)]))) d ns (G ++ [(headF ns (i : Int), l)]) (i + 1) := by
  have no := vG_none G _ hv
  have dl : d ≠ l := ne_of_none r.hd nl
  have out : ∀ g ∈ G, g.2 ≠ l := fun g hg z => by have := (r.ls g hg).1; rw [z, nl] at this; cases this
  refine ⟨?_, ?_, ?_, fun g hg => ?_, fun m => ?_, by rw [List.length_append]; have := r.len; show _ + 1 ≤ _; omega⟩
  · rw [upd_ne dl, upd_same, putK_new _ hv]
    show _ = some (HO.dK (List.map _ _))
    rw [List.map_append]; rfl
  · rw [List.map_append]
    refine List.nodup_append.mpr ⟨r.n1, List.nodup_cons.mpr ⟨List.not_mem_nil, List.nodup_nil⟩, fun x hx y hy => ?_⟩
    have ey : y = headF ns (i : Int) := List.mem_singleton.mp hy
    rw [ey]
    exact fun z => no (z ▸ hx)
  · rw [List.map_append]
    refine List.nodup_append.mpr ⟨r.n2, List.nodup_cons.mpr ⟨List.not_mem_nil, List.nodup_nil⟩, fun x hx y hy => ?_⟩
    have ey : y = l := List.mem_singleton.mp hy
    obtain ⟨g, hg, e⟩ := List.mem_map.mp hx
    rw [ey, ← e]
    exact out g hg
  · rcases List.mem_append.mp hg with h | h
    · have q := (r.ls g h).1
      have e1 : ¬ headF ns (i : Int) = g.1 := fun z => no (List.mem_map.mpr ⟨g, h, z.symm⟩)
      refine ⟨?_, (r.ls g h).2⟩
      rw [upd_ne (out g h), upd_ne (fun z => by rw [z, r.hd] at q; cases q), upd_ne (out g h), compH_succ, if_neg e1]
      exact q
    · have e := List.mem_singleton.mp h
      subst e
      refine ⟨?_, nH⟩
      have e0 : compH ns (headF ns (i : Int)) i = [] := by
        cases q : compH ns (headF ns (i : Int)) i with
        | nil => rfl
        | cons z t =>
          obtain ⟨j, hj, e, _⟩ := compH_mem.mp (q ▸ List.mem_cons_self : z ∈ compH ns (headF ns (i : Int)) i)
          exact absurd ((r.ks _).mpr ⟨j, hj, e⟩) no
      rw [upd_same, compH_succ, if_pos rfl, e0]; rfl
  · rw [List.map_append, List.mem_append, r.ks m]
    constructor
    · rintro (⟨j, hj, e⟩ | h)
      · exact ⟨j, by omega, e⟩
      · exact ⟨i, by omega, (List.mem_singleton.mp h).symm⟩
    · rintro ⟨j, hj, e⟩
      by_cases z : j = i
      · subst z
        exact .inr (List.mem_singleton.mpr e.symm)
      · exact .inl ⟨j, by omega, e⟩
end Lp

namespace Lp
open PySem PySem.Spec PyProof.Rows L2
local macro_rules | `(tactic| rfl') => `(tactic| try dsimp only [dVar_, gv_sh, gv_ow, gv_bx, gv_raw, gv_st, dC, dRaw, dOp, dUn, dTest, dTruth, dAnd, dOr, dNot, dYes, dIf, dAndV, dOrV, dNotV, dNotT, dChain, dNil, dCons, dTup, dLst, dats, dCB, dNoP, dPart, dSl, dNext, dBreak, dCont, dNever, dDrop, dRet, dRetN, dIfS, dSetG, dPar, dPar3, dAppend, dAppPop, dSetIx, dExt, dAug, dSet0, dSAdd, dSNotIn, dIter_, gi_l, gi_t, gi_b, dRng1, dRng2, dName, dGNil, dGCons, dGTup, dAsg, dFor, dWhile, dCall, dCallR, dArgs_, ga_f, ga_t, argsOf, dLc, wipeE, dListRg, dIndex, dSortSet, dSortSc, dEnum, dEnA, dZip, dIsi, dIsi2, isaT, φI, φB, φC, φNeg, add_i, add_l, add_t, mul_i, mul_l, φIx, sl_l, sl_t, eq_i, eq_s, eq_l, eq_t, eq_b, eq_n, φIsN, isN_n, isN_b, isN_i, isN_s, isN_l, isN_t, φLen, φList, φTuple, φAbs, φInt, φMax, φIsB, φIsNB, its_l, its_t, rd_sh, rd_nw, rd_br, rp_sh, rp_nw, rp_br, rp_bx, rp_raw, rp_sr, rr_sh, rr_nw, rr_br, ra_sh, ra_br, ra_bx, ra_raw, va_sh, va_nt, va_nf, va_raw, hb_n, hb_sh, hb_bx, hb_raw, hb_br, sh_n, sh_c, tr_n, tr_b, tr_i, tr_l, tr_t, ty_n, ty_b, ty_i, ty_s, ty_l, ty_t, if_ff, if_tt, Env.set, List.getElem?_cons_succ, List.getElem?_cons_zero, List.set_cons_succ, List.set_cons_zero, List.reverse_cons, List.reverse_nil, List.nil_append, List.cons_append, Option.bind_some, ite_true, ite_false])
structure ApartF (a b : List Int) (x y : Int) : Prop where
  px : Per a x
  py : Per a y
  cx : ∃ c, Cyc b x c
  cy : ∃ c, Cyc b y c
  ne : ringF b x ≠ ringF b y
  eq : ringF a x = ringF a y
end Lp

namespace Lp
open PySem PySem.Spec PyProof.Rows L2
local macro_rules | `(tactic| rfl') => `(tactic| try dsimp only [dVar_, gv_sh, gv_ow, gv_bx, gv_raw, gv_st, dC, dRaw, dOp, dUn, dTest, dTruth, dAnd, dOr, dNot, dYes, dIf, dAndV, dOrV, dNotV, dNotT, dChain, dNil, dCons, dTup, dLst, dats, dCB, dNoP, dPart, dSl, dNext, dBreak, dCont, dNever, dDrop, dRet, dRetN, dIfS, dSetG, dPar, dPar3, dAppend, dAppPop, dSetIx, dExt, dAug, dSet0, dSAdd, dSNotIn, dIter_, gi_l, gi_t, gi_b, dRng1, dRng2, dName, dGNil, dGCons, dGTup, dAsg, dFor, dWhile, dCall, dCallR, dArgs_, ga_f, ga_t, argsOf, dLc, wipeE, dListRg, dIndex, dSortSet, dSortSc, dEnum, dEnA, dZip, dIsi, dIsi2, isaT, φI, φB, φC, φNeg, add_i, add_l, add_t, mul_i, mul_l, φIx, sl_l, sl_t, eq_i, eq_s, eq_l, eq_t, eq_b, eq_n, φIsN, isN_n, isN_b, isN_i, isN_s, isN_l, isN_t, φLen, φList, φTuple, φAbs, φInt, φMax, φIsB, φIsNB, its_l, its_t, rd_sh, rd_nw, rd_br, rp_sh, rp_nw, rp_br, rp_bx, rp_raw, rp_sr, rr_sh, rr_nw, rr_br, ra_sh, ra_br, ra_bx, ra_raw, va_sh, va_nt, va_nf, va_raw, hb_n, hb_sh, hb_bx, hb_raw, hb_br, sh_n, sh_c, tr_n, tr_b, tr_i, tr_l, tr_t, ty_n, ty_b, ty_i, ty_s, ty_l, ty_t, if_ff, if_tt, Env.set, List.getElem?_cons_succ, List.getElem?_cons_zero, List.set_cons_succ, List.set_cons_zero, List.reverse_cons, List.reverse_nil, List.nil_append, List.cons_append, Option.bind_some, ite_true, ite_false])
theorem ApartF.symm {a b : List Int} {x y : Int} (F : ApartF a b x y) : ApartF a b y x := ⟨F.py, F.px, F.cy, F.cx, fun e => F.ne e.symm, F.eq.symm⟩
end Lp

namespace Lp
open PySem PySem.Spec PyProof.Rows L2
local macro_rules | `(tactic| rfl') => `(tactic| try dsimp only [dVar_, gv_sh, gv_ow, gv_bx, gv_raw, gv_exn, gv_st, dC, dRaw, dOp, dUn, dTest, dTruth, dAnd, dOr, dNot, dYes, dIf, dAndV, dOrV, dNotV, dNotT, dChain, dNil, dCons, dTup, dLst, dats, dCB, dNoP, dPart, dSl, dNext, dBreak, dCont, dNever, dDrop, dRet, dRetN, dIfS, dSetG, dPar, dPar3, dAppend, dAppPop, dSetIx, dExt, dAug, dSet0, dSAdd, dSNotIn, dIter_, gi_l, gi_t, gi_b, dRng1, dRng2, dName, dGNil, dGCons, dGTup, dAsg, dFor, dWhile, dCall, dCallR, dArgs_, ga_f, ga_t, argsOf, dLc, wipeE, dListRg, dIndex, dSortSet, dSortSc, dEnum, dEnA, dZip, dIsi, dIsi2, isaT, φI, φB, φC, φNeg, add_i, add_l, add_t, mul_i, mul_l, φIx, sl_l, sl_t, eq_i, eq_s, eq_l, eq_t, eq_b, eq_n, φIsN, isN_n, isN_b, isN_i, isN_s, isN_l, isN_t, φLen, φList, φTuple, φAbs, φInt, φMax, φIsB, φIsNB, its_l, its_t, rd_sh, rd_nw, rd_br, rp_sh, rp_nw, rp_br, rp_bx, rp_raw, rp_sr, rr_sh, rr_nw, rr_br, ra_sh, ra_br, ra_bx, ra_raw, va_sh, va_nt, va_nf, va_raw, hb_n, hb_sh, hb_bx, hb_raw, hb_br, sh_n, sh_c, tr_n, tr_b, tr_i, tr_l, tr_t, ty_n, ty_b, ty_i, ty_s, ty_l, ty_t, if_ff, if_tt, Env.set, List.getElem?_cons_succ, List.getElem?_cons_zero, List.set_cons_succ, List.set_cons_zero, List.reverse_cons, List.reverse_nil, List.nil_append, List.cons_append, Option.bind_some, ite_true, ite_false, dCallX, dArgsX_, gx_s, dRaise, dIsX, dAttr, dIsNE])
theorem head_gt {ns : List Int} (h : Stt ns) {z : Int} (hz : Per ns z) : headF ns (gt ns z) = headF ns z := by
  unfold headF
  rw [ringF_step h.lo hz.1 hz.2]
theorem ring_any_itr {ns : List Int} (h : Stt ns) {p : Int} (hp : Per ns p) (m : Nat) : ringF ns (itr ns p m) = ringF ns p := ringF_itr h.lo hp.1 hp.2 m
end Lp

namespace Lp
open PySem PySem.Spec PyProof.Rows L2
local macro_rules | `(tactic| rfl') => `(tactic| try dsimp only [dVar_, gv_sh, gv_ow, gv_bx, gv_raw, gv_exn, gv_st, dC, dRaw, dOp, dUn, dTest, dTruth, dAnd, dOr, dNot, dYes, dIf, dAndV, dOrV, dNotV, dNotT, dChain, dNil, dCons, dTup, dLst, dats, dCB, dNoP, dPart, dSl, dNext, dBreak, dCont, dNever, dDrop, dRet, dRetN, dIfS, dSetG, dPar, dPar3, dAppend, dAppPop, dSetIx, dExt, dAug, dSet0, dSAdd, dSNotIn, dIter_, gi_l, gi_t, gi_b, dRng1, dRng2, dName, dGNil, dGCons, dGTup, dAsg, dFor, dWhile, dCall, dCallR, dArgs_, ga_f, ga_t, argsOf, dLc, wipeE, dListRg, dIndex, dSortSet, dSortSc, dEnum, dEnA, dZip, dIsi, dIsi2, isaT, φI, φB, φC, φNeg, add_i, add_l, add_t, mul_i, mul_l, φIx, sl_l, sl_t, eq_i, eq_s, eq_l, eq_t, eq_b, eq_n, φIsN, isN_n, isN_b, isN_i, isN_s, isN_l, isN_t, φLen, φList, φTuple, φAbs, φInt, φMax, φIsB, φIsNB, its_l, its_t, rd_sh, rd_nw, rd_br, rp_sh, rp_nw, rp_br, rp_bx, rp_raw, rp_sr, rr_sh, rr_nw, rr_br, ra_sh, ra_br, ra_bx, ra_raw, va_sh, va_nt, va_nf, va_raw, hb_n, hb_sh, hb_bx, hb_raw, hb_br, sh_n, sh_c, tr_n, tr_b, tr_i, tr_l, tr_t, ty_n, ty_b, ty_i, ty_s, ty_l, ty_t, if_ff, if_tt, Env.set, List.getElem?_cons_succ, List.getElem?_cons_zero, List.set_cons_succ, List.set_cons_zero, List.reverse_cons, List.reverse_nil, List.nil_append, List.cons_append, Option.bind_some, ite_true, ite_false])
end Lp

namespace Lp
open PySem PySem.Spec PyProof.Rows L2
section
variable {X : Cx}
end
end Lp

namespace Lp
open PySem PySem.Spec PyProof.Rows L2
section
variable {w : Wx} {ta tb tc td : TE} {f g k l : DTE}
end
end Lp

namespace Lp
open PySem PySem.Spec PyProof.Rows L2
section
variable {w : Wx} {Z : Zx} {O : Addr → Prop} {σ : L2.St} {ε : Env} {L H : Hp}
end
section
variable {w : Wx} {t : TS} {d : DTS}
def dPub (i : Nat) (d : DTS) (Δ : DEnds) (ε : Env) : Prop := match ε.s[i]? with
  | some (.ow ds) => d Δ (ε.set i (.sh (.list ds)))
  | _ => False
end
end Lp

namespace Lp
open PySem PySem.Spec PyProof.Rows L2
def R.rows : R → Option (List DRow)
  | .dnw xs => some xs
  | .dbr _ xs => some xs
  | .dsh xs => some xs
  | _ => none
/-- a tuple of ints -/
def R.key (r : R) : Option (List Int) := match r.dat with
  | some (.tuple es) => intsD es
  | _ => none
section
variable {w : Wx} {K : PySem.W.Frag} {Z : Zx} {O : Addr → Prop} {σ : L2.St} {ε : Env} {Hs L H : Hp} {v : V} {r : R}
theorem VR.rows {xs : List DRow} (x : VR w Z O σ Hs L H v r) (s : Same L H) (e : r.rows = some xs) : ∃ a, v = .ref a ∧ IsDct H a xs ∧ KD L xs := by
  cases r with
  | dnw ys =>
    cases e
    obtain ⟨a, rfl, _, _, _, _, h5, h6⟩ := x
    exact ⟨a, rfl, h5, h6⟩
  | dbr i ys =>
    cases e
    obtain ⟨a, rfl, _, _, _, _, h5, h6⟩ := x
    exact ⟨a, rfl, h5, h6⟩
  | dsh ys =>
    cases e
    obtain ⟨a, rfl, ⟨ob, h5⟩, h6⟩ := x
    exact ⟨a, rfl, ⟨ob, s _ _ h5⟩, h6⟩
  | _ => cases e
theorem KD.at {xs : List DRow} (x : KD L xs) (s : Same L H) {a : Addr} (h : IsDct H a xs) : DAtH K H a xs := ⟨h, fun y hy => ((x y hy).1.to s).seq⟩
theorem VR.key {k : List Int} (x : VR w Z O σ Hs L H v r) (e : r.key = some k) : ∃ b, v = .ref b ∧ Sol L b (k.map V.int) := by
  unfold R.key at e
  split at e
  · rename_i es h
    obtain ⟨a, xs, rfl, h1, h2⟩ := (x.vl h).tup
    have := intsD_is e
    subst this
    rw [ints_dvs h2] at h1
    exact ⟨a, rfl, h1⟩
  · cases e
end
section
variable {w : Wx} {K : PySem.W.Frag} {ta tb tc : TE} {f g h : DTE}
def dDIn (neg : Bool) (f g : DTE) (ε : Env) (Q : R → Env → Prop) : Prop := f ε fun x ε1 => g ε1 fun y ε2 => match x.key, y.rows with
  | some k, some xs => Q (.sh (.bool (neg ^^ (valD xs k).isSome))) ε2
  | _, _ => False
def dDGet (f g : DTE) (ε : Env) (Q : R → Env → Prop) : Prop := f ε fun x ε1 => g ε1 fun y ε2 => match x.rows, y.key with
  | some xs, some k => ∃ r, valD xs k = some r ∧ Q (.sh r.d) ε2
  | _, _ => False
/-- sorted(d) -/
def dSortD (f : DTE) (ε : Env) (Q : R → Env → Prop) : Prop := f ε fun x ε1 => match x.rows with
  | some xs => (∀ x ∈ xs, x.k ≠ []) ∧ ∀ mss : List (List Int), mss.Perm (xs.map DRow.k) → mss.Pairwise (fun x y => HT.lexLt y x = false) → Q (.nw (dT mss)) ε1
  | _ => False
/-- {k: v} -/
def dDisp1 (f g : DTE) (ε : Env) (Q : R → Env → Prop) : Prop := f ε fun x ε1 => g ε1 fun y ε2 => match x.key, y.pub with
  | some k, .sh d => ∀ b v, Q (.dnw [⟨k, b, v, d⟩]) ε2
  | _, _ => False
/-- {} -/
def dDNew (ε : Env) (Q : R → Env → Prop) : Prop := Q (.dnw []) ε
/-- d[k] = v -/
def dDPut (i : Nat) (f g : DTE) (Δ : DEnds) (ε : Env) : Prop := f ε fun x ε1 => match x.pub, ε1.s[i]? with
  | .sh d, some (.dco _) => g ε1 fun y ε2 => match y.key, ε2.s[i]? with
    | some k, some (.dco xs) => xs.length < sizeLine ∧ ∀ b v, Δ.nx (ε2.set i (.dco (putD xs ⟨k, b, v, d⟩)))
    | _, _ => False
  | _, _ => False
end
theorem hu1 {k : Nat} {A : Around} (hr : Room k A) : A.units + 1 < cLine := by have := hr.un; omega
section
variable {X : Cx} {K : PySem.W.Frag}
end
section
variable (xs : List DRow) (i : Nat)
theorem va_dt : val true (.dnw xs) = some (.dco xs) := rfl
theorem va_df : val false (.dnw xs) = some (.dsh xs) := rfl
theorem va_ds (o : Bool) : val o (.dsh xs) = some (.dsh xs) := rfl
theorem rr_dn : R.ret (.dnw xs) = some (.dnw xs) := rfl
theorem rr_db : R.ret (.dbr i xs) = some (.dnw xs) := rfl
theorem rr_ds : R.ret (.dsh xs) = some (.dsh xs) := rfl
theorem rw_dn : R.rows (.dnw xs) = some xs := rfl
theorem rw_db : R.rows (.dbr i xs) = some xs := rfl
theorem rw_ds : R.rows (.dsh xs) = some xs := rfl
end
end Lp

namespace Lp
open PySem PySem.Spec PyProof.Rows L2
section
variable {w : Wx} {K : PySem.W.Frag} {ta tb te : TE} {f g : DTE}
def dST0 (i : Nat) (Δ : DEnds) (ε : Env) : Prop := Δ.nx (ε.set i (.sto []))
def dSTAdd (i : Nat) (f : DTE) (Δ : DEnds) (ε : Env) : Prop := match ε.s[i]? with
  | some (.sto _) => f ε fun r ε1 => match r.key, ε1.s[i]? with
    | some k, some (.sto M) => M.length + 1 < 64 ∧ Δ.nx (ε1.set i (.sto (M ++ [k])))
    | _, _ => False
  | _ => False
theorem TSM.seq {L H : Hp} {A : List (Addr × List Int)} {M : List (List Int)} (h : TSM L A M) (s : Same L H) : ∀ p ∈ A, SqT K H p.1 (p.2.map V.int) := fun p hp => ((h.1 p hp).to s).seq
def dSTIn (neg : Bool) (f g : DTE) (ε : Env) (Q : R → Env → Prop) : Prop := f ε fun x ε1 => g ε1 fun y ε2 => match x.key, y with
  | some k, .srt _ M => Q (.sh (.bool (neg ^^ decide (k ∈ M)))) ε2
  | _, _ => False
def dcD (γ : DTG) (c : DTT) (f g : DTE) (vs : List Nat) (s : List SV) (Q : R → Env → Prop) : List PyData → List DRow → Nat → Prop
  | [], xs, n => Q (.dnw xs) ⟨s, n⟩
  | d :: ds, xs, n => γ d ⟨wipeE ⟨s, n⟩ vs, n⟩ fun ε1 => c ε1 fun b ε2 => if b = true then f ε2 fun x ε3 => g ε3 fun y ε4 => match x.key, y.pub with
      | some k, .sh e => xs.length < sizeLine ∧ ∀ b v, dcD γ c f g vs s Q ds (putD xs ⟨k, b, v, e⟩) ε4.c
      | _, _ => False
    else dcD γ c f g vs s Q ds xs ε2.c
def dDc (i : DTI) (γ : DTG) (c : DTT) (f g : DTE) (vs : List Nat) (ε : Env) (Q : R → Env → Prop) : Prop := i ε fun ds _ ε1 => dcD γ c f g vs ε1.s Q ds [] ε1.c
end
section
variable {X : Cx} {K : PySem.W.Frag}
end
end Lp

namespace Lp
open PySem PySem.Spec PyProof.Rows L2
local macro_rules | `(tactic| rfl') => `(tactic| try dsimp only [dVar_, gv_sh, gv_ow, gv_bx, gv_raw, gv_exn, gv_st, dC, dRaw, dOp, dUn, dTest, dTruth, dAnd, dOr, dNot, dYes, dIf, dAndV, dOrV, dNotV, dNotT, dChain, dNil, dCons, dTup, dLst, dats, dCB, dNoP, dPart, dSl, dNext, dBreak, dCont, dNever, dDrop, dRet, dRetN, dIfS, dSetG, dPar, dPar3, dAppend, dAppPop, dSetIx, dExt, dAug, dSet0, dSAdd, dSNotIn, dIter_, gi_l, gi_t, gi_b, dRng1, dRng2, dName, dGNil, dGCons, dGTup, dAsg, dFor, dWhile, dCall, dCallR, dArgs_, ga_f, ga_t, argsOf, dLc, wipeE, dListRg, dIndex, dSortSet, dSortSc, dEnum, dEnA, dZip, dIsi, dIsi2, isaT, φI, φB, φC, φNeg, add_i, add_l, add_t, mul_i, mul_l, φIx, sl_l, sl_t, eq_i, eq_s, eq_l, eq_t, eq_b, eq_n, φIsN, isN_n, isN_b, isN_i, isN_s, isN_l, isN_t, φLen, φList, φTuple, φAbs, φInt, φMax, φIsB, φIsNB, its_l, its_t, rd_sh, rd_nw, rd_br, rp_sh, rp_nw, rp_br, rp_bx, rp_raw, rp_sr, rr_sh, rr_nw, rr_br, ra_sh, ra_br, ra_bx, ra_raw, va_sh, va_nt, va_nf, va_raw, hb_n, hb_sh, hb_bx, hb_raw, hb_br, sh_n, sh_c, tr_n, tr_b, tr_i, tr_l, tr_t, ty_n, ty_b, ty_i, ty_s, ty_l, ty_t, if_ff, if_tt, Env.set, List.getElem?_cons_succ, List.getElem?_cons_zero, List.set_cons_succ, List.set_cons_zero, List.reverse_cons, List.reverse_nil, List.nil_append, List.cons_append, Option.bind_some, ite_true, ite_false, dST0, dSTAdd, dSTIn, dDc, gv_sto, dPub, gv_dco, gv_dsh, dDIn, dDGet, dSortD, dDisp1, dDNew, dDPut, va_dt, va_df, va_ds, rr_dn, rr_db, rr_ds, rw_dn, rw_db, rw_ds])
structure Roots (ns rs : List Int) : Prop where
  per : ∀ r ∈ rs, Per ns r
  on : ∀ r ∈ rs, r ∈ ringF ns r
  one : rs.Pairwise (fun a b => ringF ns a ≠ ringF ns b)
  all : ∀ x, Per ns x → ∃ r ∈ rs, ringF ns r = ringF ns x
def nsI (n : Nat) : List Int := (List.range n).map fun i : Nat => (i : Int)
theorem nsI_len (n : Nat) : (nsI n).length = n := by unfold nsI; rw [List.length_map, List.length_range]
theorem nsI_mem {n : Nat} {z : Int} : z ∈ nsI n ↔ 0 ≤ z ∧ z < (n : Int) := by
  unfold nsI
  rw [List.mem_map]
  constructor
  · rintro ⟨i, hi, rfl⟩
    have := List.mem_range.mp hi
    omega
  · rintro ⟨h0, h1⟩
    exact ⟨z.toNat, List.mem_range.mpr (by omega), by omega⟩
theorem Roots.nd {ns rs : List Int} (R : Roots ns rs) : rs.Nodup := R.one.imp fun {a b} h e => h (by rw [e])
theorem Roots.len {ns rs : List Int} (R : Roots ns rs) : rs.length ≤ ns.length := low_len ns.length rs R.nd fun z hz => R.per z hz
end Lp

namespace Lp
open PySem PySem.Spec PyProof.Rows L2
local macro_rules | `(tactic| rfl') => `(tactic| try dsimp only [dVar_, gv_sh, gv_ow, gv_bx, gv_raw, gv_exn, gv_st, dC, dRaw, dOp, dUn, dTest, dTruth, dAnd, dOr, dNot, dYes, dIf, dAndV, dOrV, dNotV, dNotT, dChain, dNil, dCons, dTup, dLst, dats, dCB, dNoP, dPart, dSl, dNext, dBreak, dCont, dNever, dDrop, dRet, dRetN, dIfS, dSetG, dPar, dPar3, dAppend, dAppPop, dSetIx, dExt, dAug, dSet0, dSAdd, dSNotIn, dIter_, gi_l, gi_t, gi_b, dRng1, dRng2, dName, dGNil, dGCons, dGTup, dAsg, dFor, dWhile, dCall, dCallR, dArgs_, ga_f, ga_t, argsOf, dLc, wipeE, dListRg, dIndex, dSortSet, dSortSc, dEnum, dEnA, dZip, dIsi, dIsi2, isaT, φI, φB, φC, φNeg, add_i, add_l, add_t, mul_i, mul_l, φIx, sl_l, sl_t, eq_i, eq_s, eq_l, eq_t, eq_b, eq_n, φIsN, isN_n, isN_b, isN_i, isN_s, isN_l, isN_t, φLen, φList, φTuple, φAbs, φInt, φMax, φIsB, φIsNB, its_l, its_t, rd_sh, rd_nw, rd_br, rp_sh, rp_nw, rp_br, rp_bx, rp_raw, rp_sr, rr_sh, rr_nw, rr_br, ra_sh, ra_br, ra_bx, ra_raw, va_sh, va_nt, va_nf, va_raw, hb_n, hb_sh, hb_bx, hb_raw, hb_br, sh_n, sh_c, tr_n, tr_b, tr_i, tr_l, tr_t, ty_n, ty_b, ty_i, ty_s, ty_l, ty_t, if_ff, if_tt, Env.set, List.getElem?_cons_succ, List.getElem?_cons_zero, List.set_cons_succ, List.set_cons_zero, List.reverse_cons, List.reverse_nil, List.nil_append, List.cons_append, Option.bind_some, ite_true, ite_false])
end Lp

namespace Lp
open PySem PySem.Spec PyProof.Rows L2
local macro_rules | `(tactic| rfl') => `(tactic| try dsimp only [dVar_, gv_sh, gv_ow, gv_bx, gv_raw, gv_exn, gv_st, dC, dRaw, dOp, dUn, dTest, dTruth, dAnd, dOr, dNot, dYes, dIf, dAndV, dOrV, dNotV, dNotT, dChain, dNil, dCons, dTup, dLst, dats, dCB, dNoP, dPart, dSl, dNext, dBreak, dCont, dNever, dDrop, dRet, dRetN, dIfS, dSetG, dPar, dPar3, dAppend, dAppPop, dSetIx, dExt, dAug, dSet0, dSAdd, dSNotIn, dIter_, gi_l, gi_t, gi_b, dRng1, dRng2, dName, dGNil, dGCons, dGTup, dAsg, dFor, dWhile, dCall, dCallR, dArgs_, ga_f, ga_t, argsOf, dLc, wipeE, dListRg, dIndex, dSortSet, dSortSc, dEnum, dEnA, dZip, dIsi, dIsi2, isaT, φI, φB, φC, φNeg, add_i, add_l, add_t, mul_i, mul_l, φIx, sl_l, sl_t, eq_i, eq_s, eq_l, eq_t, eq_b, eq_n, φIsN, isN_n, isN_b, isN_i, isN_s, isN_l, isN_t, φLen, φList, φTuple, φAbs, φInt, φMax, φIsB, φIsNB, its_l, its_t, rd_sh, rd_nw, rd_br, rp_sh, rp_nw, rp_br, rp_bx, rp_raw, rp_sr, rr_sh, rr_nw, rr_br, ra_sh, ra_br, ra_bx, ra_raw, va_sh, va_nt, va_nf, va_raw, hb_n, hb_sh, hb_bx, hb_raw, hb_br, sh_n, sh_c, tr_n, tr_b, tr_i, tr_l, tr_t, ty_n, ty_b, ty_i, ty_s, ty_l, ty_t, if_ff, if_tt, Env.set, List.getElem?_cons_succ, List.getElem?_cons_zero, List.set_cons_succ, List.set_cons_zero, List.reverse_cons, List.reverse_nil, List.nil_append, List.cons_append, Option.bind_some, ite_true, ite_false])
theorem Roots.perm {ns rs ts : List Int} (R : Roots ns rs) (hp : ts.Perm rs) : Roots ns ts :=
  ⟨fun r hr => R.per r (hp.mem_iff.mp hr), fun r hr => R.on r (hp.mem_iff.mp hr), (hp.pairwise_iff fun h e => h e.symm).mpr R.one, fun x hx => by
    obtain ⟨r, hr, e⟩ := R.all x hx
    exact ⟨r, hp.mem_iff.mpr hr, e⟩⟩
theorem Roots.uniq {ns rs : List Int} (R : Roots ns rs) {a b : Int} (ha : a ∈ rs) (hb : b ∈ rs) (e : ringF ns a = ringF ns b) : a = b := by
  have key : ∀ rs : List Int, rs.Pairwise (fun a b => ringF ns a ≠ ringF ns b) → a ∈ rs → b ∈ rs → a = b := by
    intro rs
    induction rs with
    | nil => intro _ ha; cases ha
    | cons r rs ih =>
      intro pw ha hb
      obtain ⟨h1, h2⟩ := List.pairwise_cons.mp pw
      rcases List.mem_cons.mp ha with za | za
      · rcases List.mem_cons.mp hb with zb | zb
        · rw [za, zb]
        · exact absurd (by rw [← za]; exact e) (h1 b zb)
      · rcases List.mem_cons.mp hb with zb | zb
        · exact absurd (by rw [← zb]; exact e.symm) (h1 a za)
        · exact ih h2 za zb
  exact key rs R.one ha hb
end Lp

namespace Lp
open PySem PySem.Spec PyProof.Rows L2
local macro_rules | `(tactic| rfl') => `(tactic| try dsimp only [dVar_, gv_sh, gv_ow, gv_bx, gv_raw, gv_exn, gv_st, dC, dRaw, dOp, dUn, dTest, dTruth, dAnd, dOr, dNot, dYes, dIf, dAndV, dOrV, dNotV, dNotT, dChain, dNil, dCons, dTup, dLst, dats, dCB, dNoP, dPart, dSl, dNext, dBreak, dCont, dNever, dDrop, dRet, dRetN, dIfS, dSetG, dPar, dPar3, dAppend, dAppPop, dSetIx, dExt, dAug, dSet0, dSAdd, dSNotIn, dIter_, gi_l, gi_t, gi_b, dRng1, dRng2, dName, dGNil, dGCons, dGTup, dAsg, dFor, dWhile, dCall, dCallR, dArgs_, ga_f, ga_t, argsOf, dLc, wipeE, dListRg, dIndex, dSortSet, dSortSc, dEnum, dEnA, dZip, dIsi, dIsi2, isaT, φI, φB, φC, φNeg, add_i, add_l, add_t, mul_i, mul_l, φIx, sl_l, sl_t, eq_i, eq_s, eq_l, eq_t, eq_b, eq_n, φIsN, isN_n, isN_b, isN_i, isN_s, isN_l, isN_t, φLen, φList, φTuple, φAbs, φInt, φMax, φIsB, φIsNB, its_l, its_t, rd_sh, rd_nw, rd_br, rp_sh, rp_nw, rp_br, rp_bx, rp_raw, rp_sr, rr_sh, rr_nw, rr_br, ra_sh, ra_br, ra_bx, ra_raw, va_sh, va_nt, va_nf, va_raw, hb_n, hb_sh, hb_bx, hb_raw, hb_br, sh_n, sh_c, tr_n, tr_b, tr_i, tr_l, tr_t, ty_n, ty_b, ty_i, ty_s, ty_l, ty_t, if_ff, if_tt, Env.set, List.getElem?_cons_succ, List.getElem?_cons_zero, List.set_cons_succ, List.set_cons_zero, List.reverse_cons, List.reverse_nil, List.nil_append, List.cons_append, Option.bind_some, ite_true, ite_false, dCallX, dArgsX_, gx_s, dRaise, dIsX, dAttr, dIsNE, dST0, dSTAdd, dSTIn, dDc, gv_sto, dPub, gv_dco, gv_dsh, dDIn, dDGet, dSortD, dDisp1, dDNew, dDPut, va_dt, va_df, va_ds, rr_dn, rr_db, rr_ds, rw_dn, rw_db, rw_ds])
end Lp

namespace Lp
open PySem PySem.Spec PyProof.Rows L2
local macro_rules | `(tactic| rfl') => `(tactic| try dsimp only [dVar_, gv_sh, gv_ow, gv_bx, gv_raw, gv_exn, gv_st, dC, dRaw, dOp, dUn, dTest, dTruth, dAnd, dOr, dNot, dYes, dIf, dAndV, dOrV, dNotV, dNotT, dChain, dNil, dCons, dTup, dLst, dats, dCB, dNoP, dPart, dSl, dNext, dBreak, dCont, dNever, dDrop, dRet, dRetN, dIfS, dSetG, dPar, dPar3, dAppend, dAppPop, dSetIx, dExt, dAug, dSet0, dSAdd, dSNotIn, dIter_, gi_l, gi_t, gi_b, dRng1, dRng2, dName, dGNil, dGCons, dGTup, dAsg, dFor, dWhile, dCall, dCallR, dArgs_, ga_f, ga_t, argsOf, dLc, wipeE, dListRg, dIndex, dSortSet, dSortSc, dEnum, dEnA, dZip, dIsi, dIsi2, isaT, φI, φB, φC, φNeg, add_i, add_l, add_t, mul_i, mul_l, φIx, sl_l, sl_t, eq_i, eq_s, eq_l, eq_t, eq_b, eq_n, φIsN, isN_n, isN_b, isN_i, isN_s, isN_l, isN_t, φLen, φList, φTuple, φAbs, φInt, φMax, φIsB, φIsNB, its_l, its_t, rd_sh, rd_nw, rd_br, rp_sh, rp_nw, rp_br, rp_bx, rp_raw, rp_sr, rr_sh, rr_nw, rr_br, ra_sh, ra_br, ra_bx, ra_raw, va_sh, va_nt, va_nf, va_raw, hb_n, hb_sh, hb_bx, hb_raw, hb_br, sh_n, sh_c, tr_n, tr_b, tr_i, tr_l, tr_t, ty_n, ty_b, ty_i, ty_s, ty_l, ty_t, if_ff, if_tt, Env.set, List.getElem?_cons_succ, List.getElem?_cons_zero, List.set_cons_succ, List.set_cons_zero, List.reverse_cons, List.reverse_nil, List.nil_append, List.cons_append, Option.bind_some, ite_true, ite_false])
end Lp

namespace Lp
open PySem PySem.Spec PyProof.Rows L2
local macro_rules | `(tactic| rfl') => `(tactic| try dsimp only [dVar_, gv_sh, gv_ow, gv_bx, gv_raw, gv_exn, gv_st, dC, dRaw, dOp, dUn, dTest, dTruth, dAnd, dOr, dNot, dYes, dIf, dAndV, dOrV, dNotV, dNotT, dChain, dNil, dCons, dTup, dLst, dats, dCB, dNoP, dPart, dSl, dNext, dBreak, dCont, dNever, dDrop, dRet, dRetN, dIfS, dSetG, dPar, dPar3, dAppend, dAppPop, dSetIx, dExt, dAug, dSet0, dSAdd, dSNotIn, dIter_, gi_l, gi_t, gi_b, dRng1, dRng2, dName, dGNil, dGCons, dGTup, dAsg, dFor, dWhile, dCall, dCallR, dArgs_, ga_f, ga_t, argsOf, dLc, wipeE, dListRg, dIndex, dSortSet, dSortSc, dEnum, dEnA, dZip, dIsi, dIsi2, isaT, φI, φB, φC, φNeg, add_i, add_l, add_t, mul_i, mul_l, φIx, sl_l, sl_t, eq_i, eq_s, eq_l, eq_t, eq_b, eq_n, φIsN, isN_n, isN_b, isN_i, isN_s, isN_l, isN_t, φLen, φList, φTuple, φAbs, φInt, φMax, φIsB, φIsNB, its_l, its_t, rd_sh, rd_nw, rd_br, rp_sh, rp_nw, rp_br, rp_bx, rp_raw, rp_sr, rr_sh, rr_nw, rr_br, ra_sh, ra_br, ra_bx, ra_raw, va_sh, va_nt, va_nf, va_raw, hb_n, hb_sh, hb_bx, hb_raw, hb_br, sh_n, sh_c, tr_n, tr_b, tr_i, tr_l, tr_t, ty_n, ty_b, ty_i, ty_s, ty_l, ty_t, if_ff, if_tt, Env.set, List.getElem?_cons_succ, List.getElem?_cons_zero, List.set_cons_succ, List.set_cons_zero, List.reverse_cons, List.reverse_nil, List.nil_append, List.cons_append, Option.bind_some, ite_true, ite_false, dCallX, dArgsX_, gx_s, dRaise, dIsX, dAttr, dIsNE, dST0, dSTAdd, dSTIn, dDc, gv_sto, dPub, gv_dco, gv_dsh, dDIn, dDGet, dSortD, dDisp1, dDNew, dDPut, va_dt, va_df, va_ds, rr_dn, rr_db, rr_ds, rw_dn, rw_db, rw_ds])
theorem nsI_asc (n : Nat) : (nsI n).Pairwise (· < ·) := List.pairwise_map.mpr (List.Pairwise.imp (fun {x y} h => by omega) List.pairwise_lt_range)
end Lp

namespace Lp
open PySem PySem.Spec PyProof.Rows L2
local macro_rules | `(tactic| rfl') => `(tactic| try dsimp only [dVar_, gv_sh, gv_ow, gv_bx, gv_raw, gv_exn, gv_st, dC, dRaw, dOp, dUn, dTest, dTruth, dAnd, dOr, dNot, dYes, dIf, dAndV, dOrV, dNotV, dNotT, dChain, dNil, dCons, dTup, dLst, dats, dCB, dNoP, dPart, dSl, dNext, dBreak, dCont, dNever, dDrop, dRet, dRetN, dIfS, dSetG, dPar, dPar3, dAppend, dAppPop, dSetIx, dExt, dAug, dSet0, dSAdd, dSNotIn, dIter_, gi_l, gi_t, gi_b, dRng1, dRng2, dName, dGNil, dGCons, dGTup, dAsg, dFor, dWhile, dCall, dCallR, dArgs_, ga_f, ga_t, argsOf, dLc, wipeE, dListRg, dIndex, dSortSet, dSortSc, dEnum, dEnA, dZip, dIsi, dIsi2, isaT, φI, φB, φC, φNeg, add_i, add_l, add_t, mul_i, mul_l, φIx, sl_l, sl_t, eq_i, eq_s, eq_l, eq_t, eq_b, eq_n, φIsN, isN_n, isN_b, isN_i, isN_s, isN_l, isN_t, φLen, φList, φTuple, φAbs, φInt, φMax, φIsB, φIsNB, its_l, its_t, rd_sh, rd_nw, rd_br, rp_sh, rp_nw, rp_br, rp_bx, rp_raw, rp_sr, rr_sh, rr_nw, rr_br, ra_sh, ra_br, ra_bx, ra_raw, va_sh, va_nt, va_nf, va_raw, hb_n, hb_sh, hb_bx, hb_raw, hb_br, sh_n, sh_c, tr_n, tr_b, tr_i, tr_l, tr_t, ty_n, ty_b, ty_i, ty_s, ty_l, ty_t, if_ff, if_tt, Env.set, List.getElem?_cons_succ, List.getElem?_cons_zero, List.set_cons_succ, List.set_cons_zero, List.reverse_cons, List.reverse_nil, List.nil_append, List.cons_append, Option.bind_some, ite_true, ite_false])
/-- _law_same: _law_found, _law_due_here, _law_mine, _law_its -/
def b_law_same_3 (p_law_same_3 : DSp) : DTS := (dSeq (dIfS (dTruth (dIsi2 "list" "tuple" (dVar 1))) (dSeq (dIfS (dOr (dTest (dOp (φEq true) (dIsi "list" (dVar 0)) (dIsi "list" (dVar 1)))) (dTest (dOp (φEq true) (dIsi "tuple" (dVar 0)) (dIsi "tuple" (dVar 1))))) (dRet (dC (.bool false))) dNext)
  (dRet (dAndV (dOp (φEq false) (dCB φLen (dCons (dVar 0) dNil)) (dCB φLen (dCons (dVar 1) dNil))) (dCB (φAll false) (dCons (dLc (dZip (dCons (dVar 0) (dCons (dVar 1) dNil))) (dGTup 2 (dGCons (dName 2) (dGCons (dName 3) dGNil))) dYes (dCall p_law_same_3 (dCons (dVar 2) (dCons (dVar 3) dNil))) [2, 3]) dNil))))) dNext)
  (dSeq (dIfS (dOr (dTest (dOp (φIsN false) (dVar 1) (dC .none))) (dTruth (dIsi2 "bool" "str" (dVar 1)))) (dRet (dAndV (dOp (φEq false) (dVar 0) (dVar 1)) (dAndV (dOp (φEq false) (dIsi "bool" (dVar 0)) (dIsi "bool" (dVar 1))) (dOp (φEq false) (dOp (φIsN false) (dVar 0) (dC .none)) (dOp (φIsN false) (dVar 1) (dC .none)))))) dNext)
  (dRet (dAndV (dIsi "int" (dVar 0)) (dAndV (dNotV (dIsi "bool" (dVar 0))) (dOp (φEq false) (dVar 0) (dVar 1)))))))
abbrev k_law_same_3 : Nat := 2
def p_law_same_3 (k : Nat) : DSp := p_law_same k
theorem mon_law_same_3 (k : Nat) : MonF (p_law_same_3 k) := mon_law_same k
theorem m_law_same_3 {k : Nat} : ∀ args c Q, p_law_same_3 (k + 1) args c Q → defF k_law_same_3 (b_law_same_3 (p_law_same_3 k)) args c Q := by
  rintro _ c Q ⟨a, _, rfl, rfl, hk, q⟩
  show b_law_same_3 (p_law_same k) _ ⟨[.sh a, .sh a, .un, .un], c⟩
  unfold b_law_same_3
  refine sq_ ?_
  cases a with
  | none =>
    rfl'
    refine if_f (by decide +kernel) ?_
    refine sq_ ?_
    rfl'
    refine ⟨⟨rfl, rfl⟩, ?_⟩
    refine if_t (by rfl) ?_
    refine ⟨⟨rfl, rfl⟩, ?_⟩
    refine if_t (by rfl) ?_
    exact ⟨⟨rfl, rfl⟩, q⟩
  | bool b =>
    rfl'
    refine if_f (by decide +kernel) ?_
    refine sq_ ?_
    rfl'
    refine if_f (by decide +kernel) ?_
    refine if_t (by decide +kernel) ?_
    refine ⟨⟨rfl, rfl⟩, ?_⟩
    rw [eqv_self_b]
    refine if_t (by rfl) ?_
    refine ⟨⟨rfl, rfl⟩, ?_⟩
    refine if_t (by rfl) ?_
    exact ⟨⟨rfl, rfl⟩, q⟩
  | int z =>
    rfl'
    refine if_f (by decide +kernel) ?_
    refine sq_ ?_
    rfl'
    refine if_f (by decide +kernel) ?_
    refine if_f (by decide +kernel) ?_
    refine if_t (by decide +kernel) ?_
    refine if_t (by decide +kernel) ?_
    rw [decide_eq_true rfl]
    exact q
  | str x =>
    rfl'
    refine if_f (by decide +kernel) ?_
    refine sq_ ?_
    rfl'
    refine if_f (by decide +kernel) ?_
    refine if_t (by decide +kernel) ?_
    refine if_t (decide_eq_true rfl) ?_
    refine ⟨⟨rfl, rfl⟩, ?_⟩
    refine if_t (by rfl) ?_
    exact ⟨⟨rfl, rfl⟩, q⟩
  | list ds =>
    obtain ⟨h1, h2⟩ := dep_list hk
    rfl'
    refine if_t (by decide +kernel) ?_
    refine sq_ ?_
    rfl'
    refine ⟨⟨rfl, rfl⟩, ?_⟩
    refine if_f (by rfl) ?_
    refine ⟨⟨rfl, rfl⟩, ?_⟩
    refine if_f (by rfl) ?_
    refine if_t (decide_eq_true rfl) ?_
    refine same_seq h2 (by omega) ⟨_, _, rfl⟩ ?_
    rfl'
    rw [dB_map ds fun _ => true]
    refine φAll_dB ?_
    rw [if_neg (by decide), (all_true ds).2]
    exact q
  | tuple ds =>
    obtain ⟨h1, h2⟩ := dep_tuple hk
    rfl'
    refine if_t (by decide +kernel) ?_
    refine sq_ ?_
    rfl'
    refine ⟨⟨rfl, rfl⟩, ?_⟩
    refine if_f (by rfl) ?_
    refine ⟨⟨rfl, rfl⟩, ?_⟩
    refine if_f (by rfl) ?_
    refine if_t (decide_eq_true rfl) ?_
    refine same_seq h2 (by omega) ⟨_, _, rfl⟩ ?_
    rfl'
    rw [dB_map ds fun _ => true]
    refine φAll_dB ?_
    rw [if_neg (by decide), (all_true ds).2]
    exact q
  | dict _ => unfold dep at hk; cases hk
end Lp

namespace Lp
open PySem PySem.Spec PyProof.Rows L2
section
variable {w : Wx} {K : PySem.W.Frag} {te : TE} {f : DTE}
end
end Lp

namespace Lp
open PySem PySem.Spec PyProof.Rows L2
/-- a zip at its i-th turn: nothing is out yet, or a pair is -/
def ZpAt (h : Heap) (z TI TO : Addr) : Prop := (IsZip h z TI TO .none ∧ ∃ a b, IsPair h TO a b) ∨ ∃ T f oT, IsZipHeld h z TI TO T f ∧ h.get? T = some oT ∧ T ≠ z
structure Zp (h : Heap) (z TI TO i1 i2 l1 l2 : Addr) (k : Nat) : Prop where
  at_ : ZpAt h z TI TO
  ti : IsPair h TI (.ref i1) (.ref i2)
  one : h.IsListIter i1 l1 k
  two : h.IsListIter i2 l2 k
section
variable {prog : Program} {w : World} {A : Around} {E : Value → Shared → Prop} {s : Shared} {z TI TO i1 i2 l1 l2 : Addr} {k : Nat} {xs ys : Array Value} {x y : Value} {Q : Option Value → Shared → Prop}
theorem Zp.ty (Z : Zp s.heap z TI TO i1 i2 l1 l2 k) : s.TypeIs (.ref z) "zip" := by
  rcases Z.at_ with ⟨h, _⟩ | ⟨T, f, oT, h, _⟩
  · exact ⟨_, h, rfl⟩
  · exact ⟨_, h, rfl⟩
theorem Zp.item (D : ZipApart z TI TO i1 i2 l1 l2) (Z : Zp s.heap z TI TO i1 i2 l1 l2 k) (hl1 : s.heap.IsList l1 xs) (hl2 : s.heap.IsList l2 ys) (hx : xs[k]? = some x) (hy : ys[k]? = some y)
    (hQ : ∀ h', Zp h' z TI TO i1 i2 l1 l2 (k + 1) → IsPair h' s.heap.objs.size x y → h'.objs.size = s.heap.objs.size + 1 → (∀ c o, c ∉ [z, TO, i1, i2] → s.heap.get? c = some o → h'.get? c = some o) → Q (some (.ref s.heap.objs.size)) { s with heap := h' }) :
    wpAny (model prog w) A (pyNext (.ref z)) Q E s := by
  have lz : z < s.heap.objs.size := by
    obtain ⟨o, h, _⟩ := Z.ty
    exact Heap.lt_size h
  have out : ∀ {c : Addr}, c ∉ [z, TO, i1, i2] → c ≠ z ∧ c ≠ TO ∧ c ≠ i1 ∧ c ≠ i2 := fun {c} h => by
    refine ⟨?_, ?_, ?_, ?_⟩ <;> (intro e; exact h (by simp [e]))
  rcases Z.at_ with ⟨h0, a, b, hTO⟩ | ⟨T, f, oT, h0, hT, hTz⟩
  · refine wpAny_pyNext_zip_item D h0 Z.ti hTO Z.one Z.two hl1 hl2 hx hy fun h' a1 a2 a3 a4 a5 a6 a7 => hQ h' ⟨.inr ⟨_, false, _, a1, a5, Nat.ne_of_gt lz⟩, a7 _ _ D.TIz D.TITO D.TIi1 D.TIi2 Z.ti, a3, a4⟩ a5 a6 fun c o hc e => ?_
    obtain ⟨c1, c2, c3, c4⟩ := out hc
    exact a7 c o c1 c2 c3 c4 e
  · refine wpAny_pyNext_zip_item_held D h0 hT Z.ti Z.one Z.two hl1 hl2 hx hy fun h' a1 a3 a4 a5 a6 a7 => ?_
    have there : ∃ o, h'.get? T = some o := by
      by_cases q1 : T = i1
      · obtain ⟨o, e, _⟩ := a3; exact ⟨o, by rw [q1]; exact e⟩
      · by_cases q2 : T = i2
        · obtain ⟨o, e, _⟩ := a4; exact ⟨o, by rw [q2]; exact e⟩
        · exact ⟨oT, a7 T oT hTz q1 q2 hT⟩
    obtain ⟨o2, e2⟩ := there
    refine hQ h' ⟨.inr ⟨_, true, _, a1, e2, hTz⟩, a7 _ _ D.TIz D.TIi1 D.TIi2 Z.ti, a3, a4⟩ a5 a6 fun c o hc e => ?_
    obtain ⟨c1, c2, c3, c4⟩ := out hc
    exact a7 c o c1 c3 c4 e
theorem Zp.fin (hh : A.handled = none) (D : ZipApart z TI TO i1 i2 l1 l2) (Z : Zp s.heap z TI TO i1 i2 l1 l2 k) (hl1 : s.heap.IsList l1 xs) (hl2 : s.heap.IsList l2 ys) (hend : xs[k]? = none ∨ ys[k]? = none)
    (hQ : ∀ h', (∀ c o, c ∉ [z, TO, i1, i2] → s.heap.get? c = some o → h'.get? c = some o) → Q none { s with heap := h' }) :
    wpAny (model prog w) A (pyNext (.ref z)) Q E s := by
  have out : ∀ {c : Addr}, c ∉ [z, TO, i1, i2] → c ≠ z ∧ c ≠ TO ∧ c ≠ i1 ∧ c ≠ i2 := fun {c} h => by
    refine ⟨?_, ?_, ?_, ?_⟩ <;> (intro e; exact h (by simp [e]))
  rcases Z.at_ with ⟨h0, a, b, hTO⟩ | ⟨T, f, oT, h0, hT, hTz⟩
  · refine wpAny_pyNext_zip_end hh D h0 Z.ti hTO Z.one Z.two hl1 hl2 hend fun h' a7 => hQ h' fun c o hc e => ?_
    obtain ⟨c1, c2, c3, c4⟩ := out hc
    exact a7 c o c1 c2 c3 c4 e
  · refine wpAny_pyNext_zip_end_held hh D h0 hT Z.ti Z.one Z.two hl1 hl2 hend fun h' a7 => hQ h' fun c o hc e => ?_
    obtain ⟨c1, c2, c3, c4⟩ := out hc
    exact a7 c o c1 c3 c4 e
end
theorem Zp.keep {h h' : Heap} {z TI TO i1 i2 l1 l2 : Addr} {k : Nat} (Z : Zp h z TI TO i1 i2 l1 l2 k) (up : ∀ b u, b ∈ [z, TI, TO, i1, i2, l1, l2] → h.get? b = some u → h'.get? b = some u) (th : ∀ b u, h.get? b = some u → ∃ v, h'.get? b = some v) : Zp h' z TI TO i1 i2 l1 l2 k where
  at_ := by
    rcases Z.at_ with ⟨h0, a, b, q⟩ | ⟨T, f, oT, h0, hT, n⟩
    · exact .inl ⟨up z _ (by simp) h0, a, b, up TO _ (by simp) q⟩
    · obtain ⟨v, e⟩ := th T oT hT
      exact .inr ⟨T, f, v, up z _ (by simp) h0, e, n⟩
  ti := up TI _ (by simp) Z.ti
  one := Z.one.at fun o q => up i1 o (by simp) q
  two := Z.two.at fun o q => up i2 o (by simp) q
section
variable {P : Program} {w : World} {fs ex : List Addr} {H : Hp} {h h' : Heap} {T : Addr} {o : HO}
end
/-- the pairs of two lists, laid one behind the other -/
inductive ZipH : Hp → List V → List V → List V → Hp → Prop
  | nil {H : Hp} {xs ys : List V} : (xs = [] ∨ ys = []) → ZipH H xs ys [] H
  | cons {H H' : Hp} {x y : V} {xs ys out : List V} {T : Addr} (ob : Obj) : ob.dict = none → H T = none → ZipH (upd H T (.frz ob (.tup [x, y]))) xs ys out H' → ZipH H (x :: xs) (y :: ys) (.ref T :: out) H'
theorem ZipH.len {H H' : Hp} {xs ys out : List V} (h : ZipH H xs ys out H') : out.length ≤ xs.length := by
  induction h with
  | nil _ => exact Nat.zero_le _
  | cons _ _ _ _ ih => exact Nat.succ_le_succ ih
section
variable {w : Wx} {K : PySem.W.Frag} {te : TE} {f : DTE}
def dListZip (f : DTA) (ε : Env) (Q : R → Env → Prop) : Prop := f ε fun rs ε1 => match rs with
  | [x, y] => match x.dat, y.dat with
    | some (.list ds), some (.list es) => Q (.nw (zipDs ds es)) ε1
    | _, _ => False
  | _ => False
end
end Lp

namespace Lp
open PySem PySem.Spec PyProof.Rows L2
local macro_rules | `(tactic| rfl') => `(tactic| try dsimp only [dVar_, gv_sh, gv_ow, gv_bx, gv_raw, gv_st, dC, dRaw, dOp, dUn, dTest, dTruth, dAnd, dOr, dNot, dYes, dIf, dAndV, dOrV, dNotV, dNotT, dChain, dNil, dCons, dTup, dLst, dats, dCB, dNoP, dPart, dSl, dNext, dBreak, dCont, dNever, dDrop, dRet, dRetN, dIfS, dSetG, dPar, dPar3, dAppend, dAppPop, dSetIx, dExt, dAug, dSet0, dSAdd, dSNotIn, dIter_, gi_l, gi_t, gi_b, dRng1, dRng2, dName, dGNil, dGCons, dGTup, dAsg, dFor, dWhile, dCall, dCallR, dArgs_, ga_f, ga_t, argsOf, dLc, wipeE, dListRg, dIndex, dSortSet, dSortSc, dEnum, dEnA, dZip, dIsi, dIsi2, isaT, φI, φB, φC, φNeg, add_i, add_l, add_t, mul_i, mul_l, φIx, sl_l, sl_t, eq_i, eq_s, eq_l, eq_t, eq_b, eq_n, φIsN, isN_n, isN_b, isN_i, isN_s, isN_l, isN_t, φLen, φList, φTuple, φAbs, φInt, φMax, φIsB, φIsNB, its_l, its_t, rd_sh, rd_nw, rd_br, rp_sh, rp_nw, rp_br, rp_bx, rp_raw, rp_sr, rr_sh, rr_nw, rr_br, ra_sh, ra_br, ra_bx, ra_raw, va_sh, va_nt, va_nf, va_raw, hb_n, hb_sh, hb_bx, hb_raw, hb_br, sh_n, sh_c, tr_n, tr_b, tr_i, tr_l, tr_t, ty_n, ty_b, ty_i, ty_s, ty_l, ty_t, if_ff, if_tt, Env.set, List.getElem?_cons_succ, List.getElem?_cons_zero, List.set_cons_succ, List.set_cons_zero, List.reverse_cons, List.reverse_nil, List.nil_append, List.cons_append, Option.bind_some, ite_true, ite_false])
/-- who has no wish points at themselves -/
def fillF (os : List (Option Int)) : List Int := (List.range os.length).map fun i : Nat => (gO os (i : Int)).getD (i : Int)
structure WSt (os : List (Option Int)) : Prop where
  lo : LowO os.length os
  le : os.length ≤ 1000
  ge : 1 ≤ os.length
abbrev PerO (os : List (Option Int)) (x : Int) : Prop := 0 ≤ x ∧ x < (os.length : Int)
/-- a cycle of wished pointers -/
def CycW (os : List (Option Int)) (x : Int) (c : Nat) : Prop := Cyc (fillF os) x c ∧ gO os x ≠ none
/-- a wish with no obstacle -/
structure WOk (a : List Int) (os : List (Option Int)) : Prop where
  ways : ∀ x z, Per a x → gO os x = some z → ∃ m, 0 < m ∧ z = itr a x m
  one : ∀ x y c c', Per a x → Per a y → CycW os x c → CycW os y c' → (∃ s t, itr a x s = itr a y t) → y ∈ itrs (fillF os) x c
  ord : ∀ x c d, Per a x → CycW os x c → Cyc a x d → (itrs (fillF os) x c).Sublist (itrs a x d)
section
variable {a : List Int} {os : List (Option Int)} (h : Stt a) (w : WSt os) (hl : os.length = a.length) (hw : ∀ x z, Per a x → gO os x = some z → ∃ m, 0 < m ∧ z = itr a x m)
include h w hl hw
end
def Meets' (b : List Int) (os : List (Option Int)) : Prop := ∀ x z, PerO os x → gO os x = some z → gt b x = z
end Lp

namespace Lp
open PySem PySem.Spec PyProof.Rows L2
local macro_rules | `(tactic| rfl') => `(tactic| try dsimp only [dVar_, gv_sh, gv_ow, gv_bx, gv_raw, gv_st, dC, dRaw, dOp, dUn, dTest, dTruth, dAnd, dOr, dNot, dYes, dIf, dAndV, dOrV, dNotV, dNotT, dChain, dNil, dCons, dTup, dLst, dats, dCB, dNoP, dPart, dSl, dNext, dBreak, dCont, dNever, dDrop, dRet, dRetN, dIfS, dSetG, dPar, dPar3, dAppend, dAppPop, dSetIx, dExt, dAug, dSet0, dSAdd, dSNotIn, dIter_, gi_l, gi_t, gi_b, dRng1, dRng2, dName, dGNil, dGCons, dGTup, dAsg, dFor, dWhile, dCall, dCallR, dArgs_, ga_f, ga_t, argsOf, dLc, wipeE, dListRg, dIndex, dSortSet, dSortSc, dEnum, dEnA, dZip, dIsi, dIsi2, isaT, φI, φB, φC, φNeg, add_i, add_l, add_t, mul_i, mul_l, φIx, sl_l, sl_t, eq_i, eq_s, eq_l, eq_t, eq_b, eq_n, φIsN, isN_n, isN_b, isN_i, isN_s, isN_l, isN_t, φLen, φList, φTuple, φAbs, φInt, φMax, φIsB, φIsNB, its_l, its_t, rd_sh, rd_nw, rd_br, rp_sh, rp_nw, rp_br, rp_bx, rp_raw, rp_sr, rr_sh, rr_nw, rr_br, ra_sh, ra_br, ra_bx, ra_raw, va_sh, va_nt, va_nf, va_raw, hb_n, hb_sh, hb_bx, hb_raw, hb_br, sh_n, sh_c, tr_n, tr_b, tr_i, tr_l, tr_t, ty_n, ty_b, ty_i, ty_s, ty_l, ty_t, if_ff, if_tt, Env.set, List.getElem?_cons_succ, List.getElem?_cons_zero, List.set_cons_succ, List.set_cons_zero, List.reverse_cons, List.reverse_nil, List.nil_append, List.cons_append, Option.bind_some, ite_true, ite_false])
/-- whom the others of a ring may point at -/
def HubIs (os : List (Option Int)) (R : List Int) (h : Int) : Prop := h ∈ R ∧ ((∃ c, CycW os h c) ∨ (gO os h = none ∧ ¬ ∃ x c, x ∈ R ∧ CycW os x c))
structure GrantOk (a : List Int) (os : List (Option Int)) (g : List Int) : Prop where
  len : g.length = a.length
  st : Stt g
  wish : ∀ x z, Per a x → gO os x = some z → gt g x = z
  off : ∀ x, Per a x → gO os x = none → x ∉ ringF a x → gt g x = gt a x
  on : ∀ r, Per a r → ∃ h, (HubIs os (ringF a r) h ∨ ∀ x ∈ ringF a r, gO os x ≠ none) ∧ ∀ x ∈ ringF a r, gO os x = none → gt g x = h
section
variable {a : List Int} {os : List (Option Int)} {g : List Int} (h : Stt a) (w : WSt os) (hl : os.length = a.length) (f : WOk a os) (G : GrantOk a os g)
include h w hl f G
end
def setO (os : List (Option Int)) (x t : Int) : List (Option Int) := os.set x.toNat (some t)
/-- ps: whom x points at in the futures that meet os -/
def PF (a : List Int) (os : List (Option Int)) (x : Int) (ps : List Int) : Prop := ps.Pairwise (· < ·) ∧ ∀ t, t ∈ ps ↔ match gO os x with
  | some z => t = z
  | none => t ∈ routeF a (gt a x) ∧ WOk a (setO os x t)
theorem PF.uniq {a : List Int} {os : List (Option Int)} {x : Int} {ps qs : List Int} (p : PF a os x ps) (q : PF a os x qs) : ps = qs := by
  have key : ∀ (ps qs : List Int), ps.Pairwise (· < ·) → qs.Pairwise (· < ·) → (∀ t, t ∈ ps ↔ t ∈ qs) → ps = qs := by
    intro ps
    induction ps with
    | nil =>
      intro qs _ _ hm
      cases qs with
      | nil => rfl
      | cons y qs => exact nomatch (hm y).mpr List.mem_cons_self
    | cons x ps ih =>
      intro qs hp hq hm
      cases qs with
      | nil => exact nomatch (hm x).mp List.mem_cons_self
      | cons y qs =>
        have p2 := List.pairwise_cons.mp hp
        have q2 := List.pairwise_cons.mp hq
        have e : x = y := by
          rcases List.mem_cons.mp ((hm x).mp List.mem_cons_self) with e | e
          · exact e
          · rcases List.mem_cons.mp ((hm y).mpr List.mem_cons_self) with e2 | e2
            · exact e2.symm
            · have := q2.1 x e
              have := p2.1 y e2
              omega
        subst e
        congr 1
        refine ih qs p2.2 q2.2 fun t => ?_
        constructor
        · intro ht
          rcases List.mem_cons.mp ((hm t).mp (List.mem_cons_of_mem _ ht)) with e | e
          · subst e; exact absurd (p2.1 t ht) (by omega)
          · exact e
        · intro ht
          rcases List.mem_cons.mp ((hm t).mpr (List.mem_cons_of_mem _ ht)) with e | e
          · subst e; exact absurd (q2.1 t ht) (by omega)
          · exact e
  exact key ps qs p.1 q.1 fun t => (p.2 t).trans (q.2 t).symm
end Lp

namespace Lp
open PySem PySem.Spec PyProof.Rows L2
local macro_rules | `(tactic| rfl') => `(tactic| try dsimp only [dVar_, gv_sh, gv_ow, gv_bx, gv_raw, gv_exn, gv_st, dC, dRaw, dOp, dUn, dTest, dTruth, dAnd, dOr, dNot, dYes, dIf, dAndV, dOrV, dNotV, dNotT, dChain, dNil, dCons, dTup, dLst, dats, dCB, dNoP, dPart, dSl, dNext, dBreak, dCont, dNever, dDrop, dRet, dRetN, dIfS, dSetG, dPar, dPar3, dAppend, dAppPop, dSetIx, dExt, dAug, dSet0, dSAdd, dSNotIn, dIter_, gi_l, gi_t, gi_b, dRng1, dRng2, dName, dGNil, dGCons, dGTup, dAsg, dFor, dWhile, dCall, dCallR, dArgs_, ga_f, ga_t, argsOf, dLc, wipeE, dListRg, dIndex, dSortSet, dSortSc, dEnum, dEnA, dZip, dIsi, dIsi2, isaT, φI, φB, φC, φNeg, add_i, add_l, add_t, mul_i, mul_l, φIx, sl_l, sl_t, eq_i, eq_s, eq_l, eq_t, eq_b, eq_n, φIsN, isN_n, isN_b, isN_i, isN_s, isN_l, isN_t, φLen, φList, φTuple, φAbs, φInt, φMax, φIsB, φIsNB, its_l, its_t, rd_sh, rd_nw, rd_br, rp_sh, rp_nw, rp_br, rp_bx, rp_raw, rp_sr, rr_sh, rr_nw, rr_br, ra_sh, ra_br, ra_bx, ra_raw, va_sh, va_nt, va_nf, va_raw, hb_n, hb_sh, hb_bx, hb_raw, hb_br, sh_n, sh_c, tr_n, tr_b, tr_i, tr_l, tr_t, ty_n, ty_b, ty_i, ty_s, ty_l, ty_t, if_ff, if_tt, Env.set, List.getElem?_cons_succ, List.getElem?_cons_zero, List.set_cons_succ, List.set_cons_zero, List.reverse_cons, List.reverse_nil, List.nil_append, List.cons_append, Option.bind_some, ite_true, ite_false])
end Lp

namespace Lp
open PySem PySem.Spec PyProof.Rows L2
local macro_rules | `(tactic| rfl') => `(tactic| try dsimp only [dVar_, gv_sh, gv_ow, gv_bx, gv_raw, gv_st, dC, dRaw, dOp, dUn, dTest, dTruth, dAnd, dOr, dNot, dYes, dIf, dAndV, dOrV, dNotV, dNotT, dChain, dNil, dCons, dTup, dLst, dats, dCB, dNoP, dPart, dSl, dNext, dBreak, dCont, dNever, dDrop, dRet, dRetN, dIfS, dSetG, dPar, dPar3, dAppend, dAppPop, dSetIx, dExt, dAug, dSet0, dSAdd, dSNotIn, dIter_, gi_l, gi_t, gi_b, dRng1, dRng2, dName, dGNil, dGCons, dGTup, dAsg, dFor, dWhile, dCall, dCallR, dArgs_, ga_f, ga_t, argsOf, dLc, wipeE, dListRg, dIndex, dSortSet, dSortSc, dEnum, dEnA, dZip, dIsi, dIsi2, isaT, φI, φB, φC, φNeg, add_i, add_l, add_t, mul_i, mul_l, φIx, sl_l, sl_t, eq_i, eq_s, eq_l, eq_t, eq_b, eq_n, φIsN, isN_n, isN_b, isN_i, isN_s, isN_l, isN_t, φLen, φList, φTuple, φAbs, φInt, φMax, φIsB, φIsNB, its_l, its_t, rd_sh, rd_nw, rd_br, rp_sh, rp_nw, rp_br, rp_bx, rp_raw, rp_sr, rr_sh, rr_nw, rr_br, ra_sh, ra_br, ra_bx, ra_raw, va_sh, va_nt, va_nf, va_raw, hb_n, hb_sh, hb_bx, hb_raw, hb_br, sh_n, sh_c, tr_n, tr_b, tr_i, tr_l, tr_t, ty_n, ty_b, ty_i, ty_s, ty_l, ty_t, if_ff, if_tt, Env.set, List.getElem?_cons_succ, List.getElem?_cons_zero, List.set_cons_succ, List.set_cons_zero, List.reverse_cons, List.reverse_nil, List.nil_append, List.cons_append, Option.bind_some, ite_true, ite_false])
section
variable {a : List Int} {os : List (Option Int)} (h : Stt a) (w : WSt os) (hl : os.length = a.length) (f : WOk a os)
include h w hl f
end
end Lp

namespace Lp
open PySem PySem.Spec PyProof.Rows L2
local macro_rules | `(tactic| rfl') => `(tactic| try dsimp only [dVar_, gv_sh, gv_ow, gv_bx, gv_raw, gv_st, dC, dRaw, dOp, dUn, dTest, dTruth, dAnd, dOr, dNot, dYes, dIf, dAndV, dOrV, dNotV, dNotT, dChain, dNil, dCons, dTup, dLst, dats, dCB, dNoP, dPart, dSl, dNext, dBreak, dCont, dNever, dDrop, dRet, dRetN, dIfS, dSetG, dPar, dPar3, dAppend, dAppPop, dSetIx, dExt, dAug, dSet0, dSAdd, dSNotIn, dIter_, gi_l, gi_t, gi_b, dRng1, dRng2, dName, dGNil, dGCons, dGTup, dAsg, dFor, dWhile, dCall, dCallR, dArgs_, ga_f, ga_t, argsOf, dLc, wipeE, dListRg, dIndex, dSortSet, dSortSc, dEnum, dEnA, dZip, dIsi, dIsi2, isaT, φI, φB, φC, φNeg, add_i, add_l, add_t, mul_i, mul_l, φIx, sl_l, sl_t, eq_i, eq_s, eq_l, eq_t, eq_b, eq_n, φIsN, isN_n, isN_b, isN_i, isN_s, isN_l, isN_t, φLen, φList, φTuple, φAbs, φInt, φMax, φIsB, φIsNB, its_l, its_t, rd_sh, rd_nw, rd_br, rp_sh, rp_nw, rp_br, rp_bx, rp_raw, rp_sr, rr_sh, rr_nw, rr_br, ra_sh, ra_br, ra_bx, ra_raw, va_sh, va_nt, va_nf, va_raw, hb_n, hb_sh, hb_bx, hb_raw, hb_br, sh_n, sh_c, tr_n, tr_b, tr_i, tr_l, tr_t, ty_n, ty_b, ty_i, ty_s, ty_l, ty_t, if_ff, if_tt, Env.set, List.getElem?_cons_succ, List.getElem?_cons_zero, List.set_cons_succ, List.set_cons_zero, List.reverse_cons, List.reverse_nil, List.nil_append, List.cons_append, Option.bind_some, ite_true, ite_false])
end Lp

namespace Lp
open PySem PySem.Spec PyProof.Rows L2
local macro_rules | `(tactic| rfl') => `(tactic| try dsimp only [dVar_, gv_sh, gv_ow, gv_bx, gv_raw, gv_st, dC, dRaw, dOp, dUn, dTest, dTruth, dAnd, dOr, dNot, dYes, dIf, dAndV, dOrV, dNotV, dNotT, dChain, dNil, dCons, dTup, dLst, dats, dCB, dNoP, dPart, dSl, dNext, dBreak, dCont, dNever, dDrop, dRet, dRetN, dIfS, dSetG, dPar, dPar3, dAppend, dAppPop, dSetIx, dExt, dAug, dSet0, dSAdd, dSNotIn, dIter_, gi_l, gi_t, gi_b, dRng1, dRng2, dName, dGNil, dGCons, dGTup, dAsg, dFor, dWhile, dCall, dCallR, dArgs_, ga_f, ga_t, argsOf, dLc, wipeE, dListRg, dIndex, dSortSet, dSortSc, dEnum, dEnA, dZip, dIsi, dIsi2, isaT, φI, φB, φC, φNeg, add_i, add_l, add_t, mul_i, mul_l, φIx, sl_l, sl_t, eq_i, eq_s, eq_l, eq_t, eq_b, eq_n, φIsN, isN_n, isN_b, isN_i, isN_s, isN_l, isN_t, φLen, φList, φTuple, φAbs, φInt, φMax, φIsB, φIsNB, its_l, its_t, rd_sh, rd_nw, rd_br, rp_sh, rp_nw, rp_br, rp_bx, rp_raw, rp_sr, rr_sh, rr_nw, rr_br, ra_sh, ra_br, ra_bx, ra_raw, va_sh, va_nt, va_nf, va_raw, hb_n, hb_sh, hb_bx, hb_raw, hb_br, sh_n, sh_c, tr_n, tr_b, tr_i, tr_l, tr_t, ty_n, ty_b, ty_i, ty_s, ty_l, ty_t, if_ff, if_tt, Env.set, List.getElem?_cons_succ, List.getElem?_cons_zero, List.set_cons_succ, List.set_cons_zero, List.reverse_cons, List.reverse_nil, List.nil_append, List.cons_append, Option.bind_some, ite_true, ite_false])
section
variable {a b : List Int} {os : List (Option Int)} (h : Stt a) (hb : Stt b) (w : WSt os) (hl : os.length = a.length) (hlb : b.length = a.length) (f : Lead a b) (m : Meets' b os)
include h hb w hl hlb f m
end
end Lp

namespace Lp
open PySem PySem.Spec PyProof.Rows L2
local macro_rules | `(tactic| rfl') => `(tactic| try dsimp only [dVar_, gv_sh, gv_ow, gv_bx, gv_raw, gv_exn, gv_st, dC, dRaw, dOp, dUn, dTest, dTruth, dAnd, dOr, dNot, dYes, dIf, dAndV, dOrV, dNotV, dNotT, dChain, dNil, dCons, dTup, dLst, dats, dCB, dNoP, dPart, dSl, dNext, dBreak, dCont, dNever, dDrop, dRet, dRetN, dIfS, dSetG, dPar, dPar3, dAppend, dAppPop, dSetIx, dExt, dAug, dSet0, dSAdd, dSNotIn, dIter_, gi_l, gi_t, gi_b, dRng1, dRng2, dName, dGNil, dGCons, dGTup, dAsg, dFor, dWhile, dCall, dCallR, dArgs_, ga_f, ga_t, argsOf, dLc, wipeE, dListRg, dIndex, dSortSet, dSortSc, dEnum, dEnA, dZip, dIsi, dIsi2, isaT, φI, φB, φC, φNeg, add_i, add_l, add_t, mul_i, mul_l, φIx, sl_l, sl_t, eq_i, eq_s, eq_l, eq_t, eq_b, eq_n, φIsN, isN_n, isN_b, isN_i, isN_s, isN_l, isN_t, φLen, φList, φTuple, φAbs, φInt, φMax, φIsB, φIsNB, its_l, its_t, rd_sh, rd_nw, rd_br, rp_sh, rp_nw, rp_br, rp_bx, rp_raw, rp_sr, rr_sh, rr_nw, rr_br, ra_sh, ra_br, ra_bx, ra_raw, va_sh, va_nt, va_nf, va_raw, hb_n, hb_sh, hb_bx, hb_raw, hb_br, sh_n, sh_c, tr_n, tr_b, tr_i, tr_l, tr_t, ty_n, ty_b, ty_i, ty_s, ty_l, ty_t, if_ff, if_tt, Env.set, List.getElem?_cons_succ, List.getElem?_cons_zero, List.set_cons_succ, List.set_cons_zero, List.reverse_cons, List.reverse_nil, List.nil_append, List.cons_append, Option.bind_some, ite_true, ite_false, dCallX, dArgsX_, gx_s, dRaise, dIsX, dAttr, dIsNE, dListZip, dST0, dSTAdd, dSTIn, dDc, gv_sto, dPub, gv_dco, gv_dsh, dDIn, dDGet, dSortD, dDisp1, dDNew, dDPut, va_dt, va_df, va_ds, rr_dn, rr_db, rr_ds, rw_dn, rw_db, rw_ds])
theorem eqv_dn (a : List Int) : PyData.eqv (.list (dI a)) (.list []) = decide (a = []) := by
  cases a with
  | nil => simp [PyData.eqv, PyData.eqvAll, dI]
  | cons x r => simp [PyData.eqv, PyData.eqvAll, dI]
end Lp

namespace Lp
open PySem PySem.Spec PyProof.Rows L2
section
variable {w : Wx} {Z : Zx} {O : Addr → Prop} {σ : L2.St} {ε : Env} {L H : Hp} {k : Nat} {a : Addr} {xs : List V} {ds : List PyData}
theorem VR0.old {Hs Hs' : Hp} {v : V} {r : R} (h : ∀ b, Hs b = none → Hs' b = none) (x : VR0 Hs L H v r) : VR0 Hs' L H v r := by
  cases r with
  | nw ds =>
    obtain ⟨b, ys, rfl, h1, h2⟩ := x
    exact ⟨b, ys, rfl, h b h1, h2⟩
  | dnw rows =>
    obtain ⟨b, rfl, h1, h2⟩ := x
    exact ⟨b, rfl, h b h1, h2⟩
  | _ => exact x
end
section
variable {w : Wx} {K : PySem.W.Frag}
/-- for .. in xs, xs the own list of slot k, which the body leaves alone -/
def dForO (k : Nat) (γ : DTG) (p : DTS) (Δ : DEnds) (ε : Env) : Prop := match ε.s[k]? with
  | some (.ow ds) => ∀ v, forD γ p { nx := fun ε' => ε'.s[k]? = some (.raw v) ∧ Δ.nx (ε'.set k (.ow ds)), rt := Δ.rt, bk := Δ.bk, ct := Δ.ct } ds (ε.set k (.raw v))
  | _ => False
end
end Lp

namespace Lp
open PySem PySem.Spec PyProof.Rows L2
local macro_rules | `(tactic| rfl') => `(tactic| try dsimp only [dVar_, gv_sh, gv_ow, gv_bx, gv_raw, gv_exn, gv_st, dC, dRaw, dOp, dUn, dTest, dTruth, dAnd, dOr, dNot, dYes, dIf, dAndV, dOrV, dNotV, dNotT, dChain, dNil, dCons, dTup, dLst, dats, dCB, dNoP, dPart, dSl, dNext, dBreak, dCont, dNever, dDrop, dRet, dRetN, dIfS, dSetG, dPar, dPar3, dAppend, dAppPop, dSetIx, dExt, dAug, dSet0, dSAdd, dSNotIn, dIter_, gi_l, gi_t, gi_b, dRng1, dRng2, dName, dGNil, dGCons, dGTup, dAsg, dFor, dWhile, dCall, dCallR, dArgs_, ga_f, ga_t, argsOf, dLc, wipeE, dListRg, dIndex, dSortSet, dSortSc, dEnum, dEnA, dZip, dIsi, dIsi2, isaT, φI, φB, φC, φNeg, add_i, add_l, add_t, mul_i, mul_l, φIx, sl_l, sl_t, eq_i, eq_s, eq_l, eq_t, eq_b, eq_n, φIsN, isN_n, isN_b, isN_i, isN_s, isN_l, isN_t, φLen, φList, φTuple, φAbs, φInt, φMax, φIsB, φIsNB, its_l, its_t, rd_sh, rd_nw, rd_br, rp_sh, rp_nw, rp_br, rp_bx, rp_raw, rp_sr, rr_sh, rr_nw, rr_br, ra_sh, ra_br, ra_bx, ra_raw, va_sh, va_nt, va_nf, va_raw, hb_n, hb_sh, hb_bx, hb_raw, hb_br, sh_n, sh_c, tr_n, tr_b, tr_i, tr_l, tr_t, ty_n, ty_b, ty_i, ty_s, ty_l, ty_t, if_ff, if_tt, Env.set, List.getElem?_cons_succ, List.getElem?_cons_zero, List.set_cons_succ, List.set_cons_zero, List.reverse_cons, List.reverse_nil, List.nil_append, List.cons_append, Option.bind_some, ite_true, ite_false, dCallX, dArgsX_, gx_s, dRaise, dIsX, dAttr, dIsNE, dListZip, dForO, dST0, dSTAdd, dSTIn, dDc, gv_sto, dPub, gv_dco, gv_dsh, dDIn, dDGet, dSortD, dDisp1, dDNew, dDPut, va_dt, va_df, va_ds, rr_dn, rr_db, rr_ds, rw_dn, rw_db, rw_ds])
theorem turnTo_mid {X Y : List Int} {z : Int} (h : z ∉ X) : turnTo (X ++ z :: Y) z = z :: Y ++ X := by
  have e : (X ++ z :: Y).idxOf z = X.length := by
    rw [List.idxOf_append, if_neg h, List.idxOf_cons_self]; omega
  unfold turnTo
  rw [e, List.drop_left, List.take_left]
end Lp

namespace Lp
open PySem PySem.Spec PyProof.Rows L2
local macro_rules | `(tactic| rfl') => `(tactic| try dsimp only [dVar_, gv_sh, gv_ow, gv_bx, gv_raw, gv_exn, gv_st, dC, dRaw, dOp, dUn, dTest, dTruth, dAnd, dOr, dNot, dYes, dIf, dAndV, dOrV, dNotV, dNotT, dChain, dNil, dCons, dTup, dLst, dats, dCB, dNoP, dPart, dSl, dNext, dBreak, dCont, dNever, dDrop, dRet, dRetN, dIfS, dSetG, dPar, dPar3, dAppend, dAppPop, dSetIx, dExt, dAug, dSet0, dSAdd, dSNotIn, dIter_, gi_l, gi_t, gi_b, dRng1, dRng2, dName, dGNil, dGCons, dGTup, dAsg, dFor, dWhile, dCall, dCallR, dArgs_, ga_f, ga_t, argsOf, dLc, wipeE, dListRg, dIndex, dSortSet, dSortSc, dEnum, dEnA, dZip, dIsi, dIsi2, isaT, φI, φB, φC, φNeg, add_i, add_l, add_t, mul_i, mul_l, φIx, sl_l, sl_t, eq_i, eq_s, eq_l, eq_t, eq_b, eq_n, φIsN, isN_n, isN_b, isN_i, isN_s, isN_l, isN_t, φLen, φList, φTuple, φAbs, φInt, φMax, φIsB, φIsNB, its_l, its_t, rd_sh, rd_nw, rd_br, rp_sh, rp_nw, rp_br, rp_bx, rp_raw, rp_sr, rr_sh, rr_nw, rr_br, ra_sh, ra_br, ra_bx, ra_raw, va_sh, va_nt, va_nf, va_raw, hb_n, hb_sh, hb_bx, hb_raw, hb_br, sh_n, sh_c, tr_n, tr_b, tr_i, tr_l, tr_t, ty_n, ty_b, ty_i, ty_s, ty_l, ty_t, if_ff, if_tt, Env.set, List.getElem?_cons_succ, List.getElem?_cons_zero, List.set_cons_succ, List.set_cons_zero, List.reverse_cons, List.reverse_nil, List.nil_append, List.cons_append, Option.bind_some, ite_true, ite_false, dCallX, dArgsX_, gx_s, dRaise, dIsX, dAttr, dIsNE, dListZip, dForO, dST0, dSTAdd, dSTIn, dDc, gv_sto, dPub, gv_dco, gv_dsh, dDIn, dDGet, dSortD, dDisp1, dDNew, dDPut, va_dt, va_df, va_ds, rr_dn, rr_db, rr_ds, rw_dn, rw_db, rw_ds])
def nxL (L : List Int) (p : Int) : Int := L.getD ((L.idxOf p + 1) % L.length) 0
def nxP (LS : List (List Int)) (p : Int) : Int := match LS.find? (fun L => decide (p ∈ L)) with
  | some L => nxL L p
  | none => 0
def rsF (n : Nat) (LS : List (List Int)) : List Int := (nsI n).map (nxP LS)
theorem find_lap : ∀ {LS : List (List Int)} {L : List Int} {p : Int}, LS.flatten.Nodup → L ∈ LS → p ∈ L → LS.find? (fun L => decide (p ∈ L)) = some L
  | M :: LS, L, p, nd, hL, hp => by
    rw [List.flatten_cons] at nd
    have n2 := List.nodup_append.mp nd
    rw [List.find?_cons]
    by_cases q : p ∈ M
    · rw [decide_eq_true q]
      rcases List.mem_cons.mp hL with e | e
      · rw [e]
      · exact absurd rfl (n2.2.2 p q p (List.mem_flatten.mpr ⟨L, e, hp⟩))
    · rw [decide_eq_false q]
      rcases List.mem_cons.mp hL with e | e
      · rw [e] at hp; exact absurd hp q
      · exact find_lap n2.2.1 e hp
theorem nx_lap {LS : List (List Int)} (nd : LS.flatten.Nodup) {L : List Int} {p : Int} (hL : L ∈ LS) (hp : p ∈ L) : nxP LS p = nxL L p := by
  unfold nxP
  rw [find_lap nd hL hp]
theorem lap_nodup {LS : List (List Int)} (nd : LS.flatten.Nodup) {L : List Int} (hL : L ∈ LS) : L.Nodup := (List.sublist_flatten_of_mem hL).nodup nd
theorem nsI_nodup (n : Nat) : (nsI n).Nodup := (nsI_asc n).imp fun {a b} h e => by omega
structure LapsP (n : Nat) (LS : List (List Int)) : Prop where
  perm : LS.flatten.Perm (nsI n)
theorem LapsP.nd {n : Nat} {LS : List (List Int)} (h : LapsP n LS) : LS.flatten.Nodup := h.perm.nodup_iff.mpr (nsI_nodup n)
theorem LapsP.mem {n : Nat} {LS : List (List Int)} (h : LapsP n LS) {p : Int} : (∃ L ∈ LS, p ∈ L) ↔ 0 ≤ p ∧ p < (n : Int) := by
  rw [← nsI_mem, ← h.perm.mem_iff, List.mem_flatten]
theorem rsF_len (n : Nat) (LS : List (List Int)) : (rsF n LS).length = n := by unfold rsF; rw [List.length_map, nsI_len]
theorem gt_rsF {n : Nat} {LS : List (List Int)} {p : Int} (h0 : 0 ≤ p) (h1 : p < (n : Int)) : gt (rsF n LS) p = nxP LS p := by
  have hi : p.toNat < n := by omega
  have := gt_nat (ns := rsF n LS) (j := p.toNat) (by rw [rsF_len]; exact hi)
  rw [show ((p.toNat : Nat) : Int) = p by omega] at this
  rw [this]
  unfold rsF nsI
  rw [List.getElem_map, List.getElem_map, List.getElem_range, show ((p.toNat : Nat) : Int) = p by omega]
theorem nxL_mem {L : List Int} {p : Int} (hp : p ∈ L) : nxL L p ∈ L := by
  unfold nxL
  have := List.length_pos_of_mem hp
  exact getD_mem (Nat.mod_lt _ this)
theorem LapsP.stt {n : Nat} {LS : List (List Int)} (h : LapsP n LS) (n0 : 1 ≤ n) (n1 : n ≤ 1000) : Stt (rsF n LS) := by
  refine ⟨fun z hz => ?_, by rw [rsF_len]; exact n1, by rw [rsF_len]; exact n0⟩
  rw [rsF_len]
  obtain ⟨p, hp, rfl⟩ := List.mem_map.mp hz
  obtain ⟨L, hL, pL⟩ := h.mem.mpr (nsI_mem.mp hp)
  rw [nx_lap h.nd hL pL]
  exact h.mem.mp ⟨L, hL, nxL_mem pL⟩
/-- within a lap each points at the next -/
theorem LapsP.next {n : Nat} {LS : List (List Int)} (h : LapsP n LS) {L : List Int} (hL : L ∈ LS) {i : Nat} (hi : i < L.length) : gt (rsF n LS) (L.getD i 0) = L.getD ((i + 1) % L.length) 0 := by
  have m : L.getD i 0 ∈ L := getD_mem hi
  have b := h.mem.mp ⟨L, hL, m⟩
  rw [gt_rsF b.1 b.2, nx_lap h.nd hL m]
  unfold nxL
  have e : L.getD i 0 = L[i] := by rw [List.getD_eq_getElem?_getD, List.getElem?_eq_getElem hi]; rfl
  rw [e, (lap_nodup h.nd hL).idxOf_getElem i hi]
theorem head_itr {ns : List Int} (h : Stt ns) {z : Int} (hz : Per ns z) : ∀ m, Per ns (itr ns z m) ∧ headF ns (itr ns z m) = headF ns z
  | 0 => ⟨hz, rfl⟩
  | m + 1 => by
    obtain ⟨a, b⟩ := head_itr h hz m
    show Per ns (gt ns (itr ns z m)) ∧ headF ns (gt ns (itr ns z m)) = _
    exact ⟨h.gt a, by rw [head_gt h a, b]⟩
end Lp

namespace Lp
open PySem PySem.Spec PyProof.Rows L2
local macro_rules | `(tactic| rfl') => `(tactic| try dsimp only [dVar_, gv_sh, gv_ow, gv_bx, gv_raw, gv_exn, gv_st, dC, dRaw, dOp, dUn, dTest, dTruth, dAnd, dOr, dNot, dYes, dIf, dAndV, dOrV, dNotV, dNotT, dChain, dNil, dCons, dTup, dLst, dats, dCB, dNoP, dPart, dSl, dNext, dBreak, dCont, dNever, dDrop, dRet, dRetN, dIfS, dSetG, dPar, dPar3, dAppend, dAppPop, dSetIx, dExt, dAug, dSet0, dSAdd, dSNotIn, dIter_, gi_l, gi_t, gi_b, dRng1, dRng2, dName, dGNil, dGCons, dGTup, dAsg, dFor, dWhile, dCall, dCallR, dArgs_, ga_f, ga_t, argsOf, dLc, wipeE, dListRg, dIndex, dSortSet, dSortSc, dEnum, dEnA, dZip, dIsi, dIsi2, isaT, φI, φB, φC, φNeg, add_i, add_l, add_t, mul_i, mul_l, φIx, sl_l, sl_t, eq_i, eq_s, eq_l, eq_t, eq_b, eq_n, φIsN, isN_n, isN_b, isN_i, isN_s, isN_l, isN_t, φLen, φList, φTuple, φAbs, φInt, φMax, φIsB, φIsNB, its_l, its_t, rd_sh, rd_nw, rd_br, rp_sh, rp_nw, rp_br, rp_bx, rp_raw, rp_sr, rr_sh, rr_nw, rr_br, ra_sh, ra_br, ra_bx, ra_raw, va_sh, va_nt, va_nf, va_raw, hb_n, hb_sh, hb_bx, hb_raw, hb_br, sh_n, sh_c, tr_n, tr_b, tr_i, tr_l, tr_t, ty_n, ty_b, ty_i, ty_s, ty_l, ty_t, if_ff, if_tt, Env.set, List.getElem?_cons_succ, List.getElem?_cons_zero, List.set_cons_succ, List.set_cons_zero, List.reverse_cons, List.reverse_nil, List.nil_append, List.cons_append, Option.bind_some, ite_true, ite_false, dCallX, dArgsX_, gx_s, dRaise, dIsX, dAttr, dIsNE, dListZip, dST0, dSTAdd, dSTIn, dDc, gv_sto, dPub, gv_dco, gv_dsh, dDIn, dDGet, dSortD, dDisp1, dDNew, dDPut, va_dt, va_df, va_ds, rr_dn, rr_db, rr_ds, rw_dn, rw_db, rw_ds])
end Lp

namespace Lp
open PySem PySem.Spec PyProof.Rows L2
local macro_rules | `(tactic| rfl') => `(tactic| try dsimp only [dVar_, gv_sh, gv_ow, gv_bx, gv_raw, gv_exn, gv_st, dC, dRaw, dOp, dUn, dTest, dTruth, dAnd, dOr, dNot, dYes, dIf, dAndV, dOrV, dNotV, dNotT, dChain, dNil, dCons, dTup, dLst, dats, dCB, dNoP, dPart, dSl, dNext, dBreak, dCont, dNever, dDrop, dRet, dRetN, dIfS, dSetG, dPar, dPar3, dAppend, dAppPop, dSetIx, dExt, dAug, dSet0, dSAdd, dSNotIn, dIter_, gi_l, gi_t, gi_b, dRng1, dRng2, dName, dGNil, dGCons, dGTup, dAsg, dFor, dWhile, dCall, dCallR, dArgs_, ga_f, ga_t, argsOf, dLc, wipeE, dListRg, dIndex, dSortSet, dSortSc, dEnum, dEnA, dZip, dIsi, dIsi2, isaT, φI, φB, φC, φNeg, add_i, add_l, add_t, mul_i, mul_l, φIx, sl_l, sl_t, eq_i, eq_s, eq_l, eq_t, eq_b, eq_n, φIsN, isN_n, isN_b, isN_i, isN_s, isN_l, isN_t, φLen, φList, φTuple, φAbs, φInt, φMax, φIsB, φIsNB, its_l, its_t, rd_sh, rd_nw, rd_br, rp_sh, rp_nw, rp_br, rp_bx, rp_raw, rp_sr, rr_sh, rr_nw, rr_br, ra_sh, ra_br, ra_bx, ra_raw, va_sh, va_nt, va_nf, va_raw, hb_n, hb_sh, hb_bx, hb_raw, hb_br, sh_n, sh_c, tr_n, tr_b, tr_i, tr_l, tr_t, ty_n, ty_b, ty_i, ty_s, ty_l, ty_t, if_ff, if_tt, Env.set, List.getElem?_cons_succ, List.getElem?_cons_zero, List.set_cons_succ, List.set_cons_zero, List.reverse_cons, List.reverse_nil, List.nil_append, List.cons_append, Option.bind_some, ite_true, ite_false])
theorem gt_map_nsI {n : Nat} {f : Int → Int} {p : Int} (h0 : 0 ≤ p) (h1 : p < (n : Int)) : gt ((nsI n).map f) p = f p := by
  have hi : p.toNat < n := by omega
  have := gt_nat (ns := (nsI n).map f) (j := p.toNat) (by rw [List.length_map, nsI_len]; exact hi)
  rw [show ((p.toNat : Nat) : Int) = p by omega] at this
  rw [this]
  unfold nsI
  rw [List.getElem_map, List.getElem_map, List.getElem_range, show ((p.toNat : Nat) : Int) = p by omega]
end Lp

namespace Lp
open PySem PySem.Spec PyProof.Rows L2
local macro_rules | `(tactic| rfl') => `(tactic| try dsimp only [dVar_, gv_sh, gv_ow, gv_bx, gv_raw, gv_exn, gv_st, dC, dRaw, dOp, dUn, dTest, dTruth, dAnd, dOr, dNot, dYes, dIf, dAndV, dOrV, dNotV, dNotT, dChain, dNil, dCons, dTup, dLst, dats, dCB, dNoP, dPart, dSl, dNext, dBreak, dCont, dNever, dDrop, dRet, dRetN, dIfS, dSetG, dPar, dPar3, dAppend, dAppPop, dSetIx, dExt, dAug, dSet0, dSAdd, dSNotIn, dIter_, gi_l, gi_t, gi_b, dRng1, dRng2, dName, dGNil, dGCons, dGTup, dAsg, dFor, dWhile, dCall, dCallR, dArgs_, ga_f, ga_t, argsOf, dLc, wipeE, dListRg, dIndex, dSortSet, dSortSc, dEnum, dEnA, dZip, dIsi, dIsi2, isaT, φI, φB, φC, φNeg, add_i, add_l, add_t, mul_i, mul_l, φIx, sl_l, sl_t, eq_i, eq_s, eq_l, eq_t, eq_b, eq_n, φIsN, isN_n, isN_b, isN_i, isN_s, isN_l, isN_t, φLen, φList, φTuple, φAbs, φInt, φMax, φIsB, φIsNB, its_l, its_t, rd_sh, rd_nw, rd_br, rp_sh, rp_nw, rp_br, rp_bx, rp_raw, rp_sr, rr_sh, rr_nw, rr_br, ra_sh, ra_br, ra_bx, ra_raw, va_sh, va_nt, va_nf, va_raw, hb_n, hb_sh, hb_bx, hb_raw, hb_br, sh_n, sh_c, tr_n, tr_b, tr_i, tr_l, tr_t, ty_n, ty_b, ty_i, ty_s, ty_l, ty_t, if_ff, if_tt, Env.set, List.getElem?_cons_succ, List.getElem?_cons_zero, List.set_cons_succ, List.set_cons_zero, List.reverse_cons, List.reverse_nil, List.nil_append, List.cons_append, Option.bind_some, ite_true, ite_false, dCallX, dArgsX_, gx_s, dRaise, dIsX, dAttr, dIsNE, dListZip, dST0, dSTAdd, dSTIn, dDc, gv_sto, dPub, gv_dco, gv_dsh, dDIn, dDGet, dSortD, dDisp1, dDNew, dDPut, va_dt, va_df, va_ds, rr_dn, rr_db, rr_ds, rw_dn, rw_db, rw_ds])
def upL (lo : Int) (n : Nat) : List Int := (List.range n).map fun i : Nat => lo + (i : Int)
theorem upL_len (lo : Int) (n : Nat) : (upL lo n).length = n := by unfold upL; rw [List.length_map, List.length_range]
theorem upL_get {lo : Int} {n i : Nat} (h : i < n) : (upL lo n).getD i 0 = lo + (i : Int) := by
  unfold upL
  rw [List.getD_eq_getElem?_getD, List.getElem?_map, List.getElem?_range h]; rfl
theorem upL_mem {lo : Int} {n : Nat} {z : Int} : z ∈ upL lo n ↔ lo ≤ z ∧ z < lo + (n : Int) := by
  unfold upL
  rw [List.mem_map]
  constructor
  · rintro ⟨i, hi, rfl⟩
    have := List.mem_range.mp hi
    omega
  · rintro ⟨a, b⟩
    exact ⟨(z - lo).toNat, List.mem_range.mpr (by omega), by omega⟩
theorem upL_nodup (lo : Int) (n : Nat) : (upL lo n).Nodup := List.pairwise_map.mpr (List.nodup_range.imp fun {a b} h e => h (by omega))
theorem upL_cons (lo : Int) (n : Nat) : upL lo (n + 1) = lo :: upL (lo + 1) n := by
  unfold upL
  rw [List.range_succ_eq_map, List.map_cons, List.map_map]
  congr 1
  · omega
  · refine List.map_congr_left fun i _ => ?_
    show lo + ((i + 1 : Nat) : Int) = lo + 1 + (i : Int)
    omega
/-- a turned ring, its least member first -/
theorem turnF_rot {lo : Int} {T : List Int} (nd : (lo :: T).Nodup) (low : ∀ z ∈ T, lo ≤ z) (i : Nat) (hi : i < (lo :: T).length) : turnF ((lo :: T).drop i ++ (lo :: T).take i) = lo :: T := by
  have mm : ∀ z, z ∈ (lo :: T).drop i ++ (lo :: T).take i ↔ z ∈ lo :: T := fun z => (List.perm_append_comm.trans (by rw [List.take_append_drop])).mem_iff
  have ml : minF ((lo :: T).drop i ++ (lo :: T).take i) = lo := by
    have m := minF_ok (ms := (lo :: T).drop i ++ (lo :: T).take i) (List.ne_nil_of_mem ((mm lo).mpr List.mem_cons_self))
    have a := m.2 lo ((mm lo).mpr List.mem_cons_self)
    have b := (mm _).mp m.1
    rcases List.mem_cons.mp b with e | e
    · exact e
    · have := low _ e; omega
  show turnTo _ (minF _) = _
  rw [ml]
  cases i with
  | zero =>
    rw [List.drop_zero, List.take_zero, List.append_nil]
    have := turnTo_mid (X := []) (Y := T) (z := lo) (fun q => nomatch q)
    rw [List.nil_append, List.append_nil] at this
    exact this
  | succ i =>
    rw [List.drop_succ_cons, List.take_succ_cons, turnTo_mid (fun q => (List.nodup_cons.mp nd).1 (List.mem_of_mem_drop q)), List.cons_append, List.take_append_drop]
theorem ring_list {s : List Int} (h : Stt s) {lo : Int} {T : List Int} (nd : (lo :: T).Nodup) (low : ∀ z ∈ T, lo ≤ z) (nx : ∀ i, i < (lo :: T).length → gt s ((lo :: T).getD i 0) = (lo :: T).getD ((i + 1) % (lo :: T).length) 0) {p : Int} (hp : Per s p) (m : p ∈ lo :: T) : ringF s p = lo :: T := by
  obtain ⟨i, hi, e⟩ := List.mem_iff_getElem.mp m
  have e : (lo :: T).getD i 0 = p := by rw [List.getD_eq_getElem?_getD, List.getElem?_eq_getElem hi]; exact e
  obtain ⟨cy, it⟩ := kept_cyc nd (fun z => nomatch z) nx hi
  rw [e] at cy it
  rw [cyc_ring h hp cy, it, turnF_rot nd low i hi]
theorem ring_up {s : List Int} (h : Stt s) {lo : Int} {n : Nat} (nx : ∀ i, i < n → gt s (lo + (i : Int)) = lo + (((i + 1) % n : Nat) : Int)) {p : Int} (hp : Per s p) (m : lo ≤ p ∧ p < lo + (n : Int)) : ringF s p = upL lo n := by
  cases n with
  | zero => omega
  | succ n =>
    have e := upL_cons lo n
    have mm := upL_mem.mpr m
    rw [e] at mm ⊢
    refine ring_list h (by rw [← e]; exact upL_nodup _ _) (fun z hz => by have := (upL_mem.mp hz).1; omega) (fun i hi => ?_) hp mm
    rw [← e] at hi ⊢
    rw [upL_len] at hi ⊢
    rw [upL_get hi, upL_get (Nat.mod_lt _ (by omega)), nx i hi]
theorem ring_at_ {s : List Int} (h : Stt s) {r p : Int} (hp : Per s p) (hr : Per s r) (e1 : gt s p = r) (e2 : gt s r = r) : ringF s p = [r] := by
  have e : ringF s (gt s p) = ringF s p := ringF_step h.lo hp.1 hp.2
  have cy : Cyc s r 1 := ⟨by decide, e2, by unfold itrs; simp⟩
  rw [← e, e1, cyc_ring h hr cy, show itrs s r 1 = [r] from rfl]
  simp [turnF, minF]
def blk (k : Nat) (f : Int → Int) (p : Int) : Int := if p < (k : Int) then (p + 1) % (k : Int) else (k : Int) + f (p - (k : Int))
def bst (k n : Nat) (f : Int → Int) : List Int := (nsI (k + n)).map (blk k f)
def Fin (n : Nat) (f : Int → Int) : Prop := ∀ i, 0 ≤ i → i < (n : Int) → 0 ≤ f i ∧ f i < (n : Int)
theorem bst_len (k n : Nat) (f : Int → Int) : (bst k n f).length = k + n := by unfold bst; rw [List.length_map, nsI_len]
theorem bst_gt {k n : Nat} {f : Int → Int} {p : Int} (h0 : 0 ≤ p) (h1 : p < ((k + n : Nat) : Int)) : gt (bst k n f) p = blk k f p := gt_map_nsI h0 h1
theorem bst_hi {k n : Nat} {f : Int → Int} {i : Int} (h0 : 0 ≤ i) (h1 : i < (n : Int)) : gt (bst k n f) ((k : Int) + i) = (k : Int) + f i := by
  rw [bst_gt (by omega) (by omega)]
  unfold blk
  rw [if_neg (by omega), show (k : Int) + i - (k : Int) = i by omega]
theorem bst_st {k n : Nat} {f : Int → Int} (hf : Fin n f) (n0 : 1 ≤ n) (le : k + n ≤ 1000) : Stt (bst k n f) := by
  refine ⟨fun z hz => ?_, by rw [bst_len]; exact le, by rw [bst_len]; omega⟩
  rw [bst_len]
  obtain ⟨p, hp, rfl⟩ := List.mem_map.mp hz
  have hp := nsI_mem.mp hp
  unfold blk
  by_cases q : p < (k : Int)
  · rw [if_pos q]
    have a := Int.emod_nonneg (p + 1) (show (k : Int) ≠ 0 by omega)
    have b := Int.emod_lt_of_pos (p + 1) (show (0 : Int) < (k : Int) by omega)
    omega
  · rw [if_neg q]
    have := hf (p - (k : Int)) (by omega) (by omega)
    omega
def fUp (n : Nat) (i : Int) : Int := (i + 1) % (n : Int)
theorem fin_up {n : Nat} (n0 : 1 ≤ n) : Fin n (fUp n) := fun i _ _ => ⟨Int.emod_nonneg _ (by omega), Int.emod_lt_of_pos _ (by omega)⟩
theorem bst_up {k n : Nat} (h : Stt (bst k n (fUp n))) {p : Int} (h0 : (k : Int) ≤ p) (h1 : p < (k : Int) + (n : Int)) : ringF (bst k n (fUp n)) p = upL (k : Int) n := by
  refine ring_up h (fun i hi => ?_) ⟨by omega, by rw [bst_len]; omega⟩ ⟨h0, h1⟩
  rw [bst_hi (by omega) (by omega)]
  unfold fUp
  rw [Int.natCast_emod]; rfl
theorem bst0 (n : Nat) (f : Int → Int) : bst 0 n f = (nsI n).map f := by
  unfold bst
  rw [Nat.zero_add]
  refine List.map_congr_left fun p hp => ?_
  have := nsI_mem.mp hp
  unfold blk
  rw [if_neg (by omega)]
  show ((0 : Nat) : Int) + f (p - ((0 : Nat) : Int)) = f p
  rw [show p - ((0 : Nat) : Int) = p by omega]; omega
theorem lc_ring {k : Nat} {g : DTE} {vs : List Nat} {s : List SV} {Q : R → Env → Prop} {c n : Nat} {f : Int → Int} (le : n ≤ 1000) (st : ∀ i : Nat, i < n → ∀ K : R → Env → Prop, (∀ r ε, r.pub = .sh (.int (f (i : Int))) → ε.c = c → K r ε) → dName k (.int (i : Nat)) ⟨wipeE ⟨s, c⟩ vs, c⟩ fun ε1 => g ε1 K) (q : Q (.nw (dI (bst 0 n f))) ⟨s, c⟩) : lcD (dName k) dYes g vs s Q (rgD 0 ((n : Nat) : Int).toNat) [] c := by
  have e : rgD 0 ((n : Nat) : Int).toNat = (List.range n).map fun i : Nat => PyData.int (i : Nat) := by
    rw [Int.toNat_natCast]
    unfold rgD
    exact List.map_congr_left fun i _ => by rw [Int.zero_add]
  rw [e]
  refine lc_all (fun i : Nat => PyData.int (i : Nat)) (fun i : Nat => .int (f (i : Int))) (List.range n) [] (fun i hi K hK => st i (List.mem_range.mp hi) K hK) (by rw [List.length_range]; show 0 + _ ≤ _; omega) ?_
  rw [List.nil_append, show (List.range n).map (fun i : Nat => PyData.int (f (i : Int))) = dI (bst 0 n f) by
    rw [bst0]
    unfold nsI
    show _ = List.map _ (List.map _ (List.map _ _))
    rw [List.map_map, List.map_map]; rfl]
  exact q
end Lp

namespace Lp
open PySem PySem.Spec PyProof.Rows L2
local macro_rules | `(tactic| rfl') => `(tactic| try dsimp only [dVar_, gv_sh, gv_ow, gv_bx, gv_raw, gv_exn, gv_st, dC, dRaw, dOp, dUn, dTest, dTruth, dAnd, dOr, dNot, dYes, dIf, dAndV, dOrV, dNotV, dNotT, dChain, dNil, dCons, dTup, dLst, dats, dCB, dNoP, dPart, dSl, dNext, dBreak, dCont, dNever, dDrop, dRet, dRetN, dIfS, dSetG, dPar, dPar3, dAppend, dAppPop, dSetIx, dExt, dAug, dSet0, dSAdd, dSNotIn, dIter_, gi_l, gi_t, gi_b, dRng1, dRng2, dName, dGNil, dGCons, dGTup, dAsg, dFor, dWhile, dCall, dCallR, dArgs_, ga_f, ga_t, argsOf, dLc, wipeE, dListRg, dIndex, dSortSet, dSortSc, dEnum, dEnA, dZip, dIsi, dIsi2, isaT, φI, φB, φC, φNeg, add_i, add_l, add_t, mul_i, mul_l, φIx, sl_l, sl_t, eq_i, eq_s, eq_l, eq_t, eq_b, eq_n, φIsN, isN_n, isN_b, isN_i, isN_s, isN_l, isN_t, φLen, φList, φTuple, φAbs, φInt, φMax, φIsB, φIsNB, its_l, its_t, rd_sh, rd_nw, rd_br, rp_sh, rp_nw, rp_br, rp_bx, rp_raw, rp_sr, rr_sh, rr_nw, rr_br, ra_sh, ra_br, ra_bx, ra_raw, va_sh, va_nt, va_nf, va_raw, hb_n, hb_sh, hb_bx, hb_raw, hb_br, sh_n, sh_c, tr_n, tr_b, tr_i, tr_l, tr_t, ty_n, ty_b, ty_i, ty_s, ty_l, ty_t, if_ff, if_tt, Env.set, List.getElem?_cons_succ, List.getElem?_cons_zero, List.set_cons_succ, List.set_cons_zero, List.reverse_cons, List.reverse_nil, List.nil_append, List.cons_append, Option.bind_some, ite_true, ite_false])
section
variable {ns ws : List Int} (h : Stt ns) (lw : Low ns.length ws) {B : Nat} (hB : FirstS ns ws B)
include h lw hB
end
end Lp

namespace Lp
open PySem PySem.Spec PyProof.Rows L2
local macro_rules | `(tactic| rfl') => `(tactic| try dsimp only [dVar_, gv_sh, gv_ow, gv_bx, gv_raw, gv_exn, gv_st, dC, dRaw, dOp, dUn, dTest, dTruth, dAnd, dOr, dNot, dYes, dIf, dAndV, dOrV, dNotV, dNotT, dChain, dNil, dCons, dTup, dLst, dats, dCB, dNoP, dPart, dSl, dNext, dBreak, dCont, dNever, dDrop, dRet, dRetN, dIfS, dSetG, dPar, dPar3, dAppend, dAppPop, dSetIx, dExt, dAug, dSet0, dSAdd, dSNotIn, dIter_, gi_l, gi_t, gi_b, dRng1, dRng2, dName, dGNil, dGCons, dGTup, dAsg, dFor, dWhile, dCall, dCallR, dArgs_, ga_f, ga_t, argsOf, dLc, wipeE, dListRg, dIndex, dSortSet, dSortSc, dEnum, dEnA, dZip, dIsi, dIsi2, isaT, φI, φB, φC, φNeg, add_i, add_l, add_t, mul_i, mul_l, φIx, sl_l, sl_t, eq_i, eq_s, eq_l, eq_t, eq_b, eq_n, φIsN, isN_n, isN_b, isN_i, isN_s, isN_l, isN_t, φLen, φList, φTuple, φAbs, φInt, φMax, φIsB, φIsNB, its_l, its_t, rd_sh, rd_nw, rd_br, rp_sh, rp_nw, rp_br, rp_bx, rp_raw, rp_sr, rr_sh, rr_nw, rr_br, ra_sh, ra_br, ra_bx, ra_raw, va_sh, va_nt, va_nf, va_raw, hb_n, hb_sh, hb_bx, hb_raw, hb_br, sh_n, sh_c, tr_n, tr_b, tr_i, tr_l, tr_t, ty_n, ty_b, ty_i, ty_s, ty_l, ty_t, if_ff, if_tt, Env.set, List.getElem?_cons_succ, List.getElem?_cons_zero, List.set_cons_succ, List.set_cons_zero, List.reverse_cons, List.reverse_nil, List.nil_append, List.cons_append, Option.bind_some, ite_true, ite_false])
structure Core (c sp : List Int) : Prop where
  st : Stt c
  on : ∀ x, Per c x → x ∈ ringF c x
  pt : ∀ z ∈ sp, Per c z
  le : c.length + sp.length ≤ 1000
theorem gt_guest {c sp : List Int} {g : Nat} (hg : g < sp.length) : gt (c ++ sp) ((c.length + g : Nat) : Int) = sp.getD g 0 := by
  have e := gt_nat (ns := c ++ sp) (j := c.length + g) (by rw [List.length_append]; omega)
  rw [e, List.getElem_append_right (by omega), List.getD_eq_getElem?_getD, List.getElem?_eq_getElem hg]
  show sp[c.length + g - c.length] = sp[g]
  congr 1; omega
theorem Core.pg {c sp : List Int} (C : Core c sp) {g : Nat} (hg : g < sp.length) : Per c (sp.getD g 0) := C.pt _ (getD_mem hg)
theorem Core.stt {c sp : List Int} (C : Core c sp) : Stt (c ++ sp) := by
  refine ⟨fun z hz => ?_, by rw [List.length_append]; exact C.le, by rw [List.length_append]; have := C.st.ge; omega⟩
  rw [List.length_append]
  rcases List.mem_append.mp hz with m | m
  · have := C.st.lo z m; omega
  · obtain ⟨z0, z1⟩ := C.pt z m
    omega
theorem Core.emb {c sp : List Int} (C : Core c sp) : Emb c (c ++ sp) id where
  ha := C.st
  hr := C.stt
  per := fun x hx => ⟨hx.1, by rw [List.length_append]; have := hx.2; show x < _; omega⟩
  inj := fun x y _ _ e => e
  step := fun x hx => gt_left hx
theorem per_guest {c sp : List Int} {g : Nat} (hg : g < sp.length) : Per (c ++ sp) ((c.length + g : Nat) : Int) := ⟨by omega, by rw [List.length_append]; omega⟩
theorem Core.walk {c sp : List Int} (C : Core c sp) {x : Int} (hx : Per c x) (k : Nat) : itr (c ++ sp) x k = itr c x k := C.emb.walk hx k
theorem Core.cyc {c sp : List Int} (C : Core c sp) {x : Int} (hx : Per c x) {d : Nat} : Cyc (c ++ sp) x d ↔ Cyc c x d := C.emb.cyc hx
theorem Core.ring {c sp : List Int} (C : Core c sp) {x : Int} (hx : Per c x) : ringF (c ++ sp) x = ringF c x := by
  obtain ⟨d, cy⟩ := (on_iff C.st hx).mp (C.on x hx)
  have e := C.emb.walks hx d
  rw [List.map_id] at e
  have h2 : ringF (c ++ sp) x = turnF (itrs (c ++ sp) x d) := cyc_ring C.stt (C.emb.per x hx) ((C.cyc hx).mpr cy)
  rw [cyc_ring C.st hx cy, h2, show itrs (c ++ sp) x d = itrs c x d from e]
theorem Core.gring {c sp : List Int} (C : Core c sp) {g : Nat} (hg : g < sp.length) : ringF (c ++ sp) ((c.length + g : Nat) : Int) = ringF c (sp.getD g 0) := by
  have p := per_guest (c := c) hg
  have e : ringF (c ++ sp) (gt (c ++ sp) ((c.length + g : Nat) : Int)) = ringF (c ++ sp) ((c.length + g : Nat) : Int) := ringF_step C.stt.lo p.1 p.2
  rw [← e, gt_guest hg, C.ring (C.pg hg)]
theorem Core.set {c sp : List Int} (C : Core c sp) {g : Nat} {v : Int} (hv : Per c v) : Core c (sp.set g v) := by
  refine ⟨C.st, C.on, fun z hz => ?_, by rw [List.length_set]; exact C.le⟩
  rcases List.mem_or_eq_of_mem_set hz with m | m
  · exact C.pt z m
  · rw [m]; exact hv
theorem Core.call {c sp : List Int} (C : Core c sp) {g : Nat} (hg : g < sp.length) : call1 (c ++ sp) ((c.length + g : Nat) : Int) = c ++ sp.set g (gt c (sp.getD g 0)) := by
  unfold call1
  rw [gt_guest hg, show gt (c ++ sp) (sp.getD g 0) = gt c (sp.getD g 0) from C.emb.step _ (C.pg hg), Int.toNat_natCast, List.set_append_right _ _ (by omega), show c.length + g - c.length = g by omega]
/-- each guest so many steps further -/
def mvG (c sp : List Int) (k : Nat → Nat) : List Int := (List.range sp.length).map fun g => itr c (sp.getD g 0) (k g)
theorem mvG_len (c sp : List Int) (k : Nat → Nat) : (mvG c sp k).length = sp.length := by unfold mvG; rw [List.length_map, List.length_range]
theorem mvG_get {c sp : List Int} {k : Nat → Nat} {g : Nat} (hg : g < sp.length) : (mvG c sp k).getD g 0 = itr c (sp.getD g 0) (k g) := by
  unfold mvG
  rw [List.getD_eq_getElem?_getD, List.getElem?_map, List.getElem?_range hg]; rfl
theorem Core.mv {c sp : List Int} (C : Core c sp) (k : Nat → Nat) : Core c (mvG c sp k) := by
  refine ⟨C.st, C.on, fun z hz => ?_, by rw [mvG_len]; exact C.le⟩
  obtain ⟨g, hg, rfl⟩ := List.mem_map.mp hz
  exact (head_itr C.st (C.pg (List.mem_range.mp hg)) _).1
theorem set_get {sp : List Int} {g h : Nat} {v : Int} (hh : h < sp.length) : (sp.set g v).getD h 0 = if h = g then v else sp.getD h 0 := by
  rw [List.getD_eq_getElem?_getD, List.getD_eq_getElem?_getD, List.getElem?_set]
  by_cases e : g = h
  · rw [if_pos e, if_pos e.symm, if_pos (by omega)]; rfl
  · rw [if_neg e, if_neg (Ne.symm e)]
/-- calls of guests -/
theorem guests {c : List Int} : ∀ (ws sp : List Int), Core c sp → (∀ w ∈ ws, ∃ g : Nat, g < sp.length ∧ w = ((c.length + g : Nat) : Int)) → callAll (c ++ sp) ws = c ++ mvG c sp fun g => ws.count ((c.length + g : Nat) : Int)
  | [], sp, C, _ => by
    show c ++ sp = _
    congr 1
    refine List.ext_getElem (by rw [mvG_len]) fun i h1 h2 => ?_
    have e := mvG_get (c := c) (k := fun g => ([] : List Int).count ((c.length + g : Nat) : Int)) h1
    rw [List.getD_eq_getElem?_getD, List.getElem?_eq_getElem h2] at e
    rw [show ((mvG c sp fun g => ([] : List Int).count ((c.length + g : Nat) : Int))[i] : Int) = _ from e, List.getD_eq_getElem?_getD, List.getElem?_eq_getElem h1]
    rfl
  | w :: ws, sp, C, hw => by
    obtain ⟨g, hg, rfl⟩ := hw w List.mem_cons_self
    show callAll (call1 (c ++ sp) _) ws = _
    rw [C.call hg]
    have ih := guests ws (sp.set g (gt c (sp.getD g 0))) (C.set (C.st.gt (C.pg hg))) fun x hx => by
      obtain ⟨h, hh, e⟩ := hw x (List.mem_cons_of_mem _ hx)
      exact ⟨h, by rw [List.length_set]; exact hh, e⟩
    rw [ih]
    congr 1
    unfold mvG
    rw [List.length_set]
    refine List.map_congr_left fun h hh => ?_
    have hh := List.mem_range.mp hh
    show itr c ((sp.set g (gt c (sp.getD g 0))).getD h 0) (ws.count ((c.length + h : Nat) : Int)) = itr c (sp.getD h 0) ((((c.length + g : Nat) : Int) :: ws).count ((c.length + h : Nat) : Int))
    rw [set_get hh, List.count_cons]
    by_cases e : h = g
    · subst e
      rw [if_pos rfl, beq_self_eq_true, if_pos rfl, itr_succ]
    · rw [if_neg e, beq_eq_false_iff_ne.mpr (by omega), if_neg (fun z => nomatch z)]; rfl
theorem mvG_mvG {c sp : List Int} {k j : Nat → Nat} : mvG c (mvG c sp k) j = mvG c sp fun g => k g + j g := by
  unfold mvG
  rw [List.length_map, List.length_range]
  refine List.map_congr_left fun g hg => ?_
  have e := mvG_get (c := c) (k := k) (List.mem_range.mp hg)
  unfold mvG at e
  rw [e, ← itr_add]
theorem guest_rep {c sp ws : List Int} (C : Core c sp) (hw : ∀ w ∈ ws, ∃ g : Nat, g < sp.length ∧ w = ((c.length + g : Nat) : Int)) : ∀ k, rep (c ++ sp) ws k = c ++ mvG c sp fun g => k * ws.count ((c.length + g : Nat) : Int)
  | 0 => by
    have := guests [] sp C (fun w h => nomatch h)
    have e : (mvG c sp fun g => 0 * ws.count ((c.length + g : Nat) : Int)) = mvG c sp fun g => ([] : List Int).count ((c.length + g : Nat) : Int) := by
      congr 1; funext g; rw [Nat.zero_mul]; rfl
    rw [e]
    exact this
  | k + 1 => by
    show callAll (rep (c ++ sp) ws k) ws = _
    rw [guest_rep C hw k, guests ws _ (C.mv _) fun w h => by rw [mvG_len]; exact hw w h, mvG_mvG]
    congr 2
    funext g
    rw [Nat.succ_mul]
theorem guest_off {c sp : List Int} (C : Core c sp) {g : Nat} (hg : g < sp.length) : ¬ ∃ d, Cyc (c ++ sp) ((c.length + g : Nat) : Int) d := fun ⟨d, cy⟩ => by
  have d0 := cy.1
  obtain ⟨m, rfl⟩ : ∃ m, d = m + 1 := ⟨d - 1, by omega⟩
  have e := cy.2.1
  rw [itr_succ, gt_guest hg, C.walk (C.pg hg)] at e
  have := (head_itr C.st (C.pg hg) m).1.2
  omega
/-- with guests alone called, a state is settled at once -/
theorem guest_first {c sp ws : List Int} (C : Core c sp) (hw : ∀ w ∈ ws, ∃ g : Nat, g < sp.length ∧ w = ((c.length + g : Nat) : Int)) : FirstS (c ++ sp) ws 0 := by
  refine ⟨fun p hp => .inr ?_, fun k hk => absurd hk (Nat.not_lt_zero _), Nat.zero_le _⟩
  obtain ⟨g, hg, rfl⟩ := hw p hp
  refine (high_one C.stt (per_guest hg)).mpr ⟨guest_off C hg, ?_⟩
  show ∃ d, Cyc (c ++ sp) (gt (c ++ sp) _) d
  rw [gt_guest hg]
  obtain ⟨d, cy⟩ := (on_iff C.st (C.pg hg)).mp (C.on _ (C.pg hg))
  exact ⟨d, (C.cyc (C.pg hg)).mpr cy⟩
theorem guest_low {c sp ws : List Int} (hw : ∀ w ∈ ws, ∃ g : Nat, g < sp.length ∧ w = ((c.length + g : Nat) : Int)) : Low (c ++ sp).length ws := fun w h => by
  obtain ⟨g, hg, rfl⟩ := hw w h
  rw [List.length_append]; omega
theorem tp_core {c sp ws : List Int} (C : Core c sp) (hw : ∀ w ∈ ws, ∃ g : Nat, g < sp.length ∧ w = ((c.length + g : Nat) : Int)) {x : Int} (hx : Per c x) : tpF (c ++ sp) ws x = 1 := by
  unfold tpF
  have c0 : ws.count x = 0 := List.count_eq_zero.mpr fun m => by
    obtain ⟨g, _, e⟩ := hw x m
    have := hx.2
    omega
  have l0 : 0 < (ringF (c ++ sp) x).length := List.length_pos_iff.mpr (ring_ne C.stt (C.emb.per x hx))
  rw [c0, Nat.gcd_zero_right, Nat.div_self l0]
theorem tp_guest {c sp ws : List Int} (C : Core c sp) {g : Nat} (hg : g < sp.length) : tpF (c ++ sp) ws ((c.length + g : Nat) : Int) = (ringF c (sp.getD g 0)).length / Nat.gcd (ringF c (sp.getD g 0)).length (ws.count ((c.length + g : Nat) : Int)) := by
  unfold tpF
  rw [C.gring hg]
def lcG (L k : Nat → Nat) : Nat → Nat
  | 0 => 1
  | g + 1 => Nat.lcm (lcG L k g) (L g / Nat.gcd (L g) (k g))
theorem lc_guest {c sp ws : List Int} (C : Core c sp) (hw : ∀ w ∈ ws, ∃ g : Nat, g < sp.length ∧ w = ((c.length + g : Nat) : Int)) : lcF (c ++ sp) ws = lcG (fun g => (ringF c (sp.getD g 0)).length) (fun g => ws.count ((c.length + g : Nat) : Int)) sp.length := by
  have low : ∀ j, j ≤ c.length → lcT (c ++ sp) ws j = 1 := fun j => by
    induction j with
    | zero => intro _; rfl
    | succ j ih =>
      intro hj
      show Nat.lcm (lcT (c ++ sp) ws j) (tpF (c ++ sp) ws (j : Nat)) = 1
      rw [ih (by omega), tp_core C hw (per_nat (by omega)), Nat.lcm_self]
  have up : ∀ g, g ≤ sp.length → lcT (c ++ sp) ws (c.length + g) = lcG (fun g => (ringF c (sp.getD g 0)).length) (fun g => ws.count ((c.length + g : Nat) : Int)) g := fun g => by
    induction g with
    | zero => intro _; exact low _ (Nat.le_refl _)
    | succ g ih =>
      intro hg
      show Nat.lcm (lcT (c ++ sp) ws (c.length + g)) (tpF (c ++ sp) ws ((c.length + g : Nat) : Int)) = Nat.lcm _ _
      rw [ih (by omega), tp_guest C (by omega)]
  show lcT (c ++ sp) ws (c ++ sp).length = _
  rw [List.length_append]
  exact up _ (Nat.le_refl _)
theorem div_one_lt {L k : Nat} (L0 : 1 ≤ L) : 1 < L / Nat.gcd L k ↔ k % L ≠ 0 := by
  have g0 : 0 < Nat.gcd L k := Nat.gcd_pos_of_pos_left _ (by omega)
  obtain ⟨q, hq⟩ := Nat.gcd_dvd_left L k
  have eq : L / Nat.gcd L k = q := Nat.div_eq_of_eq_mul_right g0 hq
  rw [eq]
  constructor
  · intro h e
    have d := Nat.dvd_of_mod_eq_zero e
    rw [Nat.gcd_eq_left d] at hq
    have : q = 1 := by
      have : L * q = L * 1 := by omega
      exact Nat.eq_of_mul_eq_mul_left (by omega) this
    omega
  · intro h
    rcases Nat.lt_or_ge 1 q with z | z
    · exact z
    · exfalso
      have q1 : q = 1 := by
        rcases Nat.eq_zero_or_pos q with y | y
        · rw [y, Nat.mul_zero] at hq; omega
        · omega
      rw [q1, Nat.mul_one] at hq
      exact h (Nat.mod_eq_zero_of_dvd (Nat.gcd_eq_left_iff_dvd.mp hq.symm))
theorem tr_guest {c sp ws : List Int} (C : Core c sp) (hw : ∀ w ∈ ws, ∃ g : Nat, g < sp.length ∧ w = ((c.length + g : Nat) : Int)) : trF (c ++ sp) ws = ((List.range sp.length).filter fun g => decide (ws.count ((c.length + g : Nat) : Int) % (ringF c (sp.getD g 0)).length ≠ 0)).map fun g => ((c.length + g : Nat) : Int) := by
  unfold trF
  rw [List.length_append, List.range_add, List.filter_append, List.map_append]
  have e1 : (List.range c.length).filter (fun i : Nat => decide (1 < tpF (c ++ sp) ws (i : Nat))) = [] := by
    refine List.filter_eq_nil_iff.mpr fun i hi => ?_
    rw [tp_core C hw (per_nat (List.mem_range.mp hi))]
    decide
  rw [e1, List.map_nil, List.nil_append, List.filter_map, List.map_map]
  congr 1
  refine List.filter_congr fun g hg => ?_
  have hg := List.mem_range.mp hg
  refine decide_eq_decide.mpr ?_
  rw [show (tpF (c ++ sp) ws (((c.length + g : Nat) : Nat) : Int)) = _ from tp_guest C hg]
  exact div_one_lt (List.length_pos_iff.mpr (ring_ne C.st (C.pg hg)))
/-- the first time that a value is met -/
theorem ft_at {s : Nat → Int} {t : Int} {k : Nat} (e : s k = t) (lt : ∀ j, j < k → s j ≠ t) : ftR s t = .int (k : Nat) := by
  have h : ∃ k, s k = t ∧ ∀ j, j < k → s j ≠ t := ⟨k, e, lt⟩
  unfold ftR
  rw [dif_pos h]
  have c1 := (Classical.choose_spec h).1
  have c2 := (Classical.choose_spec h).2
  congr 2
  rcases Nat.lt_trichotomy (Classical.choose h) k with z | z | z
  · exact absurd c1 (lt _ z)
  · exact z
  · exact absurd e (c2 k z)
theorem ft_no {s : Nat → Int} {t : Int} (no : ∀ k, s k ≠ t) : ftR s t = .none := by
  unfold ftR
  rw [dif_neg fun ⟨k, e, _⟩ => no k e]
end Lp

namespace Lp
open PySem PySem.Spec PyProof.Rows L2
local macro_rules | `(tactic| rfl') => `(tactic| try dsimp only [dVar_, gv_sh, gv_ow, gv_bx, gv_raw, gv_exn, gv_st, dC, dRaw, dOp, dUn, dTest, dTruth, dAnd, dOr, dNot, dYes, dIf, dAndV, dOrV, dNotV, dNotT, dChain, dNil, dCons, dTup, dLst, dats, dCB, dNoP, dPart, dSl, dNext, dBreak, dCont, dNever, dDrop, dRet, dRetN, dIfS, dSetG, dPar, dPar3, dAppend, dAppPop, dSetIx, dExt, dAug, dSet0, dSAdd, dSNotIn, dIter_, gi_l, gi_t, gi_b, dRng1, dRng2, dName, dGNil, dGCons, dGTup, dAsg, dFor, dWhile, dCall, dCallR, dArgs_, ga_f, ga_t, argsOf, dLc, wipeE, dListRg, dIndex, dSortSet, dSortSc, dEnum, dEnA, dZip, dIsi, dIsi2, isaT, φI, φB, φC, φNeg, add_i, add_l, add_t, mul_i, mul_l, φIx, sl_l, sl_t, eq_i, eq_s, eq_l, eq_t, eq_b, eq_n, φIsN, isN_n, isN_b, isN_i, isN_s, isN_l, isN_t, φLen, φList, φTuple, φAbs, φInt, φMax, φIsB, φIsNB, its_l, its_t, rd_sh, rd_nw, rd_br, rp_sh, rp_nw, rp_br, rp_bx, rp_raw, rp_sr, rr_sh, rr_nw, rr_br, ra_sh, ra_br, ra_bx, ra_raw, va_sh, va_nt, va_nf, va_raw, hb_n, hb_sh, hb_bx, hb_raw, hb_br, sh_n, sh_c, tr_n, tr_b, tr_i, tr_l, tr_t, ty_n, ty_b, ty_i, ty_s, ty_l, ty_t, if_ff, if_tt, Env.set, List.getElem?_cons_succ, List.getElem?_cons_zero, List.set_cons_succ, List.set_cons_zero, List.reverse_cons, List.reverse_nil, List.nil_append, List.cons_append, Option.bind_some, ite_true, ite_false])
end Lp

namespace Lp
open PySem PySem.Spec PyProof.Rows L2
section
variable {X : Cx} {K : PySem.W.Frag}
end
section
variable {w : Wx} {K : PySem.W.Frag} {ta te : TE} {f g : DTE}
def dIndexD (f g : DTE) (ε : Env) (Q : R → Env → Prop) : Prop := f ε fun x ε1 => match x.dat with
  | some (.list ds) => g ε1 fun y ε2 => match y.dat with
    | some d => SeqAt.shaped (.list ds) = true ∧ SeqAt.shaped d = true ∧ (∃ z ∈ ds, PyData.eqv z d = true) ∧ Q (.sh (.int (ds.findIdx fun z => PyData.eqv z d : Nat))) ε2
    | none => False
  | _ => False
theorem VL.dp {L H : Hp} {v : V} {d : PyData} (x : VL L H v d) (s : Same L H) : Dp K H v d := DV.dp d v (x.dv s)
end
end Lp

namespace Lp
open PySem PySem.Spec PyProof.Rows L2
local macro_rules | `(tactic| rfl') => `(tactic| try dsimp only [dVar_, gv_sh, gv_ow, gv_bx, gv_raw, gv_exn, gv_st, dC, dRaw, dOp, dUn, dTest, dTruth, dAnd, dOr, dNot, dYes, dIf, dAndV, dOrV, dNotV, dNotT, dChain, dNil, dCons, dTup, dLst, dats, dCB, dNoP, dPart, dSl, dNext, dBreak, dCont, dNever, dDrop, dRet, dRetN, dIfS, dSetG, dPar, dPar3, dAppend, dAppPop, dSetIx, dExt, dAug, dSet0, dSAdd, dSNotIn, dIter_, gi_l, gi_t, gi_b, dRng1, dRng2, dName, dGNil, dGCons, dGTup, dAsg, dFor, dWhile, dCall, dCallR, dArgs_, ga_f, ga_t, argsOf, dLc, wipeE, dListRg, dIndex, dSortSet, dSortSc, dEnum, dEnA, dZip, dIsi, dIsi2, isaT, φI, φB, φC, φNeg, add_i, add_l, add_t, mul_i, mul_l, φIx, sl_l, sl_t, eq_i, eq_s, eq_l, eq_t, eq_b, eq_n, φIsN, isN_n, isN_b, isN_i, isN_s, isN_l, isN_t, φLen, φList, φTuple, φAbs, φInt, φMax, φIsB, φIsNB, its_l, its_t, rd_sh, rd_nw, rd_br, rp_sh, rp_nw, rp_br, rp_bx, rp_raw, rp_sr, rr_sh, rr_nw, rr_br, ra_sh, ra_br, ra_bx, ra_raw, va_sh, va_nt, va_nf, va_raw, hb_n, hb_sh, hb_bx, hb_raw, hb_br, sh_n, sh_c, tr_n, tr_b, tr_i, tr_l, tr_t, ty_n, ty_b, ty_i, ty_s, ty_l, ty_t, if_ff, if_tt, Env.set, List.getElem?_cons_succ, List.getElem?_cons_zero, List.set_cons_succ, List.set_cons_zero, List.reverse_cons, List.reverse_nil, List.nil_append, List.cons_append, Option.bind_some, ite_true, ite_false, dCallX, dArgsX_, gx_s, dRaise, dIsX, dAttr, dIsNE, dCount, dSortSetA, dIndexD, dPub])
section
variable {ns ws : List Int} (h : Stt ns) (lw : Low ns.length ws) {B : Nat} (hB : FirstS ns ws B)
include h lw hB
end
end Lp

namespace Lp
open PySem PySem.Spec PyProof.Rows L2
local macro_rules | `(tactic| rfl') => `(tactic| try dsimp only [dVar_, gv_sh, gv_ow, gv_bx, gv_raw, gv_exn, gv_st, dC, dRaw, dOp, dUn, dTest, dTruth, dAnd, dOr, dNot, dYes, dIf, dAndV, dOrV, dNotV, dNotT, dChain, dNil, dCons, dTup, dLst, dats, dCB, dNoP, dPart, dSl, dNext, dBreak, dCont, dNever, dDrop, dRet, dRetN, dIfS, dSetG, dPar, dPar3, dAppend, dAppPop, dSetIx, dExt, dAug, dSet0, dSAdd, dSNotIn, dIter_, gi_l, gi_t, gi_b, dRng1, dRng2, dName, dGNil, dGCons, dGTup, dAsg, dFor, dWhile, dCall, dCallR, dArgs_, ga_f, ga_t, argsOf, dLc, wipeE, dListRg, dIndex, dSortSet, dSortSc, dEnum, dEnA, dZip, dIsi, dIsi2, isaT, φI, φB, φC, φNeg, add_i, add_l, add_t, mul_i, mul_l, φIx, sl_l, sl_t, eq_i, eq_s, eq_l, eq_t, eq_b, eq_n, φIsN, isN_n, isN_b, isN_i, isN_s, isN_l, isN_t, φLen, φList, φTuple, φAbs, φInt, φMax, φIsB, φIsNB, its_l, its_t, rd_sh, rd_nw, rd_br, rp_sh, rp_nw, rp_br, rp_bx, rp_raw, rp_sr, rr_sh, rr_nw, rr_br, ra_sh, ra_br, ra_bx, ra_raw, va_sh, va_nt, va_nf, va_raw, hb_n, hb_sh, hb_bx, hb_raw, hb_br, sh_n, sh_c, tr_n, tr_b, tr_i, tr_l, tr_t, ty_n, ty_b, ty_i, ty_s, ty_l, ty_t, if_ff, if_tt, Env.set, List.getElem?_cons_succ, List.getElem?_cons_zero, List.set_cons_succ, List.set_cons_zero, List.reverse_cons, List.reverse_nil, List.nil_append, List.cons_append, Option.bind_some, ite_true, ite_false])
end Lp

namespace Lp
open PySem PySem.Spec PyProof.Rows L2
local macro_rules | `(tactic| rfl') => `(tactic| try dsimp only [dVar_, gv_sh, gv_ow, gv_bx, gv_raw, gv_exn, gv_st, dC, dRaw, dOp, dUn, dTest, dTruth, dAnd, dOr, dNot, dYes, dIf, dAndV, dOrV, dNotV, dNotT, dChain, dNil, dCons, dTup, dLst, dats, dCB, dNoP, dPart, dSl, dNext, dBreak, dCont, dNever, dDrop, dRet, dRetN, dIfS, dSetG, dPar, dPar3, dAppend, dAppPop, dSetIx, dExt, dAug, dSet0, dSAdd, dSNotIn, dIter_, gi_l, gi_t, gi_b, dRng1, dRng2, dName, dGNil, dGCons, dGTup, dAsg, dFor, dWhile, dCall, dCallR, dArgs_, ga_f, ga_t, argsOf, dLc, wipeE, dListRg, dIndex, dSortSet, dSortSc, dEnum, dEnA, dZip, dIsi, dIsi2, isaT, φI, φB, φC, φNeg, add_i, add_l, add_t, mul_i, mul_l, φIx, sl_l, sl_t, eq_i, eq_s, eq_l, eq_t, eq_b, eq_n, φIsN, isN_n, isN_b, isN_i, isN_s, isN_l, isN_t, φLen, φList, φTuple, φAbs, φInt, φMax, φIsB, φIsNB, its_l, its_t, rd_sh, rd_nw, rd_br, rp_sh, rp_nw, rp_br, rp_bx, rp_raw, rp_sr, rr_sh, rr_nw, rr_br, ra_sh, ra_br, ra_bx, ra_raw, va_sh, va_nt, va_nf, va_raw, hb_n, hb_sh, hb_bx, hb_raw, hb_br, sh_n, sh_c, tr_n, tr_b, tr_i, tr_l, tr_t, ty_n, ty_b, ty_i, ty_s, ty_l, ty_t, if_ff, if_tt, Env.set, List.getElem?_cons_succ, List.getElem?_cons_zero, List.set_cons_succ, List.set_cons_zero, List.reverse_cons, List.reverse_nil, List.nil_append, List.cons_append, Option.bind_some, ite_true, ite_false])
end Lp

namespace Lp
open PySem PySem.Spec PyProof.Rows L2
section
variable {X : Cx}
end
end Lp

namespace Lp
open PySem PySem.Spec PyProof.Rows L2
local macro_rules | `(tactic| rfl') => `(tactic| try dsimp only [dVar_, gv_sh, gv_ow, gv_bx, gv_raw, gv_exn, gv_st, dC, dRaw, dOp, dUn, dTest, dTruth, dAnd, dOr, dNot, dYes, dIf, dAndV, dOrV, dNotV, dNotT, dChain, dNil, dCons, dTup, dLst, dats, dCB, dNoP, dPart, dSl, dNext, dBreak, dCont, dNever, dDrop, dRet, dRetN, dIfS, dSetG, dPar, dPar3, dAppend, dAppPop, dSetIx, dExt, dAug, dSet0, dSAdd, dSNotIn, dIter_, gi_l, gi_t, gi_b, dRng1, dRng2, dName, dGNil, dGCons, dGTup, dAsg, dFor, dWhile, dCall, dCallR, dArgs_, ga_f, ga_t, argsOf, dLc, wipeE, dListRg, dIndex, dSortSet, dSortSc, dEnum, dEnA, dZip, dIsi, dIsi2, isaT, φI, φB, φC, φNeg, add_i, add_l, add_t, mul_i, mul_l, φIx, sl_l, sl_t, eq_i, eq_s, eq_l, eq_t, eq_b, eq_n, φIsN, isN_n, isN_b, isN_i, isN_s, isN_l, isN_t, φLen, φList, φTuple, φAbs, φInt, φMax, φIsB, φIsNB, its_l, its_t, rd_sh, rd_nw, rd_br, rp_sh, rp_nw, rp_br, rp_bx, rp_raw, rp_sr, rr_sh, rr_nw, rr_br, ra_sh, ra_br, ra_bx, ra_raw, va_sh, va_nt, va_nf, va_raw, hb_n, hb_sh, hb_bx, hb_raw, hb_br, sh_n, sh_c, tr_n, tr_b, tr_i, tr_l, tr_t, ty_n, ty_b, ty_i, ty_s, ty_l, ty_t, if_ff, if_tt, Env.set, List.getElem?_cons_succ, List.getElem?_cons_zero, List.set_cons_succ, List.set_cons_zero, List.reverse_cons, List.reverse_nil, List.nil_append, List.cons_append, Option.bind_some, ite_true, ite_false])
end Lp

namespace Lp
open PySem PySem.Spec PyProof.Rows L2
local macro_rules | `(tactic| rfl') => `(tactic| try dsimp only [dVar_, gv_sh, gv_ow, gv_bx, gv_raw, gv_exn, gv_st, dC, dRaw, dOp, dUn, dTest, dTruth, dAnd, dOr, dNot, dYes, dIf, dAndV, dOrV, dNotV, dNotT, dChain, dNil, dCons, dTup, dLst, dats, dCB, dNoP, dPart, dSl, dNext, dBreak, dCont, dNever, dDrop, dRet, dRetN, dIfS, dSetG, dPar, dPar3, dAppend, dAppPop, dSetIx, dExt, dAug, dSet0, dSAdd, dSNotIn, dIter_, gi_l, gi_t, gi_b, dRng1, dRng2, dName, dGNil, dGCons, dGTup, dAsg, dFor, dWhile, dCall, dCallR, dArgs_, ga_f, ga_t, argsOf, dLc, wipeE, dListRg, dIndex, dSortSet, dSortSc, dEnum, dEnA, dZip, dIsi, dIsi2, isaT, φI, φB, φC, φNeg, add_i, add_l, add_t, mul_i, mul_l, φIx, sl_l, sl_t, eq_i, eq_s, eq_l, eq_t, eq_b, eq_n, φIsN, isN_n, isN_b, isN_i, isN_s, isN_l, isN_t, φLen, φList, φTuple, φAbs, φInt, φMax, φIsB, φIsNB, its_l, its_t, rd_sh, rd_nw, rd_br, rp_sh, rp_nw, rp_br, rp_bx, rp_raw, rp_sr, rr_sh, rr_nw, rr_br, ra_sh, ra_br, ra_bx, ra_raw, va_sh, va_nt, va_nf, va_raw, hb_n, hb_sh, hb_bx, hb_raw, hb_br, sh_n, sh_c, tr_n, tr_b, tr_i, tr_l, tr_t, ty_n, ty_b, ty_i, ty_s, ty_l, ty_t, if_ff, if_tt, Env.set, List.getElem?_cons_succ, List.getElem?_cons_zero, List.set_cons_succ, List.set_cons_zero, List.reverse_cons, List.reverse_nil, List.nil_append, List.cons_append, Option.bind_some, ite_true, ite_false])
abbrev Pr := Int × Int
/-- what may stand behind a begun sequence, and how many there are -/
structure SqS where
  S : List Int → List Pr
  W : List Int → Int
  n : Nat
def Val (X : SqS) (s : List Int) : Prop := ∀ i (h : i < s.length), ∃ p ∈ X.S (s.take i), p.1 = s[i]
def wholeF (ps : List Pr) : Int := (ps.map (·.2)).sum
structure SqOk (X : SqS) : Prop where
  ne : ∀ b, Val X b → b.length < X.n → X.S b ≠ []
  sh : ∀ b, Val X b → b.length < X.n → ∀ p ∈ X.S b, 1 ≤ p.2 ∧ p.2 < 2 ^ 4000
  few : ∀ b, Val X b → b.length < X.n → (X.S b).length ≤ 1000
  asc : ∀ b, Val X b → b.length < X.n → (X.S b).Pairwise fun p q => p.1 < q.1
  wt : ∀ b, Val X b → b.length < X.n → ∀ p ∈ X.S b, X.W (b ++ [p.1]) * wholeF (X.S b) = X.W b * p.2
  pos : ∀ b, Val X b → b.length ≤ X.n → 1 ≤ X.W b ∧ X.W b < 2 ^ 4000
  one : ∀ b, Val X b → b.length = X.n → X.W b = 1
theorem Val.nil (X : SqS) : Val X [] := fun i h => absurd h (Nat.not_lt_zero _)
theorem Val.snoc {X : SqS} {b : List Int} {c : Int} (h : Val X b) (hc : ∃ p ∈ X.S b, p.1 = c) : Val X (b ++ [c]) := fun i hi => by
  rw [List.length_append, List.length_singleton] at hi
  rcases Nat.lt_or_ge i b.length with z | z
  · obtain ⟨p, hp, e⟩ := h i z
    refine ⟨p, ?_, ?_⟩
    · rw [List.take_append_of_le_length (Nat.le_of_lt z)]; exact hp
    · rw [List.getElem_append_left z]; exact e
  · have e : i = b.length := by omega
    subst e
    obtain ⟨p, hp, e⟩ := hc
    refine ⟨p, ?_, ?_⟩
    · rw [List.take_left']; exact hp; rfl
    · rw [List.getElem_append_right (Nat.le_refl _)]; simpa using e
theorem Val.pre {X : SqS} {b t : List Int} (h : Val X (b ++ t)) : Val X b := fun i hi => by
  obtain ⟨p, hp, e⟩ := h i (by rw [List.length_append]; omega)
  rw [List.take_append_of_le_length (Nat.le_of_lt hi)] at hp
  rw [List.getElem_append_left hi] at e
  exact ⟨p, hp, e⟩
theorem Val.next {X : SqS} {b t : List Int} {c : Int} (h : Val X (b ++ c :: t)) : ∃ p ∈ X.S b, p.1 = c := by
  obtain ⟨p, hp, e⟩ := h b.length (by rw [List.length_append, List.length_cons]; omega)
  rw [List.take_left' rfl] at hp
  rw [List.getElem_append_right (Nat.le_refl _)] at e
  exact ⟨p, hp, by simpa using e⟩
def fsum (z : Pr → Int) (ps : List Pr) : Int := (ps.map z).sum
theorem fsum_cons (z : Pr → Int) (p : Pr) (ps : List Pr) : fsum z (p :: ps) = z p + fsum z ps := by unfold fsum; rw [List.map_cons, List.sum_cons]
theorem fsum_app (z : Pr → Int) (ps qs : List Pr) : fsum z (ps ++ qs) = fsum z ps + fsum z qs := by unfold fsum; rw [List.map_append, List.sum_append]
theorem fsum_nn {z : Pr → Int} : ∀ ps : List Pr, (∀ p ∈ ps, 1 ≤ z p) → 0 ≤ fsum z ps
  | [], _ => Int.le_refl _
  | p :: ps, h => by
    rw [fsum_cons]
    have := h p List.mem_cons_self
    have := fsum_nn ps fun q hq => h q (List.mem_cons_of_mem _ hq)
    omega
def glF (z : Pr → Int) : Int → List Pr → List (Int × Int × Int)
  | _, [] => []
  | f, p :: ps => (p.1, f, z p) :: glF z (f + z p) ps
theorem glF_low {z : Pr → Int} : ∀ (ps : List Pr) (f : Int), (∀ p ∈ ps, 1 ≤ z p) → ∀ t ∈ glF z f ps, f ≤ t.2.1
  | [], f, _, t, ht => nomatch ht
  | p :: ps, f, h, t, ht => by
    rcases List.mem_cons.mp ht with rfl | ht
    · exact Int.le_refl _
    · have := glF_low ps (f + z p) (fun q hq => h q (List.mem_cons_of_mem _ hq)) t ht
      have := h p List.mem_cons_self
      omega
/-- the group in which a number lies -/
theorem gl_pick {z : Pr → Int} {r : Int} : ∀ (ps : List Pr) (f : Int), (∀ p ∈ ps, 1 ≤ z p) → f ≤ r → r < f + fsum z ps →
    ∃ a p b, ps = a ++ p :: b ∧ f + fsum z a ≤ r ∧ r < f + fsum z a + z p ∧ ((glF z f ps).filter fun t => decide (t.2.1 ≤ r)).getLast? = some (p.1, f + fsum z a, z p)
  | [], f, _, h1, h2 => by
    rw [show fsum z [] = 0 from rfl] at h2
    omega
  | p :: ps, f, h, h1, h2 => by
    have hz := h p List.mem_cons_self
    have ht : ∀ q ∈ ps, 1 ≤ z q := fun q hq => h q (List.mem_cons_of_mem _ hq)
    unfold glF
    rw [List.filter_cons_of_pos (p := fun t : Int × Int × Int => decide (t.2.1 ≤ r)) (decide_eq_true h1)]
    by_cases c : r < f + z p
    · refine ⟨[], p, ps, rfl, by rw [show fsum z [] = 0 from rfl]; omega, by rw [show fsum z [] = 0 from rfl]; omega, ?_⟩
      have e : (glF z (f + z p) ps).filter (fun t => decide (t.2.1 ≤ r)) = [] := by
        refine List.filter_eq_nil_iff.mpr fun t ht' => ?_
        have := glF_low ps (f + z p) ht t ht'
        rw [decide_eq_false (by omega)]
        exact Bool.false_ne_true
      rw [e, show fsum z [] = 0 from rfl, Int.add_zero]; rfl
    · rw [fsum_cons] at h2
      obtain ⟨a, q, b, e, k1, k2, k3⟩ := gl_pick (r := r) ps (f + z p) ht (by omega) (by omega)
      refine ⟨p :: a, q, b, by rw [e]; rfl, ?_, ?_, ?_⟩
      · rw [fsum_cons]; omega
      · rw [fsum_cons]; omega
      rw [List.getLast?_cons, k3, fsum_cons]
      show some _ = some _
      rw [Option.getD_some, show f + z p + fsum z a = f + (z p + fsum z a) by omega]
def offF (X : SqS) (b : List Int) (c : Int) : Int := fsum (fun p => X.W (b ++ [p.1])) ((X.S b).takeWhile fun p => !decide (p.1 = c))
def rankF (X : SqS) : List Int → List Int → Int
  | _, [] => 0
  | b, c :: t => offF X b c + rankF X (b ++ [c]) t
theorem off_at {X : SqS} {b : List Int} {a : List Pr} {p : Pr} {d : List Pr} (e : X.S b = a ++ p :: d) (h : ∀ q ∈ a, q.1 ≠ p.1) : offF X b p.1 = fsum (fun p => X.W (b ++ [p.1])) a := by
  unfold offF
  rw [e, List.takeWhile_append_of_pos fun q hq => by rw [decide_eq_false (h q hq)]; rfl, List.takeWhile_cons_of_neg (by rw [decide_eq_true rfl]; exact Bool.false_ne_true), List.append_nil]
section
variable {X : SqS} (ok : SqOk X)
include ok
theorem SqOk.whole {b : List Int} (v : Val X b) (l : b.length < X.n) : 1 ≤ wholeF (X.S b) := by
  have ne := ok.ne b v l
  have sh := ok.sh b v l
  cases q : X.S b with
  | nil => exact absurd q ne
  | cons p ps =>
    rw [q] at sh
    unfold wholeF
    rw [List.map_cons, List.sum_cons]
    have h1 := (sh p List.mem_cons_self).1
    have h2 := fsum_nn (z := (·.2)) ps fun r hr => (sh r (List.mem_cons_of_mem _ hr)).1
    unfold fsum at h2
    omega
theorem SqOk.size {b : List Int} (v : Val X b) (l : b.length < X.n) {p : Pr} (hp : p ∈ X.S b) : X.W b * p.2 / wholeF (X.S b) = X.W (b ++ [p.1]) := by
  rw [← ok.wt b v l p hp]
  exact Int.mul_ediv_cancel _ (by have := ok.whole v l; omega)
theorem SqOk.nxt {b : List Int} (v : Val X b) (l : b.length < X.n) {p : Pr} (hp : p ∈ X.S b) : Val X (b ++ [p.1]) := v.snoc ⟨p, hp, rfl⟩
theorem SqOk.sizes {b : List Int} (v : Val X b) (l : b.length < X.n) : ∀ p ∈ X.S b, 1 ≤ X.W (b ++ [p.1]) := fun p hp => (ok.pos _ (ok.nxt v l hp) (by rw [List.length_append, List.length_singleton]; omega)).1
theorem SqOk.sum {b : List Int} (v : Val X b) (l : b.length < X.n) : fsum (fun p => X.W (b ++ [p.1])) (X.S b) = X.W b := by
  have key : ∀ ps : List Pr, (∀ p ∈ ps, p ∈ X.S b) → fsum (fun p => X.W (b ++ [p.1])) ps * wholeF (X.S b) = X.W b * wholeF ps := by
    intro ps
    induction ps with
    | nil => intro _; show 0 * _ = _ * 0; rw [Int.zero_mul, Int.mul_zero]
    | cons p ps ih =>
      intro h
      have := ok.wt b v l p (h p List.mem_cons_self)
      have i2 := ih fun q hq => h q (List.mem_cons_of_mem _ hq)
      rw [fsum_cons, Int.add_mul, i2, this]
      show _ = X.W b * (List.map _ (p :: ps)).sum
      rw [List.map_cons, List.sum_cons, Int.mul_add]; rfl
  have w := ok.whole v l
  exact Int.eq_of_mul_eq_mul_right (by omega) (key _ fun _ h => h)
theorem SqOk.apart {b : List Int} (v : Val X b) (l : b.length < X.n) {a : List Pr} {p : Pr} {d : List Pr} (e : X.S b = a ++ p :: d) : ∀ q ∈ a, q.1 < p.1 := fun q hq => by
  have := ok.asc b v l
  rw [e] at this
  exact (List.pairwise_append.mp this).2.2 q hq p List.mem_cons_self
theorem SqOk.off {b : List Int} (v : Val X b) (l : b.length < X.n) {a : List Pr} {p : Pr} {d : List Pr} (e : X.S b = a ++ p :: d) : offF X b p.1 = fsum (fun p => X.W (b ++ [p.1])) a := off_at e fun q hq => Int.ne_of_lt (ok.apart v l e q hq)
/-- one step, back and forth -/
theorem SqOk.split {b : List Int} (v : Val X b) (l : b.length < X.n) {c : Int} (hc : ∃ p ∈ X.S b, p.1 = c) : ∃ a p d, X.S b = a ++ p :: d ∧ p.1 = c ∧ offF X b c = fsum (fun p => X.W (b ++ [p.1])) a ∧ 0 ≤ offF X b c ∧ offF X b c + X.W (b ++ [c]) ≤ X.W b := by
  obtain ⟨p, hp, rfl⟩ := hc
  obtain ⟨a, d, e⟩ := List.append_of_mem hp
  have o := ok.off v l e
  have s := ok.sum v l
  have sz := ok.sizes v l
  rw [e] at s sz
  rw [fsum_app, fsum_cons] at s
  have n1 := fsum_nn (z := fun p => X.W (b ++ [p.1])) a fun q hq => sz q (List.mem_append_left _ hq)
  have n2 := fsum_nn (z := fun p => X.W (b ++ [p.1])) d fun q hq => sz q (List.mem_append_right _ (List.mem_cons_of_mem _ hq))
  refine ⟨a, p, d, e, rfl, o, by rw [o]; exact n1, ?_⟩
  rw [o]
  omega
theorem SqOk.rank {b : List Int} : ∀ t : List Int, Val X (b ++ t) → b.length + t.length = X.n → 0 ≤ rankF X b t ∧ rankF X b t < X.W b := by
  intro t
  induction t generalizing b with
  | nil =>
    intro v l
    rw [List.append_nil] at v
    rw [ok.one b v l]
    exact ⟨Int.le_refl _, by show (0 : Int) < 1; decide⟩
  | cons c t ih =>
    intro v l
    rw [List.length_cons] at l
    obtain ⟨a, p, d, e, ec, o, o0, o1⟩ := ok.split v.pre (by omega) v.next
    have v2 : Val X ((b ++ [c]) ++ t) := by rw [List.append_assoc]; exact v
    obtain ⟨r0, r1⟩ := ih v2 (by rw [List.length_append, List.length_singleton]; omega)
    show 0 ≤ offF X b c + _ ∧ offF X b c + _ < _
    omega
/-- the order of numbers is the order of sequences -/
theorem SqOk.mono {b : List Int} : ∀ t u : List Int, Val X (b ++ t) → Val X (b ++ u) → b.length + t.length = X.n → b.length + u.length = X.n → (HT.lexLt t u = true → rankF X b t < rankF X b u) ∧ (rankF X b t = rankF X b u → t = u) := by
  intro t
  induction t generalizing b with
  | nil =>
    intro u _ _ lt lu
    cases u with
    | nil => exact ⟨fun h => by simp [HT.lexLt] at h, fun _ => rfl⟩
    | cons c u => rw [List.length_nil] at lt; rw [List.length_cons] at lu; omega
  | cons c t ih =>
    intro u v w lt lu
    rw [List.length_cons] at lt
    cases u with
    | nil => rw [List.length_nil] at lu; omega
    | cons y u =>
      rw [List.length_cons] at lu
      have lb : b.length < X.n := by omega
      have v2 : Val X ((b ++ [c]) ++ t) := by rw [List.append_assoc]; exact v
      have w2 : Val X ((b ++ [y]) ++ u) := by rw [List.append_assoc]; exact w
      have l1 : (b ++ [c]).length + t.length = X.n := by rw [List.length_append, List.length_singleton]; omega
      have l2 : (b ++ [y]).length + u.length = X.n := by rw [List.length_append, List.length_singleton]; omega
      have r1 := ok.rank t v2 l1
      have r2 := ok.rank u w2 l2
      have step : ∀ c y : Int, c < y → (∃ p ∈ X.S b, p.1 = c) → (∃ p ∈ X.S b, p.1 = y) → offF X b c + X.W (b ++ [c]) ≤ offF X b y := fun c y h hc hy => by
        obtain ⟨a, p, d, e, rfl, o, o0, o1⟩ := ok.split v.pre lb hc
        obtain ⟨a2, q, d2, e2, rfl, o2, _, _⟩ := ok.split v.pre lb hy
        have sz := ok.sizes v.pre lb
        have asc := ok.asc b v.pre lb
        rw [o, o2]
        have mem : ∃ k, a2 = a ++ p :: k := by
          have e3 := e.symm.trans e2
          rcases List.append_eq_append_iff.mp e3 with ⟨as, x1, x2⟩ | ⟨as, x1, x2⟩
          · cases as with
            | nil =>
              rw [List.append_nil] at x1
              injection x2 with y1 y2
              rw [y1] at h
              omega
            | cons s ss =>
              injection x2 with y1 y2
              exact ⟨ss, by rw [x1, y1]⟩
          · cases as with
            | nil =>
              injection x2 with y1 y2
              rw [y1] at h
              omega
            | cons s ss =>
              injection x2 with y1 y2
              rw [e, List.pairwise_append] at asc
              have := asc.2.2 q (by rw [x1, y1]; exact List.mem_append_right _ List.mem_cons_self) p List.mem_cons_self
              omega
        obtain ⟨k, rfl⟩ := mem
        rw [fsum_app, fsum_cons]
        have := fsum_nn (z := fun p => X.W (b ++ [p.1])) k fun r hr => sz r (by rw [e2]; exact List.mem_append_left _ (List.mem_append_right _ (List.mem_cons_of_mem _ hr)))
        omega
      show (_ → offF X b c + _ < offF X b y + _) ∧ (offF X b c + _ = offF X b y + _ → _)
      rw [HT.lexLt_cons]
      rcases Int.lt_trichotomy c y with z | z | z
      · have := step c y z v.next w.next
        rw [if_neg (by omega)]
        exact ⟨fun _ => by omega, fun e => by omega⟩
      · subst z
        obtain ⟨i1, i2⟩ := ih u v2 w2 l1 l2
        rw [if_pos rfl]
        exact ⟨fun h => by have := i1 h; omega, fun e => by rw [i2 (by omega)]⟩
      · have := step y c z w.next v.next
        rw [if_neg (by omega)]
        exact ⟨fun h => by have := of_decide_eq_true h; omega, fun e => by omega⟩
/-- each number has its sequence -/
theorem SqOk.has {b : List Int} : ∀ (m : Nat) (r : Int), Val X b → b.length + m = X.n → 0 ≤ r → r < X.W b → ∃ t, Val X (b ++ t) ∧ b.length + t.length = X.n ∧ rankF X b t = r := by
  intro m
  induction m generalizing b with
  | zero =>
    intro r v l r0 r1
    rw [ok.one b v (by omega)] at r1
    exact ⟨[], by rw [List.append_nil]; exact v, l, by show 0 = r; omega⟩
  | succ m ih =>
    intro r v l r0 r1
    have lb : b.length < X.n := by omega
    rw [← ok.sum v lb] at r1
    obtain ⟨a, p, d, e, k1, k2, _⟩ := gl_pick (z := fun p => X.W (b ++ [p.1])) (X.S b) 0 (ok.sizes v lb) r0 (by omega)
    have hp : p ∈ X.S b := by rw [e]; exact List.mem_append_right _ List.mem_cons_self
    obtain ⟨t, v2, l2, er⟩ := ih (r - fsum (fun p => X.W (b ++ [p.1])) a) (ok.nxt v lb hp) (by rw [List.length_append, List.length_singleton]; omega) (by omega) (by omega)
    rw [List.length_append, List.length_singleton] at l2
    refine ⟨p.1 :: t, by rw [List.append_assoc] at v2; exact v2, by rw [List.length_cons]; omega, ?_⟩
    show offF X b p.1 + _ = r
    rw [er, ok.off v lb e]
    omega
end
open Classical in
noncomputable def atF (X : SqS) (r : Int) : List Int := if h : ∃ s, Val X s ∧ s.length = X.n ∧ rankF X [] s = r then Classical.choose h else []
theorem SqOk.at {X : SqS} (ok : SqOk X) {r : Int} (r0 : 0 ≤ r) (r1 : r < X.W []) : Val X (atF X r) ∧ (atF X r).length = X.n ∧ rankF X [] (atF X r) = r := by
  have h : ∃ s, Val X s ∧ s.length = X.n ∧ rankF X [] s = r := by
    obtain ⟨t, v, l, e⟩ := ok.has X.n r (Val.nil X) (by rw [List.length_nil]; omega) r0 r1
    rw [List.nil_append] at v
    rw [List.length_nil] at l
    exact ⟨t, v, by omega, e⟩
  unfold atF
  rw [dif_pos h]
  exact Classical.choose_spec h
theorem SqOk.uniq {X : SqS} (ok : SqOk X) {s : List Int} (v : Val X s) (l : s.length = X.n) : atF X (rankF X [] s) = s := by
  have v' : Val X ([] ++ s) := v
  obtain ⟨r0, r1⟩ := ok.rank s v' (by rw [List.length_nil]; omega)
  obtain ⟨a, b, c⟩ := ok.at r0 r1
  have a' : Val X ([] ++ atF X (rankF X [] s)) := a
  exact (ok.mono (atF X (rankF X [] s)) s a' v' (by rw [List.length_nil]; omega) (by rw [List.length_nil]; omega)).2 c
end Lp

namespace Lp
open PySem PySem.Spec PyProof.Rows L2
local macro_rules | `(tactic| rfl') => `(tactic| try dsimp only [dVar_, gv_sh, gv_ow, gv_bx, gv_raw, gv_exn, gv_st, dC, dRaw, dOp, dUn, dTest, dTruth, dAnd, dOr, dNot, dYes, dIf, dAndV, dOrV, dNotV, dNotT, dChain, dNil, dCons, dTup, dLst, dats, dCB, dNoP, dPart, dSl, dNext, dBreak, dCont, dNever, dDrop, dRet, dRetN, dIfS, dSetG, dPar, dPar3, dAppend, dAppPop, dSetIx, dExt, dAug, dSet0, dSAdd, dSNotIn, dIter_, gi_l, gi_t, gi_b, dRng1, dRng2, dName, dGNil, dGCons, dGTup, dAsg, dFor, dWhile, dCall, dCallR, dArgs_, ga_f, ga_t, argsOf, dLc, wipeE, dListRg, dIndex, dSortSet, dSortSc, dEnum, dEnA, dZip, dIsi, dIsi2, isaT, φI, φB, φC, φNeg, add_i, add_l, add_t, mul_i, mul_l, φIx, sl_l, sl_t, eq_i, eq_s, eq_l, eq_t, eq_b, eq_n, φIsN, isN_n, isN_b, isN_i, isN_s, isN_l, isN_t, φLen, φList, φTuple, φAbs, φInt, φMax, φIsB, φIsNB, its_l, its_t, rd_sh, rd_nw, rd_br, rp_sh, rp_nw, rp_br, rp_bx, rp_raw, rp_sr, rr_sh, rr_nw, rr_br, ra_sh, ra_br, ra_bx, ra_raw, va_sh, va_nt, va_nf, va_raw, hb_n, hb_sh, hb_bx, hb_raw, hb_br, sh_n, sh_c, tr_n, tr_b, tr_i, tr_l, tr_t, ty_n, ty_b, ty_i, ty_s, ty_l, ty_t, if_ff, if_tt, Env.set, List.getElem?_cons_succ, List.getElem?_cons_zero, List.set_cons_succ, List.set_cons_zero, List.reverse_cons, List.reverse_nil, List.nil_append, List.cons_append, Option.bind_some, ite_true, ite_false])
def KinAt (a : List Int) (x y : Int) : Prop := if heightF a x = 1 then y ∈ ringF a x else y = gt a x
def KinS (a b : List Int) : Prop := ∀ x, Per a x → KinAt a x (gt b x)
section
variable {a b : List Int} (ha : Stt a) (hb : Stt b) (hl : b.length = a.length) (k : KinS a b)
include ha hb hl k
end
end Lp

namespace Lp
open PySem PySem.Spec PyProof.Rows L2
local macro_rules | `(tactic| rfl') => `(tactic| try dsimp only [dVar_, gv_sh, gv_ow, gv_bx, gv_raw, gv_exn, gv_st, dC, dRaw, dOp, dUn, dTest, dTruth, dAnd, dOr, dNot, dYes, dIf, dAndV, dOrV, dNotV, dNotT, dChain, dNil, dCons, dTup, dLst, dats, dCB, dNoP, dPart, dSl, dNext, dBreak, dCont, dNever, dDrop, dRet, dRetN, dIfS, dSetG, dPar, dPar3, dAppend, dAppPop, dSetIx, dExt, dAug, dSet0, dSAdd, dSNotIn, dIter_, gi_l, gi_t, gi_b, dRng1, dRng2, dName, dGNil, dGCons, dGTup, dAsg, dFor, dWhile, dCall, dCallR, dArgs_, ga_f, ga_t, argsOf, dLc, wipeE, dListRg, dIndex, dSortSet, dSortSc, dEnum, dEnA, dZip, dIsi, dIsi2, isaT, φI, φB, φC, φNeg, add_i, add_l, add_t, mul_i, mul_l, φIx, sl_l, sl_t, eq_i, eq_s, eq_l, eq_t, eq_b, eq_n, φIsN, isN_n, isN_b, isN_i, isN_s, isN_l, isN_t, φLen, φList, φTuple, φAbs, φInt, φMax, φIsB, φIsNB, its_l, its_t, rd_sh, rd_nw, rd_br, rp_sh, rp_nw, rp_br, rp_bx, rp_raw, rp_sr, rr_sh, rr_nw, rr_br, ra_sh, ra_br, ra_bx, ra_raw, va_sh, va_nt, va_nf, va_raw, hb_n, hb_sh, hb_bx, hb_raw, hb_br, sh_n, sh_c, tr_n, tr_b, tr_i, tr_l, tr_t, ty_n, ty_b, ty_i, ty_s, ty_l, ty_t, if_ff, if_tt, Env.set, List.getElem?_cons_succ, List.getElem?_cons_zero, List.set_cons_succ, List.set_cons_zero, List.reverse_cons, List.reverse_nil, List.nil_append, List.cons_append, Option.bind_some, ite_true, ite_false])
section
variable {a b : List Int} (ha : Stt a) (hb : Stt b) (hl : b.length = a.length) (ow : OnWays a b)
include ha hb hl ow
end
end Lp

namespace Lp
open PySem PySem.Spec PyProof.Rows L2
section
variable {prog : Program} {w : World} {A : Around} {R : Result → Shared → Prop}
end
end Lp

namespace Lp
open PySem PySem.Spec PyProof.Rows L2
section
variable {X : Cx}
end
section
end
end Lp

namespace Lp
open PySem PySem.Spec PyProof.Rows L2
local macro_rules | `(tactic| rfl') => `(tactic| try dsimp only [dVar_, gv_sh, gv_ow, gv_bx, gv_raw, gv_exn, gv_st, dC, dRaw, dOp, dUn, dTest, dTruth, dAnd, dOr, dNot, dYes, dIf, dAndV, dOrV, dNotV, dNotT, dChain, dNil, dCons, dTup, dLst, dats, dCB, dNoP, dPart, dSl, dNext, dBreak, dCont, dNever, dDrop, dRet, dRetN, dIfS, dSetG, dPar, dPar3, dAppend, dAppPop, dSetIx, dExt, dAug, dSet0, dSAdd, dSNotIn, dIter_, gi_l, gi_t, gi_b, dRng1, dRng2, dName, dGNil, dGCons, dGTup, dAsg, dFor, dWhile, dCall, dCallR, dArgs_, ga_f, ga_t, argsOf, dLc, wipeE, dListRg, dIndex, dSortSet, dSortSc, dEnum, dEnA, dZip, dIsi, dIsi2, isaT, φI, φB, φC, φNeg, add_i, add_l, add_t, mul_i, mul_l, φIx, sl_l, sl_t, eq_i, eq_s, eq_l, eq_t, eq_b, eq_n, φIsN, isN_n, isN_b, isN_i, isN_s, isN_l, isN_t, φLen, φList, φTuple, φAbs, φInt, φMax, φIsB, φIsNB, its_l, its_t, rd_sh, rd_nw, rd_br, rp_sh, rp_nw, rp_br, rp_bx, rp_raw, rp_sr, rr_sh, rr_nw, rr_br, ra_sh, ra_br, ra_bx, ra_raw, va_sh, va_nt, va_nf, va_raw, hb_n, hb_sh, hb_bx, hb_raw, hb_br, sh_n, sh_c, tr_n, tr_b, tr_i, tr_l, tr_t, ty_n, ty_b, ty_i, ty_s, ty_l, ty_t, if_ff, if_tt, Env.set, List.getElem?_cons_succ, List.getElem?_cons_zero, List.set_cons_succ, List.set_cons_zero, List.reverse_cons, List.reverse_nil, List.nil_append, List.cons_append, Option.bind_some, ite_true, ite_false, dCallX, dArgsX_, gx_s, dRaise, dIsX, dAttr, dIsNE, dCount, dSortSetA, dIndexD])
/-- _law_divisor: _law_one, _law_other -/
def b_law_divisor : DTS := (dSeq (dWhile (dTest (dOp (φEq true) (dVar 1) (dC (.int 0)))) (dPar 0 false 1 false (dVar 1) (dOp (φC (fun _ j => 0 < j) fun i j => i % j) (dVar 0) (dVar 1))))
  (dRet (dVar 0)))
abbrev k_law_divisor : Nat := 0
def p_law_divisor : DSp := fun args c Q => ∃ a b : Nat, args = [.sh (.int (a : Nat)), .sh (.int (b : Nat))] ∧ Q (.sh (.int (Nat.gcd a b : Nat))) c
theorem mon_law_divisor : MonF p_law_divisor := fun args c A B h ⟨a, b, e, q⟩ => ⟨a, b, e, h _ _ q⟩
theorem div_loop {Δ : DEnds} {c : Nat} : ∀ (m a b : Nat), b ≤ m → Δ.nx ⟨[.sh (.int (Nat.gcd a b : Nat)), .sh (.int 0)], c⟩ →
    whileN (dTest (dOp (φEq true) (dVar 1) (dC (.int 0)))) (dPar 0 false 1 false (dVar 1) (dOp (φC (fun _ j => 0 < j) fun i j => i % j) (dVar 0) (dVar 1))) Δ (m + 1) ⟨[.sh (.int (a : Nat)), .sh (.int (b : Nat))], c⟩
  | m, a, b, hm, q => by
    unfold whileN
    rfl'
    by_cases z : b = 0
    · subst z
      rw [Nat.gcd_zero_right] at q
      refine if_f rfl ?_
      exact q
    · refine if_t (by simp; omega) ?_
      refine ⟨by omega, ?_⟩
      have e2 : ((a : Nat) : Int) % ((b : Nat) : Int) = ((a % b : Nat) : Int) := (Int.natCast_emod a b).symm
      rw [e2]
      have lt : a % b < b := Nat.mod_lt _ (by omega)
      cases m with
      | zero => exfalso; omega
      | succ m =>
        refine div_loop m b (a % b) (by omega) ?_
        rw [show Nat.gcd b (a % b) = Nat.gcd a b by rw [Nat.gcd_comm b, ← Nat.gcd_rec, Nat.gcd_comm]]
        exact q
theorem m_law_divisor : ∀ args c Q, p_law_divisor args c Q → defF k_law_divisor b_law_divisor args c Q := by
  rintro _ c Q ⟨a, b, rfl, q⟩
  show b_law_divisor _ ⟨[.sh (.int (a : Nat)), .sh (.int (b : Nat))], c⟩
  unfold b_law_divisor
  refine sq_ ?_
  refine ⟨b + 1, div_loop b a b (Nat.le_refl b) ?_⟩
  rfl'
  exact q
end Lp

namespace Lp
open PySem PySem.Spec PyProof.Rows L2
section
variable {w : Wx} {f g : DTE} {ta tb : TE}
def dListRg2 (f g : DTE) (ε : Env) (Q : R → Env → Prop) : Prop := f ε fun x ε1 => g ε1 fun y ε2 => match x.dat, y.dat with
  | some (.int i), some (.int j) => (-1000000 ≤ i ∧ i ≤ 1000000 ∧ -1000000 ≤ j ∧ j ≤ 1000000) ∧ Q (.nw (rgD i (j - i).toNat)) ε2
  | _, _ => False
theorem dvs_rg2 {H : Hp} (i j : Int) : DVs H (rgV i j) (rgD i (j - i).toNat) := by
  unfold rgV rgD
  generalize List.range (j - i).toNat = l
  induction l with
  | nil => exact .nil
  | cons x r ih => exact .cons (.int _) ih
theorem se_listRg2 (hf : SE w ta f) (hg : SE w tb g) : SE w (tLstRg (tRg2 ta tb)) (dListRg2 f g) := by
  constructor
  · intro ε A B h q
    refine hf.mono _ _ _ (fun x ε1 q => hg.mono _ _ _ (fun y ε2 q => ?_) q) q
    split at q
    · exact ⟨q.1, h _ _ q.2⟩
    · exact q.elim
  · intro Z O σ ε L H Q X q
    refine hf.run Z O σ ε L H _ X (hf.mono _ _ _ (fun x ε1 q => ?_) q)
    intro v L1 H1 X1 e1 r1
    refine hg.run Z O σ ε1 L1 H1 _ X1 (hg.mono _ _ _ (fun y ε2 q => ?_) q)
    intro u L2 H2 X2 e2 r2
    have r1' := r1.mono X1 e2
    split at q
    · rename_i i j ex ey
      obtain ⟨⟨i1, i2, j1, j2⟩, q⟩ := q
      refine ⟨i, j, (r1'.vl ex).int, (r2.vl ey).int, ⟨by omega, by omega, by omega, by omega, by omega⟩, fun p np => ?_⟩
      have ep : Ext none L2 H2 L2 (upd H2 p (.lst (rgV i j))) := Ext.own np
      exact q _ L2 _ (X2.step ep (same_own X2.lh (X2.lh.free np))) ((e1.trans e2).trans ep.any) (VR.back (VR0.vr (r := .nw (rgD i (j - i).toNat)) ⟨p, _, rfl, np, X2.lh.free np, upd_same, dvs_rg2 i j⟩ X2) (e1.trans e2))
    · exact q.elim
end
end Lp

namespace Lp
open PySem PySem.Spec PyProof.Rows L2
section
variable {w : Wx} {ta tb tc td te : TE} {f g h k l : DTE}
/-- one more of the values is put -/
theorem more_put {Z : Zx} {O O' : Addr → Prop} {σ σ' : L2.St} {ε' : Env} {Hs L L' H : Hp} {v : V} {r : R} {own : Bool} {i : Nat} {y : SV} (N : Addr → Prop) (X : Rep w Z O' L' H σ' ε') (s : Same L L') (hl : ∀ a, L a = none → ¬ N a → L' a = none) (ho : ∀ a, O' a → O a ∨ N a) (hu : ∀ a, N a → Hs a ≠ none) (x : VR w Z O σ Hs L H v r) (hy : val own r = some y) :
    ∃ O2 L2, Rep w Z O2 L2 H (σ'.set i (some v)) (ε'.set i y) ∧ Same L L2 ∧ (∀ a, L a = none → ¬ (N a ∨ nwAt r v a) → L2 a = none) ∧ ∀ a, O2 a → O a ∨ (N a ∨ nwAt r v a) := by
  have x' : VR w Z O' σ' Hs L' H v r := x.setσ N hy s hl ho hu
  obtain ⟨O2, L2, X2, s2, hl2, ho2⟩ := X.put (i := i) x' hy
  refine ⟨O2, L2, X2, s.trans s2, fun a h n => hl2 a (hl a h (fun z => n (.inl z))) (fun z => n (.inr z)), fun a h => ?_⟩
  rcases ho2 a h with q | q
  · exact (ho a q).imp id .inl
  · exact .inr (.inr q)
def dPar5 (i1 : Nat) (o1 : Bool) (i2 : Nat) (o2 : Bool) (i3 : Nat) (o3 : Bool) (i4 : Nat) (o4 : Bool) (i5 : Nat) (o5 : Bool) (f g h k l : DTE) (Δ : DEnds) (ε : Env) : Prop := f ε fun x1 ε1 => g ε1 fun x2 ε2 => h ε2 fun x3 ε3 => k ε3 fun x4 ε4 => l ε4 fun x5 ε5 => match val o1 x1, val o2 x2, val o3 x3, val o4 x4, val o5 x5 with
  | some a1, some a2, some a3, some a4, some a5 => Δ.nx (((((ε5.set i1 a1).set i2 a2).set i3 a3).set i4 a4).set i5 a5)
  | _, _, _, _, _ => False
theorem ss_parT5 {K : PySem.W.Frag} {i1 i2 i3 i4 i5 : Nat} {o1 o2 o3 o4 o5 : Bool} (hf : SE w ta f) (hg : SE w tb g) (hh : SE w tc h) (hk : SE w td k) (hl : SE w te l) : SS w (tAsg (tTupS (tCons ta (tCons tb (tCons tc (tCons td (tCons te tNil)))))) (gTup K 5 (gCons (gName i1) (gCons (gName i2) (gCons (gName i3) (gCons (gName i4) (gCons (gName i5) gNil))))))) (dPar5 i1 o1 i2 o2 i3 o3 i4 o4 i5 o5 f g h k l) := by
  constructor
  · intro Δ Δ' ε le z
    refine hf.mono _ _ _ (fun x1 ε1 z => hg.mono _ _ _ (fun x2 ε2 z => hh.mono _ _ _ (fun x3 ε3 z => hk.mono _ _ _ (fun x4 ε4 z => hl.mono _ _ _ (fun x5 ε5 z => ?_) z) z) z) z) z
    split at z
    · exact le.nx _ z
    · exact z.elim
  · intro Z O σ ε L H D Δ X E z
    refine hf.run Z O σ ε L H _ X (hf.mono _ _ _ (fun x1 ε1 z => ?_) z)
    intro v1 L1 H1 X1 e1 r1
    refine hg.run Z O σ ε1 L1 H1 _ X1 (hg.mono _ _ _ (fun x2 ε2 z => ?_) z)
    intro v2 L2 H2 X2 e2 r2
    refine hh.run Z O σ ε2 L2 H2 _ X2 (hh.mono _ _ _ (fun x3 ε3 z => ?_) z)
    intro v3 L3 H3 X3 e3 r3
    refine hk.run Z O σ ε3 L3 H3 _ X3 (hk.mono _ _ _ (fun x4 ε4 z => ?_) z)
    intro v4 L4 H4 X4 e4 r4
    refine hl.run Z O σ ε4 L4 H4 _ X4 (hl.mono _ _ _ (fun x5 ε5 z => ?_) z)
    intro v5 L5 H5 X5 e5 r5
    split at z
    · rename_i a1 a2 a3 a4 a5 h1 h2 h3 h4 h5
      refine ⟨by show 5 ≤ sizeLine; decide, fun p o np no => ⟨p, _, rfl, Sol.seq ⟨o, no, upd_same⟩, rfl, v1, _, rfl, v2, _, rfl, v3, _, rfl, v4, _, rfl, v5, _, rfl, rfl, ?_⟩⟩
      have e6 : Ext none L5 H5 L5 (upd H5 p (.frz o (.tup [v1, v2, v3, v4, v5]))) := Ext.own np
      have X6 := X5.step e6 (same_own X5.lh (X5.lh.free np))
      have q1 := ((((r1.mono X1 e2).mono X2 e3).mono X3 e4).mono X4 e5).mono X5 e6.any
      have q2 := (((r2.mono X2 e3).mono X3 e4).mono X4 e5).mono X5 e6.any
      have q3 := ((r3.mono X3 e4).mono X4 e5).mono X5 e6.any
      have q4 := (r4.mono X4 e5).mono X5 e6.any
      have q5 := r5.mono X5 e6.any
      obtain ⟨O', L', Y, s, hl', ho⟩ := two_put (i := i1) (j := i2) X6 r1 q1 q2 h1 h2
      have d1 : ∀ a, nwAt x1 v1 a → H1 a ≠ none := fun a z => r1.nwAt z
      have d2 : ∀ a, nwAt x2 v2 a → H2 a ≠ none := fun a z => r2.nwAt z
      have d3 : ∀ a, nwAt x3 v3 a → H3 a ≠ none := fun a z => r3.nwAt z
      have d4 : ∀ a, nwAt x4 v4 a → H4 a ≠ none := fun a z => r4.nwAt z
      obtain ⟨O2, L2', Y2, s2, hl2, ho2⟩ := more_put (i := i3) (fun a => nwAt x1 v1 a ∨ nwAt x2 v2 a) Y s hl' ho (fun a z => z.elim (fun q => e2.dom a (d1 a q)) fun q => d2 a q) q3 h3
      obtain ⟨O3, L3', Y3, s3, hl3, ho3⟩ := more_put (i := i4) (fun a => (nwAt x1 v1 a ∨ nwAt x2 v2 a) ∨ nwAt x3 v3 a) Y2 s2 hl2 ho2 (fun a z => z.elim (fun z => z.elim (fun q => e3.dom a (e2.dom a (d1 a q))) fun q => e3.dom a (d2 a q)) fun q => d3 a q) q4 h4
      obtain ⟨O4, L4', Y4, s4, hl4, ho4⟩ := more_put (i := i5) (fun a => ((nwAt x1 v1 a ∨ nwAt x2 v2 a) ∨ nwAt x3 v3 a) ∨ nwAt x4 v4 a) Y3 s3 hl3 ho3 (fun a z => z.elim (fun z => z.elim (fun z => z.elim (fun q => e4.dom a (e3.dom a (e2.dom a (d1 a q)))) fun q => e4.dom a (e3.dom a (d2 a q))) fun q => e4.dom a (d3 a q)) fun q => d4 a q) q5 h5
      exact E.nx O4 _ _ L4' _ Y4 z
    · exact z.elim
end
end Lp

namespace Lp
open PySem PySem.Spec PyProof.Rows L2
local macro_rules | `(tactic| rfl') => `(tactic| try dsimp only [dVar_, gv_sh, gv_ow, gv_bx, gv_raw, gv_exn, gv_st, dC, dRaw, dOp, dUn, dTest, dTruth, dAnd, dOr, dNot, dYes, dIf, dAndV, dOrV, dNotV, dNotT, dChain, dNil, dCons, dTup, dLst, dats, dCB, dNoP, dPart, dSl, dNext, dBreak, dCont, dNever, dDrop, dRet, dRetN, dIfS, dSetG, dPar, dPar3, dAppend, dAppPop, dSetIx, dExt, dAug, dSet0, dSAdd, dSNotIn, dIter_, gi_l, gi_t, gi_b, dRng1, dRng2, dName, dGNil, dGCons, dGTup, dAsg, dFor, dWhile, dCall, dCallR, dArgs_, ga_f, ga_t, argsOf, dLc, wipeE, dListRg, dIndex, dSortSet, dSortSc, dEnum, dEnA, dZip, dIsi, dIsi2, isaT, φI, φB, φC, φNeg, add_i, add_l, add_t, mul_i, mul_l, φIx, sl_l, sl_t, eq_i, eq_s, eq_l, eq_t, eq_b, eq_n, φIsN, isN_n, isN_b, isN_i, isN_s, isN_l, isN_t, φLen, φList, φTuple, φAbs, φInt, φMax, φIsB, φIsNB, its_l, its_t, rd_sh, rd_nw, rd_br, rp_sh, rp_nw, rp_br, rp_bx, rp_raw, rp_sr, rr_sh, rr_nw, rr_br, ra_sh, ra_br, ra_bx, ra_raw, va_sh, va_nt, va_nf, va_raw, hb_n, hb_sh, hb_bx, hb_raw, hb_br, sh_n, sh_c, tr_n, tr_b, tr_i, tr_l, tr_t, ty_n, ty_b, ty_i, ty_s, ty_l, ty_t, if_ff, if_tt, Env.set, List.getElem?_cons_succ, List.getElem?_cons_zero, List.set_cons_succ, List.set_cons_zero, List.reverse_cons, List.reverse_nil, List.nil_append, List.cons_append, Option.bind_some, ite_true, ite_false, dCallX, dArgsX_, gx_s, dRaise, dIsX, dAttr, dIsNE, dCount, dSortSetA, dPar5, dListRg2, dIndexD])
theorem c_same63 {k : Nat} {a : PyData} {c : Nat} {Q : R → Nat → Prop} (h : dep k a = true) (q : Q (.sh (.bool true)) c) : p_law_same_3 k [.sh a, .sh a] c Q := ⟨a, a, rfl, rfl, h, q⟩
def nI (ks : List Nat) : List Int := ks.map fun k : Nat => (k : Int)
def tapeL (S : Nat) : List Nat → Nat → List Int
  | [], _ => []
  | o :: r, g => List.replicate o ((S + g : Nat) : Int) ++ tapeL S r (g + 1)
def lcP (S : Nat) : List Nat → Nat → Nat
  | [], p => p
  | o :: r, p => lcP S r (Nat.lcm p (S / Nat.gcd S o))
theorem tape_len (S : Nat) : ∀ (ks : List Nat) (g : Nat), (∀ k ∈ ks, k < 7) → (tapeL S ks g).length ≤ 6 * ks.length
  | [], g, _ => Nat.zero_le _
  | o :: r, g, h => by
    have := tape_len S r (g + 1) fun k hk => h k (List.mem_cons_of_mem _ hk)
    have := h o List.mem_cons_self
    unfold tapeL
    rw [List.length_append, List.length_replicate, List.length_cons]; omega
theorem tape_mem {S : Nat} {w : Int} : ∀ (ks : List Nat) (g : Nat), w ∈ tapeL S ks g → ∃ h : Nat, g ≤ h ∧ h < g + ks.length ∧ w = ((S + h : Nat) : Int)
  | o :: r, g, m => by
    unfold tapeL at m
    rw [List.length_cons]
    rcases List.mem_append.mp m with m | m
    · exact ⟨g, Nat.le_refl _, by omega, (List.mem_replicate.mp m).2⟩
    · obtain ⟨h, h1, h2, e⟩ := tape_mem r (g + 1) m
      exact ⟨h, by omega, by omega, e⟩
theorem tape_count {S : Nat} : ∀ (ks : List Nat) (g i : Nat) (h : i < ks.length), (tapeL S ks g).count ((S + (g + i) : Nat) : Int) = ks[i]
  | o :: r, g, 0, _ => by
    unfold tapeL
    rw [List.count_append, Nat.add_zero, List.count_replicate_self]
    have : (tapeL S r (g + 1)).count ((S + g : Nat) : Int) = 0 := List.count_eq_zero.mpr fun m => by
      obtain ⟨h, h1, _, e⟩ := tape_mem r (g + 1) m
      omega
    rw [this]; rfl
  | o :: r, g, i + 1, h => by
    unfold tapeL
    rw [List.length_cons] at h
    rw [List.count_append]
    have e0 : (List.replicate o ((S + g : Nat) : Int)).count ((S + (g + (i + 1)) : Nat) : Int) = 0 := List.count_eq_zero.mpr fun m => by
      have := (List.mem_replicate.mp m).2; omega
    have ih := tape_count (S := S) r (g + 1) i (by omega)
    rw [e0, Nat.zero_add, show g + (i + 1) = g + 1 + i by omega, ih]; rfl
theorem lcP_G {S : Nat} {k : Nat → Nat} : ∀ (r : List Nat) (g : Nat), (∀ i (h : i < r.length), r[i] = k (g + i)) → lcP S r (lcG (fun _ => S) k g) = lcG (fun _ => S) k (g + r.length)
  | [], g, _ => rfl
  | o :: r, g, h => by
    have h0 := h 0 (by simp)
    have h0 : o = k g := h0
    unfold lcP
    rw [h0]
    have ih := lcP_G (S := S) (k := k) r (g + 1) fun i hi => by
      have := h (i + 1) (by rw [List.length_cons]; omega)
      rw [show g + (i + 1) = g + 1 + i by omega] at this
      exact this
    rw [show Nat.lcm (lcG (fun _ => S) k g) (S / Nat.gcd S (k g)) = lcG (fun _ => S) k (g + 1) from rfl, ih, List.length_cons]
    congr 1; omega
theorem lcm_le {a b : Nat} (ha : 1 ≤ a) (hb : 1 ≤ b) : Nat.lcm a b ≤ a * b := Nat.le_of_dvd (Nat.mul_pos ha hb) (Nat.lcm_dvd (Nat.dvd_mul_right _ _) (Nat.dvd_mul_left _ _))
theorem part_bd {S o : Nat} (s0 : 1 ≤ S) : 1 ≤ S / Nat.gcd S o ∧ S / Nat.gcd S o ≤ S ∧ 1 ≤ Nat.gcd S o ∧ Nat.gcd S o ≤ S := by
  have g0 : 0 < Nat.gcd S o := Nat.gcd_pos_of_pos_left _ (by omega)
  have gl : Nat.gcd S o ≤ S := Nat.le_of_dvd (by omega) (Nat.gcd_dvd_left _ _)
  exact ⟨Nat.div_pos gl g0, Nat.div_le_self _ _, g0, gl⟩
theorem cdiv63 {a b : Nat} (b0 : 1 ≤ b) (b1 : b ≤ 2 ^ 60) : CDivW ((a : Nat) : Int) ((b : Nat) : Int) := by
  refine ⟨by omega, ?_⟩
  rw [Int.natAbs_natCast]
  have := log_lt b1
  omega
theorem cmul63 {a b : Nat} (a1 : a ≤ 2 ^ 60) (b1 : b ≤ 2 ^ 60) : CMulW ((a : Nat) : Int) ((b : Nat) : Int) := by
  show _ + _ < _
  rw [Int.natAbs_natCast, Int.natAbs_natCast]
  have := log_lt a1
  have := log_lt b1
  omega
abbrev rr_body : DTS := (dSeq (dSetG false 8 (dOp φAdd (dVar 8) (dOp φMul (dLst (dCons (dOp φAdd (dVar 1) (dVar 10)) dNil)) (dVar 11))))
  (dSeq (dSetG false 12 (dOp (φC CDivW fun i j => i / j) (dVar 1) (dCall p_law_divisor (dCons (dVar 1) (dCons (dVar 11) dNil)))))
  (dSetG false 9 (dOp (φC CDivW fun i j => i / j) (dOp φMul (dVar 9) (dVar 12)) (dCall p_law_divisor (dCons (dVar 9) (dCons (dVar 12) dNil)))))))
def enK (ks : List Nat) (g : Nat) : List PyData := (ks.zipIdx g).map fun p => .tuple [.int (p.2 : Nat), .int (p.1 : Nat)]
theorem rr_loop {S : Nat} (s0 : 1 ≤ S) (s1 : S ≤ 30) {x0 x2 x3 x4 x5 x6 x7 x13 x14 x15 x16 x17 : SV} {Δ : DEnds} {c : Nat} : ∀ (ks : List Nat) (g p : Nat) (ws : List Int) (y10 y11 y12 : SV), (∀ k ∈ ks, k < 7) → 1 ≤ p → p ≤ 2 ^ (5 * g) → g + ks.length ≤ 8 → ws.length + 6 * ks.length ≤ 1000 →
    (∀ y10 y11 y12, Δ.nx ⟨[x0, .sh (.int (S : Nat)), x2, x3, x4, x5, x6, x7, .sh (.list (dI (ws ++ tapeL S ks g))), .sh (.int (lcP S ks p : Nat)), y10, y11, y12, x13, x14, x15, x16, x17], c⟩) →
    forD (dGTup 2 (dGCons (dName 10) (dGCons (dName 11) dGNil))) rr_body Δ (enK ks g) ⟨[x0, .sh (.int (S : Nat)), x2, x3, x4, x5, x6, x7, .sh (.list (dI ws)), .sh (.int (p : Nat)), y10, y11, y12, x13, x14, x15, x16, x17], c⟩
  | [], g, p, ws, y10, y11, y12, _, _, _, _, _, q => by
    have := q y10 y11 y12
    unfold tapeL lcP at this
    rw [List.append_nil] at this
    exact this
  | o :: r, g, p, ws, y10, y11, y12, hk, p0, p1, gl, wl, q => by
    rw [List.length_cons] at gl wl
    have ho := hk o List.mem_cons_self
    obtain ⟨d1, d2, d3, d4⟩ := part_bd (S := S) (o := o) s0
    have pg := part_bd (S := p) (o := S / Nat.gcd S o) p0
    have p40 : p ≤ 2 ^ 40 := Nat.le_trans p1 (Nat.pow_le_pow_right (by decide) (by omega))
    unfold enK
    rw [List.zipIdx_cons, List.map_cons]
    refine for_cons ?_
    have rest := rr_loop s0 s1 (x0 := x0) (x2 := x2) (x3 := x3) (x4 := x4) (x5 := x5) (x6 := x6) (x7 := x7) (x13 := x13) (x14 := x14) (x15 := x15) (x16 := x16) (x17 := x17) (Δ := Δ) (c := c) r (g + 1) (Nat.lcm p (S / Nat.gcd S o)) (ws ++ List.replicate o ((S + g : Nat) : Int))
    unfold rr_body at rest
    unfold rr_body
    rfl'
    refine ⟨rfl, ?_⟩
    refine sq_ ?_
    rfl'
    refine ⟨⟨by omega, by omega, show 1 * _ ≤ 16777216 by omega⟩, ?_⟩
    have e1 : ((S : Nat) : Int) + ((g : Nat) : Int) = ((S + g : Nat) : Int) := by omega
    rw [e1, Int.toNat_natCast, rep_one]
    refine ⟨show _ ≤ 16777216 by rw [dI_len, dI_len, List.length_replicate]; omega, ?_⟩
    rw [dI_app]
    refine sq_ ?_
    rfl'
    refine ⟨S, o, rfl, ?_⟩
    rfl'
    refine ⟨cdiv63 d3 (by omega), ?_⟩
    rw [← Int.natCast_ediv]
    rfl'
    refine ⟨cmul63 (by omega) (by omega), ?_⟩
    refine ⟨p, S / Nat.gcd S o, rfl, ?_⟩
    rfl'
    refine ⟨by rw [← Int.natCast_mul]; exact cdiv63 pg.2.2.1 (by omega), ?_⟩
    rw [← Int.natCast_mul, ← Int.natCast_ediv, show p * (S / Nat.gcd S o) / Nat.gcd p (S / Nat.gcd S o) = Nat.lcm p (S / Nat.gcd S o) from rfl]
    refine rest _ _ _ (fun k hk2 => hk k (List.mem_cons_of_mem _ hk2)) (Nat.lcm_pos p0 d1) ?_ (by omega) (by rw [List.length_append, List.length_replicate]; omega) fun a b d => ?_
    · refine Nat.le_trans (lcm_le p0 d1) ?_
      rw [show 5 * (g + 1) = 5 * g + 5 by omega, Nat.pow_add]
      exact Nat.mul_le_mul p1 (by omega)
    · have := q a b d
      unfold tapeL lcP at this
      rw [← List.append_assoc] at this
      exact this
/-- the ring of all, and guests -/
theorem core63 {S : Nat} (s0 : 1 ≤ S) (s1 : S ≤ 100) {sp : List Int} (hs : ∀ z ∈ sp, 0 ≤ z ∧ z < (S : Int)) (le : sp.length ≤ 100) : Core (bst 0 S (fUp S)) sp := by
  have st := bst_st (k := 0) (fin_up s0) s0 (by omega)
  have l : (bst 0 S (fUp S)).length = S := by rw [bst_len]; omega
  refine ⟨st, fun x hx => ?_, fun z hz => ?_, by rw [l]; omega⟩
  · have h0 := hx.1
    have h1 := hx.2
    rw [l] at h1
    rw [bst_up st (by omega) (by omega)]
    exact upL_mem.mpr ⟨by omega, by omega⟩
  · have := hs z hz
    exact ⟨this.1, by rw [l]; exact this.2⟩
theorem itr63 {S : Nat} (s0 : 1 ≤ S) {x : Int} (h0 : 0 ≤ x) (h1 : x < (S : Int)) : ∀ k : Nat, itr (bst 0 S (fUp S)) x k = (x + (k : Int)) % (S : Int)
  | 0 => by
    show x = _
    rw [show x + ((0 : Nat) : Int) = x by omega, Int.emod_eq_of_lt h0 h1]
  | k + 1 => by
    show gt (bst 0 S (fUp S)) (itr (bst 0 S (fUp S)) x k) = _
    rw [itr63 s0 h0 h1 k]
    have a := Int.emod_nonneg (x + (k : Int)) (show (S : Int) ≠ 0 by omega)
    have b := Int.emod_lt_of_pos (x + (k : Int)) (show (0 : Int) < (S : Int) by omega)
    have g := bst_hi (k := 0) (n := S) (f := fUp S) a b
    rw [show ((0 : Nat) : Int) + (x + (k : Int)) % (S : Int) = (x + (k : Int)) % (S : Int) by omega] at g
    rw [g]
    unfold fUp
    rw [Int.emod_add_emod, show ((0 : Nat) : Int) + (x + (k : Int) + 1) % (S : Int) = (x + (k : Int) + 1) % (S : Int) by omega]
    congr 1
    omega
theorem len63 {S : Nat} (s0 : 1 ≤ S) (s1 : S ≤ 100) {z : Int} (h : 0 ≤ z ∧ z < (S : Int)) : (ringF (bst 0 S (fUp S)) z).length = S := by
  rw [bst_up (bst_st (k := 0) (fin_up s0) s0 (by omega)) (by omega) (by omega), upL_len]
theorem nI_of : ∀ {cs : List Int}, (∀ z ∈ cs, 0 ≤ z ∧ z < 7) → ∃ ks : List Nat, cs = nI ks ∧ ks.length = cs.length ∧ ∀ k ∈ ks, k < 7
  | [], _ => ⟨[], rfl, rfl, fun k h => nomatch h⟩
  | z :: cs, h => by
    obtain ⟨ks, e, l, m⟩ := nI_of (cs := cs) fun x hx => h x (List.mem_cons_of_mem _ hx)
    have hz := h z List.mem_cons_self
    refine ⟨z.toNat :: ks, ?_, by rw [List.length_cons, List.length_cons, l], fun k hk => ?_⟩
    · show z :: cs = ((z.toNat : Nat) : Int) :: nI ks
      rw [← e]
      congr 1; omega
    · rcases List.mem_cons.mp hk with y | y
      · omega
      · exact m k y
theorem enK_of (ks : List Nat) : enD (dI (nI ks)) = enK ks 0 := by
  unfold enK enD nI
  show List.mapIdx _ (List.map _ (List.map _ ks)) = _
  refine List.ext_getElem (by rw [List.length_mapIdx, List.length_map, List.length_map, List.length_map, List.length_zipIdx]) fun i h1 h2 => ?_
  rw [List.getElem_mapIdx, List.getElem_map, List.getElem_map, List.getElem_map, List.getElem_zipIdx, Nat.zero_add]
theorem nI_len (ks : List Nat) : (nI ks).length = ks.length := List.length_map ..
/-- the facts of a ring with guests -/
structure RG (S : Nat) (sp : List Int) (ks : List Nat) (ws : List Int) : Prop where
  s0 : 1 ≤ S
  s1 : S ≤ 30
  in_ : ∀ z ∈ sp, 0 ≤ z ∧ z < (S : Int)
  le : sp.length ≤ 7
  kl : ks.length = sp.length
  k7 : ∀ k ∈ ks, k < 7
  pm : ws.Perm (tapeL S ks 0)
namespace RG
variable {S : Nat} {sp : List Int} {ks : List Nat} {ws : List Int} (G : RG S sp ks ws)
include G
theorem core : Core (bst 0 S (fUp S)) sp := core63 G.s0 (by have := G.s1; omega) G.in_ (by have := G.le; omega)
theorem cl : (bst 0 S (fUp S)).length = S := by rw [bst_len]; omega
theorem hw : ∀ w ∈ ws, ∃ g : Nat, g < sp.length ∧ w = (((bst 0 S (fUp S)).length + g : Nat) : Int) := fun w h => by
  obtain ⟨g, _, h2, e⟩ := tape_mem ks 0 (G.pm.mem_iff.mp h)
  exact ⟨g, by rw [← G.kl]; omega, by rw [G.cl]; exact e⟩
theorem cnt {g : Nat} (h : g < sp.length) : ws.count (((bst 0 S (fUp S)).length + g : Nat) : Int) = ks.getD g 0 := by
  rw [G.cl, G.pm.count_eq]
  have hk : g < ks.length := by rw [G.kl]; exact h
  have := tape_count (S := S) ks 0 g hk
  rw [Nat.zero_add] at this
  rw [this, List.getD_eq_getElem?_getD, List.getElem?_eq_getElem hk]; rfl
theorem wl : ws.length < 64 := by
  have := tape_len S ks 0 G.k7
  rw [G.pm.length_eq]
  have := G.le
  have := G.kl
  omega
theorem nl : (bst 0 S (fUp S) ++ sp).length = S + sp.length := by rw [List.length_append, G.cl]
theorem low : Low (bst 0 S (fUp S) ++ sp).length ws := guest_low G.hw
theorem spg {g : Nat} (h : g < sp.length) : 0 ≤ sp.getD g 0 ∧ sp.getD g 0 < (S : Int) := G.in_ _ (getD_mem h)
theorem lc : lcF (rep (bst 0 S (fUp S) ++ sp) ws 0) ws = lcP S ks 1 := by
  show lcF (bst 0 S (fUp S) ++ sp) ws = _
  rw [lc_guest G.core G.hw]
  have e1 : ∀ n, n ≤ sp.length → lcG (fun g => (ringF (bst 0 S (fUp S)) (sp.getD g 0)).length) (fun g => ws.count (((bst 0 S (fUp S)).length + g : Nat) : Int)) n = lcG (fun _ => S) (fun g => ks.getD g 0) n := fun n => by
    induction n with
    | zero => intro _; rfl
    | succ n ih =>
      intro hn
      unfold lcG
      rw [ih (by omega), len63 G.s0 (by have := G.s1; omega) (G.spg (by omega)), G.cnt (by omega)]
  rw [e1 _ (Nat.le_refl _)]
  have := lcP_G (S := S) (k := fun g => ks.getD g 0) ks 0 fun i h => by
    show ks[i] = ks.getD (0 + i) 0
    rw [Nat.zero_add, List.getD_eq_getElem?_getD, List.getElem?_eq_getElem h]; rfl
  rw [show lcG (fun _ => S) (fun g => ks.getD g 0) 0 = 1 from rfl, Nat.zero_add, G.kl] at this
  exact this.symm
theorem tr : trF (rep (bst 0 S (fUp S) ++ sp) ws 0) ws = ((List.range sp.length).filter fun g => decide (ks.getD g 0 % S ≠ 0)).map fun g => ((S + g : Nat) : Int) := by
  show trF (bst 0 S (fUp S) ++ sp) ws = _
  rw [tr_guest G.core G.hw, G.cl]
  congr 1
  refine List.filter_congr fun g hg => ?_
  have hg := List.mem_range.mp hg
  have c := G.cnt hg
  rw [G.cl] at c
  rw [c, len63 G.s0 (by have := G.s1; omega) (G.spg hg)]
theorem at_ (m : Nat) : rep (bst 0 S (fUp S) ++ sp) ws m = bst 0 S (fUp S) ++ (List.range sp.length).map fun g => (sp.getD g 0 + ((ks.getD g 0 * m : Nat) : Int)) % (S : Int) := by
  rw [guest_rep G.core G.hw]
  congr 1
  unfold mvG
  refine List.map_congr_left fun g hg => ?_
  have hg := List.mem_range.mp hg
  have := G.spg hg
  show itr _ _ (m * ws.count _) = _
  rw [G.cnt hg, itr63 G.s0 this.1 this.2, Nat.mul_comm]
theorem sq {g : Nat} (h : g < sp.length) (m : Nat) : sqF (bst 0 S (fUp S) ++ sp) ws ((S + g : Nat) : Int) m = (sp.getD g 0 + ((ks.getD g 0 * m : Nat) : Int)) % (S : Int) := by
  show gt (rep _ _ m) _ = _
  rw [G.at_ m]
  have e := gt_guest (c := bst 0 S (fUp S)) (sp := (List.range sp.length).map fun g => (sp.getD g 0 + ((ks.getD g 0 * m : Nat) : Int)) % (S : Int)) (g := g) (by rw [List.length_map, List.length_range]; exact h)
  rw [G.cl] at e
  rw [e, List.getD_eq_getElem?_getD, List.getElem?_map, List.getElem?_range h]; rfl
end RG
theorem enK_rg (ks : List Nat) : enK ks 0 = (List.range ks.length).map fun g : Nat => .tuple [.int (g : Nat), .int (ks.getD g 0 : Nat)] := by
  unfold enK
  refine List.ext_getElem (by rw [List.length_map, List.length_map, List.length_zipIdx, List.length_range]) fun i h1 h2 => ?_
  rw [List.getElem_map, List.getElem_map, List.getElem_zipIdx, List.getElem_range, Nat.zero_add, List.getD_eq_getElem?_getD, List.getElem?_eq_getElem (by rw [List.length_map, List.length_zipIdx] at h1; exact h1)]
  rfl
theorem zip_rg63 {sp : List Int} {ks : List Nat} (l : ks.length = sp.length) : zipDs (dI sp) (dI (nI ks)) = (List.range sp.length).map fun g : Nat => .tuple [.int (sp.getD g 0), .int (ks.getD g 0 : Nat)] := by
  unfold zipDs nI
  refine List.ext_getElem (by rw [List.length_zipWith, List.length_map, List.length_map, List.length_map, List.length_map, List.length_range]; omega) fun i h1 h2 => ?_
  rw [List.length_map, List.length_range] at h2
  rw [List.getElem_zipWith, List.getElem_map, List.getElem_map, List.getElem_map, List.getElem_map, List.getElem_range, List.getD_eq_getElem?_getD, List.getElem?_eq_getElem h2, List.getD_eq_getElem?_getD, List.getElem?_eq_getElem (by omega)]
  rfl
theorem depT63 {k : Nat} {ns : List Int} (l : ns.length ≤ 1000000) : dep (k + 2) (.tuple (dI ns)) = true := by
  show (decide _ && _) = true
  rw [dI_len, decide_eq_true l, Bool.true_and]
  exact dep_dI ns
theorem depL63 {k : Nat} {ns : List Int} (l : ns.length ≤ 1000000) : dep (k + 2) (.list (dI ns)) = true := by
  show (decide _ && _) = true
  rw [dI_len, decide_eq_true l, Bool.true_and]
  exact dep_dI ns
abbrev rr_rep : DTS := (dSeq (dSetG false 15 (dLc (dZip (dCons (dVar 3) (dCons (dVar 5) dNil))) (dGTup 2 (dGCons (dName 7) (dGCons (dName 11) dGNil))) dYes (dOp (φC (fun _ j => 0 < j) fun i j => i % j) (dOp φAdd (dVar 7) (dOp φMul (dVar 11) (dVar 14))) (dVar 1)) [7, 11]))
  (dIfS (dNot (dTruth (dCall (p_law_same_3 3) (dCons (dCall p_repeated (dCons (dVar 6) (dCons (dVar 8) (dCons (dVar 14) dNil)))) (dCons (dOp φAdd (dSl φSl (dVar 6) dNoP (dPart (dVar 1))) (dCB φTuple (dCons (dVar 15) dNil))) dNil))))) (dRet (dC (.bool false))) dNext))
theorem rr_reps {S : Nat} {sp : List Int} {ks : List Nat} {ws : List Int} (G : RG S sp ks ws) {x0 x2 x4 x7 x9 x10 x11 x12 x13 x16 x17 : SV} {Δ : DEnds} {c : Nat} : ∀ (ms : List Int) (y14 y15 : SV), (∀ m ∈ ms, 0 ≤ m ∧ m ≤ 10 ^ 12) →
    (∀ y14 y15, Δ.nx ⟨[x0, .sh (.int (S : Nat)), x2, .sh (.list (dI sp)), x4, .sh (.list (dI (nI ks))), .sh (.tuple (dI (bst 0 S (fUp S) ++ sp))), x7, .sh (.list (dI ws)), x9, x10, x11, x12, x13, y14, y15, x16, x17], c⟩) →
    forD (dName 14) rr_rep Δ (dI ms) ⟨[x0, .sh (.int (S : Nat)), x2, .sh (.list (dI sp)), x4, .sh (.list (dI (nI ks))), .sh (.tuple (dI (bst 0 S (fUp S) ++ sp))), x7, .sh (.list (dI ws)), x9, x10, x11, x12, x13, y14, y15, x16, x17], c⟩
  | [], y14, y15, _, q => q y14 y15
  | m :: ms, y14, y15, hm, q => by
    obtain ⟨m0, m1⟩ := hm m List.mem_cons_self
    have s0 := G.s0
    have s1 := G.s1
    have le := G.le
    have nl := G.nl
    have e12 : (10 : Int) ^ 12 = 1000000000000 := by decide
    rw [e12] at m1
    show forD _ _ _ (.int m :: dI ms) _
    refine for_cons ?_
    have rest := fun y14 y15 => rr_reps G (x0 := x0) (x2 := x2) (x4 := x4) (x7 := x7) (x9 := x9) (x10 := x10) (x11 := x11) (x12 := x12) (x13 := x13) (x16 := x16) (x17 := x17) (Δ := Δ) (c := c) ms y14 y15 (fun z hz => hm z (List.mem_cons_of_mem _ hz)) q
    unfold rr_rep at rest
    unfold rr_rep
    refine sq_ ?_
    rfl'
    rw [zip_rg63 G.kl]
    refine lc_all (fun g : Nat => .tuple [.int (sp.getD g 0), .int (ks.getD g 0 : Nat)]) (fun g : Nat => .int ((sp.getD g 0 + ((ks.getD g 0 * m.toNat : Nat) : Int)) % (S : Int))) (List.range sp.length) [] (fun g hg K hK => ?_) (by rw [List.length_range]; show 0 + _ ≤ _; omega) ?_
    · have hg := List.mem_range.mp hg
      have k7 : ks.getD g 0 < 7 := G.k7 _ (by rw [List.getD_eq_getElem?_getD, List.getElem?_eq_getElem (by rw [G.kl]; exact hg)]; exact List.getElem_mem _)
      rfl'
      refine ⟨rfl, ?_⟩
      rfl'
      have em : m = ((m.toNat : Nat) : Int) := by omega
      refine ⟨by rw [em]; exact cmul63 (by omega) (by omega), by omega, ?_⟩
      have e2 : ((ks.getD g 0 : Nat) : Int) * m = ((ks.getD g 0 * m.toNat : Nat) : Int) := by rw [Int.natCast_mul, ← em]
      rw [e2]
      exact hK _ _ rfl rfl
    rw [List.nil_append, show (List.range sp.length).map (fun g : Nat => PyData.int ((sp.getD g 0 + ((ks.getD g 0 * m.toNat : Nat) : Int)) % (S : Int))) = dI ((List.range sp.length).map fun g : Nat => (sp.getD g 0 + ((ks.getD g 0 * m.toNat : Nat) : Int)) % (S : Int)) by unfold dI; rw [List.map_map]; rfl]
    rfl'
    refine ⟨_, _, _, ws, m, rfl, its_t _, its_l _, G.core.stt, G.low, G.wl, m0, by omega, ?_⟩
    rw [G.at_]
    rfl'
    rw [cutD_to _ _ (by omega), dI_take, Int.toNat_natCast, List.take_left' G.cl]
    refine ⟨show _ ≤ 16777216 by rw [dI_len, dI_len, G.cl, List.length_map, List.length_range]; omega, ?_⟩
    rw [dI_app]
    refine c_same63 (depT63 (by rw [List.length_append, G.cl, List.length_map, List.length_range]; omega)) ?_
    rfl'
    refine if_f (by decide) ?_
    exact rest _ _
abbrev rr_ft : DTS := (dSeq (dSetG false 16 (dCall p_law_take (dCons (dVar 0) (dCons (dVar 1) dNil))))
  (dSeq (dSetG false 17 (dLc (dRng1 (dCons (dVar 1) dNil)) (dName 4) (dTest (dOp (φEq false) (dOp (φC (fun _ j => 0 < j) fun i j => i % j) (dOp φAdd (dOp φIx (dVar 3) (dVar 10)) (dOp φMul (dVar 11) (dVar 4))) (dVar 1)) (dVar 16))) (dVar 4) [4]))
  (dIfS (dNot (dTruth (dCall (p_law_same_3 3) (dCons (dCall p_first_time (dCons (dVar 6) (dCons (dVar 8) (dCons (dOp φAdd (dVar 1) (dVar 10)) (dCons (dVar 16) dNil))))) (dCons (dIf (dTest (dOp (φEq true) (dVar 17) (dLst dNil))) (dOp φIx (dVar 17) (dC (.int 0))) (dC .none)) dNil))))) (dRet (dC (.bool false))) dNext)))
theorem ft_list {s : Nat → Int} {S : Nat} (S0 : 1 ≤ S) (per : ∀ k, s k = s (k % S)) (t : Int) : (match (List.range S).filter (fun k => decide (s k = t)) with
    | k :: _ => PyData.int (k : Nat)
    | [] => .none) = ftR s t := by
  cases e : (List.range S).filter (fun k => decide (s k = t)) with
  | nil =>
    refine (ft_no fun k z => ?_).symm
    have m : k % S ∈ (List.range S).filter (fun k => decide (s k = t)) := List.mem_filter.mpr ⟨List.mem_range.mpr (Nat.mod_lt _ (by omega)), decide_eq_true (by rw [← per]; exact z)⟩
    rw [e] at m; cases m
  | cons k r =>
    have m : k ∈ (List.range S).filter (fun k => decide (s k = t)) := by rw [e]; exact List.mem_cons_self
    have pw := (List.pairwise_lt_range (n := S)).filter (fun k => decide (s k = t))
    rw [e] at pw
    refine (ft_at (of_decide_eq_true (List.mem_filter.mp m).2) fun j hj z => ?_).symm
    have kS := List.mem_range.mp (List.mem_filter.mp m).1
    have mj : j ∈ (List.range S).filter (fun k => decide (s k = t)) := List.mem_filter.mpr ⟨List.mem_range.mpr (by omega), decide_eq_true z⟩
    rw [e] at mj
    rcases List.mem_cons.mp mj with y | y
    · omega
    · have := (List.pairwise_cons.mp pw).1 j y; omega
theorem rr_fts {S : Nat} {sp : List Int} {ks : List Nat} {ws : List Int} (G : RG S sp ks ws) {x2 x4 x7 x9 x12 x13 x14 x15 : SV} {Δ : DEnds} : ∀ (js : List Nat) (y10 y11 y16 y17 : SV) (c : Nat), (∀ g ∈ js, g < sp.length) → c + 3 * js.length ≤ 800000000 →
    (∀ y10 y11 y16 y17 c', c' ≤ c + 3 * js.length → Δ.nx ⟨[.bx, .sh (.int (S : Nat)), x2, .sh (.list (dI sp)), x4, .sh (.list (dI (nI ks))), .sh (.tuple (dI (bst 0 S (fUp S) ++ sp))), x7, .sh (.list (dI ws)), x9, y10, y11, x12, x13, x14, x15, y16, y17], c'⟩) →
    forD (dGTup 2 (dGCons (dName 10) (dGCons (dName 11) dGNil))) rr_ft Δ (js.map fun g : Nat => .tuple [.int (g : Nat), .int (ks.getD g 0 : Nat)]) ⟨[.bx, .sh (.int (S : Nat)), x2, .sh (.list (dI sp)), x4, .sh (.list (dI (nI ks))), .sh (.tuple (dI (bst 0 S (fUp S) ++ sp))), x7, .sh (.list (dI ws)), x9, y10, y11, x12, x13, x14, x15, y16, y17], c⟩
  | [], y10, y11, y16, y17, c, _, _, q => q y10 y11 y16 y17 c (Nat.le_refl _)
  | g :: js, y10, y11, y16, y17, c, hj, hc, q => by
    rw [List.length_cons] at hc q
    have s0 := G.s0
    have s1 := G.s1
    have le := G.le
    have nl := G.nl
    have hg := hj g List.mem_cons_self
    have gb := G.spg hg
    have k7 : ks.getD g 0 < 7 := G.k7 _ (by rw [List.getD_eq_getElem?_getD, List.getElem?_eq_getElem (by rw [G.kl]; exact hg)]; exact List.getElem_mem _)
    rw [List.map_cons]
    refine for_cons ?_
    have rest := fun y10 y11 y16 y17 c' => rr_fts G (x2 := x2) (x4 := x4) (x7 := x7) (x9 := x9) (x12 := x12) (x13 := x13) (x14 := x14) (x15 := x15) (Δ := Δ) js y10 y11 y16 y17 c' (fun z hz => hj z (List.mem_cons_of_mem _ hz))
    unfold rr_ft at rest
    unfold rr_ft
    rfl'
    refine ⟨rfl, ?_⟩
    refine sq_ ?_
    rfl'
    refine c_take (by omega) (by omega) (by omega) fun aim c2 a0 a1 hc2 => ?_
    rfl'
    refine sq_ ?_
    rfl'
    refine ⟨⟨by omega, by omega⟩, ?_⟩
    have rg : rgD 0 ((S : Nat) : Int).toNat = (List.range S).map fun i : Nat => PyData.int (i : Nat) := by
      unfold rgD
      rw [Int.toNat_natCast]
      exact List.map_congr_left fun i _ => by rw [Int.zero_add]
    rw [rg]
    refine lc_if (fun i : Nat => .int (i : Nat)) (fun i : Nat => PyData.int (i : Nat)) (fun i : Nat => decide (sqF (bst 0 S (fUp S) ++ sp) ws ((S + g : Nat) : Int) i = aim)) (List.range S) [] (fun i hi Y N hY hN => ?_) (by rw [List.length_range]; show 0 + _ ≤ _; omega) ?_
    · have hi := List.mem_range.mp hi
      have et := G.sq hg i
      have at0 : atI (dI sp) ((g : Nat) : Int) = some (.int (sp.getD g 0)) := by
        have := atI_dI (ns := sp) (i := ((g : Nat) : Int)) (by omega) (by omega)
        rw [this]
        unfold gt
        rw [Int.toNat_natCast]
      rfl'
      refine ⟨_, at0, ?_⟩
      refine ⟨cmul63 (by omega) (by omega), by omega, ?_⟩
      rw [← Int.natCast_mul, ← et]
      refine it_2 (fun z => ?_) fun z => ?_
      · exact hY (decide_eq_true z) _ _ rfl rfl
      · exact hN (decide_eq_false z) _ rfl
    rw [List.nil_append]
    have fl := ft_list (s := sqF (bst 0 S (fUp S) ++ sp) ws ((S + g : Nat) : Int)) s0 (fun k => by
      rw [G.sq hg, G.sq hg, Int.natCast_mul, Int.natCast_mul, Int.natCast_emod, Int.add_emod, Int.add_emod (sp.getD g 0) (((ks.getD g 0 : Nat) : Int) * (((k : Nat) : Int) % (S : Int))), Int.mul_emod, Int.mul_emod ((ks.getD g 0 : Nat) : Int) (((k : Nat) : Int) % (S : Int)), Int.emod_emod]) aim
    rfl'
    refine ⟨_, _, _, ws, ((S : Nat) : Int) + ((g : Nat) : Int), aim, rfl, its_t _, its_l _, G.core.stt, G.low, G.wl, ⟨by omega, by omega⟩, ⟨a0, by omega⟩, ?_⟩
    rw [show ((S : Nat) : Int) + ((g : Nat) : Int) = ((S + g : Nat) : Int) by omega, ← fl]
    generalize (List.range S).filter (fun k => decide (sqF (bst 0 S (fUp S) ++ sp) ws ((S + g : Nat) : Int) k = aim)) = T
    rw [show T.map (fun i : Nat => PyData.int (i : Nat)) = dI (nI T) by unfold nI dI; rw [List.map_map]; rfl]
    refine ⟨⟨shL _, shL []⟩, ?_⟩
    rw [eqv_dn]
    cases T with
    | nil =>
      refine if_f (by decide) ?_
      rfl'
      refine c_same63 rfl ?_
      rfl'
      refine if_f (by decide) ?_
      refine rest _ _ _ _ c2 (by omega) fun a b d e c' hc' => q a b d e c' (by omega)
    | cons k r =>
      refine if_t (by simp [nI]) ?_
      refine ⟨_, atI_hd (r := nI (k :: r)) (fun z => nomatch z), ?_⟩
      rfl'
      refine c_same63 (a := .int ((k : Nat) : Int)) rfl ?_
      rfl'
      refine if_f (by decide) ?_
      refine rest _ _ _ _ c2 (by omega) fun a b d e c' hc' => q a b d e c' (by omega)
/-- _law_ring_right: _law_source, _law_size, _law_guests, _law_spots, _law_turn, _law_calls, _law_start, _law_spot, _law_tape, _law_period, _law_guest, _law_often, _law_part, _law_due, _law_many_now, _law_moved, _law_aim, _law_turns -/
def b_law_ring_right_3 : DTS := (dSeq (dPar 1 false 2 false (dOp φAdd (dC (.int 1)) (dCall p_law_take (dCons (dVar 0) (dCons (dC (.int 30)) dNil)))) (dCall p_law_take (dCons (dVar 0) (dCons (dC (.int 8)) dNil))))
  (dSeq (dSetG false 3 (dLc (dRng1 (dCons (dVar 2) dNil)) (dName 4) dYes (dCall p_law_take (dCons (dVar 0) (dCons (dVar 1) dNil))) [4]))
  (dSeq (dSetG false 5 (dLc (dRng1 (dCons (dVar 2) dNil)) (dName 4) dYes (dCall p_law_take (dCons (dVar 0) (dCons (dC (.int 7)) dNil))) [4]))
  (dSeq (dSetG false 6 (dCB φTuple (dCons (dOp φAdd (dLc (dRng1 (dCons (dVar 1) dNil)) (dName 7) dYes (dOp (φC (fun _ j => 0 < j) fun i j => i % j) (dOp φAdd (dVar 7) (dC (.int 1))) (dVar 1)) [7]) (dVar 3)) dNil)))
  (dSeq (dPar 8 false 9 false (dLst dNil) (dC (.int 1)))
  (dSeq (dFor (dEnA (dCons (dVar 5) dNil)) (dGTup 2 (dGCons (dName 10) (dGCons (dName 11) dGNil))) (dSeq (dSetG false 8 (dOp φAdd (dVar 8) (dOp φMul (dLst (dCons (dOp φAdd (dVar 1) (dVar 10)) dNil)) (dVar 11))))
  (dSeq (dSetG false 12 (dOp (φC CDivW fun i j => i / j) (dVar 1) (dCall p_law_divisor (dCons (dVar 1) (dCons (dVar 11) dNil)))))
  (dSetG false 9 (dOp (φC CDivW fun i j => i / j) (dOp φMul (dVar 9) (dVar 12)) (dCall p_law_divisor (dCons (dVar 9) (dCons (dVar 12) dNil))))))))
  (dSeq (dSetG false 8 (dCall p_law_strewn_2 (dCons (dVar 0) (dCons (dVar 8) dNil))))
  (dSeq (dIfS (dNot (dTruth (dCall (p_law_same_3 3) (dCons (dCall p_settles (dCons (dVar 6) (dCons (dVar 8) dNil))) (dCons (dTup (dCons (dC (.int 0)) (dCons (dVar 9) dNil))) dNil))))) (dRet (dC (.bool false))) dNext)
  (dSeq (dSetG false 13 (dLc (dEnA (dCons (dVar 5) dNil)) (dGTup 2 (dGCons (dName 10) (dGCons (dName 11) dGNil))) (dTest (dOp (φEq true) (dOp (φC (fun _ j => 0 < j) fun i j => i % j) (dVar 11) (dVar 1)) (dC (.int 0)))) (dOp φAdd (dVar 1) (dVar 10)) [10, 11]))
  (dSeq (dIfS (dNot (dTruth (dCall (p_law_same_3 3) (dCons (dCall p_turning (dCons (dVar 6) (dCons (dVar 8) dNil))) (dCons (dVar 13) dNil))))) (dRet (dC (.bool false))) dNext)
  (dSeq (dFor (dIter (dTup (dCons (dC (.int 0)) (dCons (dC (.int 1)) (dCons (dCall p_law_take (dCons (dVar 0) (dCons (dC (.int 100)) dNil))) (dCons (dCall p_law_take (dCons (dVar 0) (dCons (dOp (φC CPow fun i j => i ^ j.toNat) (dC (.int 10)) (dC (.int 12))) dNil))) (dCons (dOp (φC CPow fun i j => i ^ j.toNat) (dC (.int 10)) (dC (.int 12))) dNil))))))) (dName 14) (dSeq (dSetG false 15 (dLc (dZip (dCons (dVar 3) (dCons (dVar 5) dNil))) (dGTup 2 (dGCons (dName 7) (dGCons (dName 11) dGNil))) dYes (dOp (φC (fun _ j => 0 < j) fun i j => i % j) (dOp φAdd (dVar 7) (dOp φMul (dVar 11) (dVar 14))) (dVar 1)) [7, 11]))
  (dIfS (dNot (dTruth (dCall (p_law_same_3 3) (dCons (dCall p_repeated (dCons (dVar 6) (dCons (dVar 8) (dCons (dVar 14) dNil)))) (dCons (dOp φAdd (dSl φSl (dVar 6) dNoP (dPart (dVar 1))) (dCB φTuple (dCons (dVar 15) dNil))) dNil))))) (dRet (dC (.bool false))) dNext)))
  (dSeq (dFor (dEnA (dCons (dSl φSl (dVar 5) dNoP (dPart (dC (.int 3)))) dNil)) (dGTup 2 (dGCons (dName 10) (dGCons (dName 11) dGNil))) (dSeq (dSetG false 16 (dCall p_law_take (dCons (dVar 0) (dCons (dVar 1) dNil))))
  (dSeq (dSetG false 17 (dLc (dRng1 (dCons (dVar 1) dNil)) (dName 4) (dTest (dOp (φEq false) (dOp (φC (fun _ j => 0 < j) fun i j => i % j) (dOp φAdd (dOp φIx (dVar 3) (dVar 10)) (dOp φMul (dVar 11) (dVar 4))) (dVar 1)) (dVar 16))) (dVar 4) [4]))
  (dIfS (dNot (dTruth (dCall (p_law_same_3 3) (dCons (dCall p_first_time (dCons (dVar 6) (dCons (dVar 8) (dCons (dOp φAdd (dVar 1) (dVar 10)) (dCons (dVar 16) dNil))))) (dCons (dIf (dTest (dOp (φEq true) (dVar 17) (dLst dNil))) (dOp φIx (dVar 17) (dC (.int 0))) (dC .none)) dNil))))) (dRet (dC (.bool false))) dNext))))
  (dRet (dCall (p_law_same_3 3) (dCons (dCall p_first_time (dCons (dVar 6) (dCons (dVar 8) (dCons (dC (.int 0)) (dCons (dOp (φC (fun _ j => 0 < j) fun i j => i % j) (dC (.int 1)) (dVar 1)) dNil))))) (dCons (dC (.int 0)) dNil))))))))))))))))
abbrev k_law_ring_right_3 : Nat := 17
def p_law_ring_right_3 : DSp := fun args c Q => args = [.bx] ∧ c ≤ 8000000 ∧ ∀ c', c' ≤ c + 200000 → Q (.sh (.bool true)) c'
theorem mon_law_ring_right_3 : MonF p_law_ring_right_3 := fun args c A B h ⟨e, h1, q⟩ => ⟨e, h1, fun c' hc => h _ _ (q c' hc)⟩
theorem m_law_ring_right_3 : ∀ args c Q, p_law_ring_right_3 args c Q → defF k_law_ring_right_3 b_law_ring_right_3 args c Q := by
  rintro _ c Q ⟨rfl, hc, q⟩
  show b_law_ring_right_3 _ ⟨[.bx, .un, .un, .un, .un, .un, .un, .un, .un, .un, .un, .un, .un, .un, .un, .un, .un, .un], c⟩
  unfold b_law_ring_right_3
  refine sq_ ?_
  rfl'
  refine c_take (by decide) (by decide) (by omega) fun r c1 r0 r1 hc1 => ?_
  obtain ⟨S, eS⟩ : ∃ S : Nat, (S : Int) = 1 + r := ⟨(1 + r).toNat, by omega⟩
  have s0 : 1 ≤ S := by omega
  have s1 : S ≤ 30 := by omega
  rfl'
  rw [← eS]
  refine c_take (by decide) (by decide) (by omega) fun n c2 n0 n1 hc2 => ?_
  obtain ⟨N, rfl⟩ : ∃ N : Nat, n = (N : Int) := ⟨n.toNat, by omega⟩
  have rg : rgD 0 ((N : Nat) : Int).toNat = (List.range N).map fun i : Nat => .int (i : Nat) := by
    unfold rgD
    rw [Int.toNat_natCast]
    exact List.map_congr_left fun i _ => by rw [Int.zero_add]
  rfl'
  refine sq_ ?_
  rfl'
  refine ⟨⟨by omega, by omega⟩, ?_⟩
  rw [rg]
  refine lc_draw (N := 3) (fun i : Nat => PyData.int (i : Nat)) PyData.int (fun _ z => 0 ≤ z ∧ z < (S : Int)) (List.range N) [] c2 (fun i hi m hm K hK => ?_) (by rw [List.length_range]; show 0 + _ ≤ _; omega) fun sp c3 hsp hc3 => ?_
  · rw [List.length_range] at hm
    rfl'
    refine c_take (by omega) (by omega) (by omega) fun v c3 v0 v1 hc3 => ?_
    exact hK _ _ v rfl ⟨v0, v1⟩ hc3
  rw [List.length_range] at hc3
  rw [List.nil_append, show sp.map PyData.int = dI sp from rfl]
  have spl : sp.length = N := by rw [hsp.len, List.length_range]
  rfl'
  refine sq_ ?_
  rfl'
  refine ⟨⟨by omega, by omega⟩, ?_⟩
  rw [rg]
  refine lc_draw (N := 3) (fun i : Nat => PyData.int (i : Nat)) PyData.int (fun _ z => 0 ≤ z ∧ z < 7) (List.range N) [] c3 (fun i hi m hm K hK => ?_) (by rw [List.length_range]; show 0 + _ ≤ _; omega) fun cs c4 hcs hc4 => ?_
  · rw [List.length_range] at hm
    rfl'
    refine c_take (by decide) (by decide) (by omega) fun v c3 v0 v1 hc3 => ?_
    exact hK _ _ v rfl ⟨v0, v1⟩ hc3
  rw [List.length_range] at hc4
  obtain ⟨ks, rfl, kl, k7⟩ := nI_of fun z hz => (hcs.mem z hz).elim fun _ h => h.2
  have csl : (nI ks).length = N := by rw [hcs.len, List.length_range]
  rw [List.nil_append, show (nI ks).map PyData.int = dI (nI ks) from rfl]
  rfl'
  refine sq_ ?_
  rfl'
  refine ⟨⟨by omega, by omega⟩, ?_⟩
  refine lc_ring (f := fUp S) (by omega) (fun i hi K hK => ?_) ?_
  · rfl'
    refine ⟨by omega, ?_⟩
    exact hK _ _ rfl rfl
  rfl'
  have cl : (bst 0 S (fUp S)).length = S := by rw [bst_len]; omega
  refine ⟨show _ ≤ 16777216 by rw [dI_len, dI_len]; omega, ?_⟩
  rw [dI_app]
  refine sq_ ?_
  rfl'
  refine sqa_ fun D hD => ?_
  rfl'
  refine ⟨rfl, ?_⟩
  rw [enK_of]
  refine rr_loop s0 s1 ks 0 1 [] _ _ _ k7 (Nat.le_refl _) (by decide) (by omega) (by show 0 + _ ≤ _; omega) fun y10 y11 y12 => hD _ ?_
  rw [List.nil_append]
  have tl := tape_len S ks 0 k7
  refine sq_ ?_
  rfl'
  refine .inl ⟨_, tapeL S ks 0, rfl, its_l _, by omega, by omega, fun ws c5 hws hc5 => ?_⟩
  have G : RG S sp ks ws := ⟨s0, s1, fun z hz => (hsp.mem z hz).elim fun _ h => h.2, by omega, by omega, k7, hws⟩
  have st := G.core.stt
  have nl := G.nl
  have wl := G.wl
  rfl'
  refine sq_ ?_
  rfl'
  refine ⟨_, _, _, ws, 0, rfl, its_t _, its_l _, st, G.low, wl, by omega, guest_first G.core G.hw, ?_⟩
  rw [G.lc]
  rfl'
  refine c_same63 rfl ?_
  rfl'
  refine if_f (by decide) ?_
  refine sq_ ?_
  rfl'
  rw [enK_of, enK_rg, kl, csl]
  refine lc_if (fun g : Nat => .tuple [.int (g : Nat), .int (ks.getD g 0 : Nat)]) (fun g : Nat => PyData.int ((S + g : Nat) : Int)) (fun g : Nat => decide (ks.getD g 0 % S ≠ 0)) (List.range N) [] (fun g hg Y X hY hX => ?_) (by rw [List.length_range]; show 0 + _ ≤ _; omega) ?_
  · rfl'
    refine ⟨rfl, by omega, ?_⟩
    have e1 : decide (((ks.getD g 0 : Nat) : Int) % ((S : Nat) : Int) = 0) = decide (ks.getD g 0 % S = 0) := decide_eq_decide.mpr (by rw [← Int.natCast_emod]; omega)
    rw [e1]
    by_cases z : ks.getD g 0 % S = 0
    · rw [decide_eq_true z]
      refine if_f (by decide) ?_
      exact hX (decide_eq_false fun y => y z) _ rfl
    · rw [decide_eq_false z]
      refine if_t rfl ?_
      exact hY (decide_eq_true z) _ _ (by rw [show ((S : Nat) : Int) + ((g : Nat) : Int) = ((S + g : Nat) : Int) by omega]; rfl) rfl
  have et : ((List.range N).filter fun g : Nat => decide (ks.getD g 0 % S ≠ 0)).map (fun g : Nat => PyData.int ((S + g : Nat) : Int)) = dI (trF (rep (bst 0 S (fUp S) ++ sp) ws 0) ws) := by
    rw [G.tr, spl]
    unfold dI
    rw [List.map_map]; rfl
  rw [List.nil_append, et]
  have tl2 : (trF (rep (bst 0 S (fUp S) ++ sp) ws 0) ws).length ≤ 1000000 := by
    rw [G.tr, List.length_map]
    have := List.length_filter_le (fun g : Nat => decide (ks.getD g 0 % S ≠ 0)) (List.range sp.length)
    rw [List.length_range] at this
    omega
  rfl'
  refine sq_ ?_
  rfl'
  refine ⟨_, _, _, ws, 0, rfl, its_t _, its_l _, st, G.low, wl, guest_first G.core G.hw, ?_⟩
  rfl'
  refine c_same63 (depL63 tl2) ?_
  rfl'
  refine if_f (by decide) ?_
  refine sqa_ fun D hD => ?_
  rfl'
  refine c_take (by decide) (by decide) (by omega) fun m1 c6 m10 m11 hc6 => ?_
  rfl'
  refine ⟨⟨by decide, by decide, by decide⟩, ?_⟩
  refine c_take (by decide) (by decide) (by omega) fun m2 c7 m20 m21 hc7 => ?_
  rfl'
  refine ⟨⟨by decide, by decide, by decide⟩, rfl, ?_⟩
  have e12 : (10 : Int) ^ Int.toNat 12 = 1000000000000 := by decide
  have e12b : (10 : Int) ^ 12 = 1000000000000 := by decide
  rw [e12] at m21 ⊢
  refine rr_reps G [0, 1, m1, m2, 1000000000000] _ _ (fun m hm => ?_) fun y14 y15 => hD _ ?_
  · rw [e12b]
    rcases List.mem_cons.mp hm with e | hm
    · omega
    rcases List.mem_cons.mp hm with e | hm
    · omega
    rcases List.mem_cons.mp hm with e | hm
    · omega
    rcases List.mem_cons.mp hm with e | hm
    · omega
    have := List.mem_singleton.mp hm
    omega
  refine sqa_ fun D hD => ?_
  rfl'
  rw [cutD_to _ _ (by decide), dI_take, show (Int.toNat 3) = 3 from rfl]
  have e3 : enD (dI ((nI ks).take 3)) = (List.range (min 3 N)).map fun g : Nat => PyData.tuple [.int (g : Nat), .int (ks.getD g 0 : Nat)] := by
    have z : (nI ks).take 3 = nI (ks.take 3) := by unfold nI; rw [List.map_take]
    rw [z, enK_of, enK_rg, List.length_take]
    have kN : ks.length = N := by omega
    rw [kN]
    refine List.map_congr_left fun g hg => ?_
    have hg := List.mem_range.mp hg
    rw [List.getD_eq_getElem?_getD, List.getD_eq_getElem?_getD, List.getElem?_take_of_lt (by omega)]
  rw [e3]
  refine ⟨rfl, ?_⟩
  refine rr_fts G (List.range (min 3 N)) _ _ _ _ c7 (fun g hg => by have := List.mem_range.mp hg; omega) (by rw [List.length_range]; omega) ?_
  intro a b d e c8 hc8
  refine hD _ ?_
  rw [List.length_range] at hc8
  rfl'
  have p0 : Per (bst 0 S (fUp S) ++ sp) 0 := ⟨by decide, by omega⟩
  have p1 : Per (bst 0 S (fUp S) ++ sp) (1 % (S : Int)) := ⟨Int.emod_nonneg _ (by omega), by
    have := Int.emod_lt_of_pos 1 (show (0 : Int) < (S : Int) by omega)
    omega⟩
  refine ⟨by omega, _, _, _, ws, 0, 1 % ((S : Nat) : Int), rfl, its_t _, its_l _, st, G.low, wl, p0, p1, ?_⟩
  have z0 : ftR (sqF (bst 0 S (fUp S) ++ sp) ws 0) (1 % ((S : Nat) : Int)) = .int ((0 : Nat) : Int) := ft_at (by
    show gt (bst 0 S (fUp S) ++ sp) 0 = _
    have := gt_left (a := bst 0 S (fUp S)) (b := sp) (x := 0) ⟨by decide, by rw [cl]; omega⟩
    rw [this]
    have g := bst_hi (k := 0) (n := S) (f := fUp S) (i := 0) (by decide) (by omega)
    rw [show ((0 : Nat) : Int) + 0 = 0 by decide] at g
    rw [g]
    unfold fUp
    rw [show ((0 : Nat) : Int) + (0 + 1) % (S : Int) = (0 + 1) % (S : Int) by omega, show (0 : Int) + 1 = 1 by decide]) fun j hj => absurd hj (Nat.not_lt_zero _)
  rw [z0]
  rfl'
  refine c_same63 (a := .int 0) rfl ?_
  rfl'
  exact q _ (by omega)
theorem mx63 (x : Int) : (if x > 0 then x else 0) = max 0 x := by
  by_cases h : x > 0
  · rw [if_pos h]; omega
  · rw [if_neg h]; omega
def lnS (n : Nat) (v : Int) : List Int := (nsI n).map (fun p => max 0 (p - 1)) ++ [v]
theorem ln_len (n : Nat) (v : Int) : (lnS n v).length = n + 1 := by unfold lnS; rw [List.length_append, List.length_map, nsI_len]; rfl
theorem ln_lo {n : Nat} {v p : Int} (h0 : 0 ≤ p) (h1 : p < (n : Int)) : gt (lnS n v) p = max 0 (p - 1) := by
  have := gt_left (a := (nsI n).map (fun p => max 0 (p - 1))) (b := [v]) (x := p) ⟨h0, by rw [List.length_map, nsI_len]; exact h1⟩
  unfold lnS
  rw [this, gt_map_nsI h0 h1]
theorem ln_hi {n : Nat} {v : Int} : gt (lnS n v) (n : Int) = v := by
  have := gt_guest (c := (nsI n).map (fun p => max 0 (p - 1))) (sp := [v]) (g := 0) (Nat.lt_succ_self 0)
  rw [List.length_map, nsI_len] at this
  exact this
theorem ln_st {n : Nat} {v : Int} (n1 : 1 ≤ n) (le : n ≤ 100) (v0 : 0 ≤ v) (v1 : v < (n : Int)) : Stt (lnS n v) := by
  refine ⟨fun z hz => ?_, by rw [ln_len]; omega, by rw [ln_len]; omega⟩
  rw [ln_len]
  rcases List.mem_append.mp hz with m | m
  · obtain ⟨p, hp, rfl⟩ := List.mem_map.mp m
    have := nsI_mem.mp hp
    show 0 ≤ max 0 (p - 1) ∧ max 0 (p - 1) < _
    omega
  · rw [List.mem_singleton.mp m]; omega
theorem ln_itr {n : Nat} {v p : Int} (h0 : 0 ≤ p) (h1 : p < (n : Int)) : ∀ k : Nat, itr (lnS n v) p k = max 0 (p - (k : Int))
  | 0 => by show p = _; omega
  | k + 1 => by
    show gt (lnS n v) (itr (lnS n v) p k) = _
    rw [ln_itr h0 h1 k, ln_lo (by omega) (by omega)]
    omega
theorem ln_call {n : Nat} {v : Int} (v0 : 0 ≤ v) (v1 : v < (n : Int)) : call1 (lnS n v) (n : Int) = lnS n (max 0 (v - 1)) := by
  unfold call1
  rw [ln_hi, ln_lo v0 v1]
  unfold lnS
  rw [Int.toNat_natCast, List.set_append_right _ _ (by rw [List.length_map, nsI_len]; omega), List.length_map, nsI_len, Nat.sub_self]
  rfl
theorem ln_calls {n : Nat} : ∀ (o : Nat) (v : Int), 0 ≤ v → v < (n : Int) → callAll (lnS n v) (List.replicate o (n : Int)) = lnS n (max 0 (v - (o : Int)))
  | 0, v, v0, _ => by
    show lnS n v = _
    congr 1; omega
  | o + 1, v, v0, v1 => by
    show callAll (call1 (lnS n v) (n : Int)) (List.replicate o (n : Int)) = _
    rw [ln_call v0 v1, ln_calls o _ (by omega) (by omega)]
    congr 1; omega
theorem ln_rep {n o : Nat} {v : Int} (v0 : 0 ≤ v) (v1 : v < (n : Int)) : ∀ k : Nat, rep (lnS n v) (List.replicate o (n : Int)) k = lnS n (max 0 (v - ((o * k : Nat) : Int)))
  | 0 => by
    show lnS n v = _
    congr 1
    rw [Nat.mul_zero]; omega
  | k + 1 => by
    show callAll (rep (lnS n v) _ k) _ = _
    rw [ln_rep v0 v1 k, ln_calls o _ (by omega) (by omega)]
    congr 1
    rw [Nat.mul_succ]; omega
theorem ln_ring {n : Nat} {v : Int} (h : Stt (lnS n v)) (n1 : 1 ≤ n) (v0 : 0 ≤ v) (v1 : v < (n : Int)) {p : Int} (hp : Per (lnS n v) p) : ringF (lnS n v) p = [0] := by
  have z0 : gt (lnS n v) 0 = 0 := by rw [ln_lo (by decide) (by omega)]; decide
  have pz : Per (lnS n v) 0 := ⟨by decide, by rw [ln_len]; omega⟩
  have r0 : ringF (lnS n v) 0 = [0] := ring_at_ h pz pz z0 z0
  have lo : ∀ p, 0 ≤ p → p < (n : Int) → ringF (lnS n v) p = [0] := fun p h0 h1 => by
    have e := ring_any_itr h (show Per (lnS n v) p from ⟨h0, by rw [ln_len]; omega⟩) p.toNat
    rw [ln_itr h0 h1, show max 0 (p - ((p.toNat : Nat) : Int)) = 0 by omega, r0] at e
    exact e.symm
  have p0 := hp.1
  have p1 := hp.2
  rw [ln_len] at p1
  by_cases q : p < (n : Int)
  · exact lo p p0 q
  · have e : p = (n : Int) := by omega
    subst e
    have e2 : ringF (lnS n v) (gt (lnS n v) (n : Int)) = ringF (lnS n v) (n : Int) := ringF_step h.lo hp.1 hp.2
    rw [← e2, ln_hi]
    exact lo v v0 v1
theorem ln_settled {n o : Nat} {v : Int} (h : Stt (lnS n v)) (n1 : 1 ≤ n) (o1 : 1 ≤ o) (v0 : 0 ≤ v) (v1 : v < (n : Int)) : Settled (lnS n v) (List.replicate o (n : Int)) ↔ v = 0 := by
  have hp : Per (lnS n v) (n : Int) := ⟨by omega, by rw [ln_len]; omega⟩
  have hv : Per (lnS n v) v := ⟨v0, by rw [ln_len]; omega⟩
  have cz : (∃ c, Cyc (lnS n v) v c) ↔ v = 0 := by
    rw [← on_iff h hv, ln_ring h n1 v0 v1 hv, List.mem_singleton]
  have cn : ¬ ∃ c, Cyc (lnS n v) (n : Int) c := by
    rw [← on_iff h hp, ln_ring h n1 v0 v1 hp, List.mem_singleton]; omega
  constructor
  · intro st
    have s := st (n : Int) (List.mem_replicate.mpr ⟨by omega, rfl⟩)
    rcases s with e | e
    · rw [ln_hi] at e; omega
    · have := ((high_one h hp).mp e).2
      rw [ln_hi] at this
      exact cz.mp this
  · intro e p m
    rw [(List.mem_replicate.mp m).2]
    refine .inr ((high_one h hp).mpr ⟨cn, ?_⟩)
    rw [ln_hi]
    exact cz.mpr e
theorem ln_tp {n : Nat} {v : Int} {ws : List Int} (h : Stt (lnS n v)) (n1 : 1 ≤ n) (v0 : 0 ≤ v) (v1 : v < (n : Int)) {p : Int} (hp : Per (lnS n v) p) : tpF (lnS n v) ws p = 1 := by
  unfold tpF
  rw [ln_ring h n1 v0 v1 hp, show ([0] : List Int).length = 1 from rfl, Nat.gcd_one_left]
theorem ln_lc {n : Nat} {v : Int} {ws : List Int} (h : Stt (lnS n v)) (n1 : 1 ≤ n) (v0 : 0 ≤ v) (v1 : v < (n : Int)) : lcF (lnS n v) ws = 1 := by
  have : ∀ j, j ≤ (lnS n v).length → lcT (lnS n v) ws j = 1 := fun j => by
    induction j with
    | zero => intro _; rfl
    | succ j ih =>
      intro hj
      show Nat.lcm (lcT (lnS n v) ws j) (tpF (lnS n v) ws (j : Nat)) = 1
      rw [ih (by omega), ln_tp h n1 v0 v1 (per_nat (by omega)), Nat.lcm_self]
  exact this _ (Nat.le_refl _)
theorem ln_tr {n : Nat} {v : Int} {ws : List Int} (h : Stt (lnS n v)) (n1 : 1 ≤ n) (v0 : 0 ≤ v) (v1 : v < (n : Int)) : trF (lnS n v) ws = [] := by
  unfold trF
  rw [List.map_eq_nil_iff, List.filter_eq_nil_iff]
  intro i hi
  rw [ln_tp h n1 v0 v1 (per_nat (List.mem_range.mp hi))]
  decide
theorem beg63 {m o B : Nat} (o1 : 1 ≤ o) (e : B = (m + o - 1) / o) : m ≤ o * B ∧ (∀ k, k < B → o * k < m) ∧ B ≤ m := by
  have a : m + o - 1 < (B + 1) * o := (Nat.div_lt_iff_lt_mul (by omega)).mp (by omega)
  have b : ∀ k, k < B → o * k < m := fun k hk => by
    have := (Nat.le_div_iff_mul_le (k := o) (x := k + 1) (y := m + o - 1) (by omega)).mp (by omega)
    rw [Nat.add_mul, Nat.one_mul, Nat.mul_comm] at this
    omega
  refine ⟨?_, b, ?_⟩
  · rw [Nat.add_mul, Nat.one_mul, Nat.mul_comm] at a
    omega
  · rcases Nat.eq_zero_or_pos B with z | z
    · omega
    · have := b (B - 1) (by omega)
      have h2 : B - 1 ≤ o * (B - 1) := Nat.le_mul_of_pos_left _ (by omega)
      omega
/-- the facts of a line -/
theorem ln_first {n o B : Nat} (n1 : 1 ≤ n) (le : n ≤ 100) (o1 : 1 ≤ o) (e : B = (n - 1 + o - 1) / o) : FirstS (lnS n ((n : Int) - 1)) (List.replicate o (n : Int)) B := by
  obtain ⟨b1, b2, b3⟩ := beg63 o1 e
  have rp := fun k => ln_rep (n := n) (o := o) (v := (n : Int) - 1) (by omega) (by omega) k
  have st := fun k => ln_st (n := n) (v := max 0 ((n : Int) - 1 - ((o * k : Nat) : Int))) n1 le (by omega) (by omega)
  refine ⟨?_, fun k hk s => ?_, ?_⟩
  · rw [rp B]
    exact (ln_settled (st B) n1 o1 (by omega) (by omega)).mpr (by omega)
  · rw [rp k] at s
    have := (ln_settled (st k) n1 o1 (by omega) (by omega)).mp s
    have := b2 k hk
    omega
  · rw [ln_len]
    have : n + 1 ≤ (n + 1) * (n + 1) := Nat.le_mul_of_pos_left _ (by omega)
    omega
/-- _law_line_right: _law_source, _law_size, _law_often, _law_start, _law_spot, _law_tape, _law_last, _law_begin, _law_turn, _law_due -/
def b_law_line_right_3 : DTS := (dSeq (dPar 1 false 2 false (dOp φAdd (dC (.int 2)) (dCall p_law_take (dCons (dVar 0) (dCons (dC (.int 39)) dNil)))) (dOp φAdd (dC (.int 1)) (dCall p_law_take (dCons (dVar 0) (dCons (dC (.int 5)) dNil)))))
  (dSeq (dSetG false 3 (dCB φTuple (dCons (dLc (dRng1 (dCons (dVar 1) dNil)) (dName 4) dYes (dCB φMax (dCons (dC (.int 0)) (dCons (dOp (φI fun i j => i - j) (dVar 4) (dC (.int 1))) dNil))) [4]) dNil)))
  (dSeq (dPar 5 false 6 false (dOp φMul (dLst (dCons (dOp (φI fun i j => i - j) (dVar 1) (dC (.int 1))) dNil)) (dVar 2)) (dOp (φI fun i j => i - j) (dVar 1) (dC (.int 1))))
  (dSeq (dSetG false 7 (dOp (φC CDivW fun i j => i / j) (dOp (φI fun i j => i - j) (dOp φAdd (dOp (φI fun i j => i - j) (dVar 1) (dC (.int 2))) (dVar 2)) (dC (.int 1))) (dVar 2)))
  (dSeq (dIfS (dNot (dTruth (dCall (p_law_same_3 3) (dCons (dLst (dCons (dCall p_settles (dCons (dVar 3) (dCons (dVar 5) dNil))) (dCons (dCall p_turning (dCons (dVar 3) (dCons (dVar 5) dNil))) dNil))) (dCons (dLst (dCons (dTup (dCons (dVar 7) (dCons (dC (.int 1)) dNil))) (dCons (dLst dNil) dNil))) dNil))))) (dRet (dC (.bool false))) dNext)
  (dSeq (dFor (dRng2 (dCons (dC (.int 0)) (dCons (dOp φAdd (dVar 7) (dC (.int 2))) dNil))) (dName 8) (dSeq (dSetG false 9 (dOp φAdd (dSl φSl (dVar 3) dNoP (dPart (dVar 6))) (dTup (dCons (dCB φMax (dCons (dC (.int 0)) (dCons (dOp (φI fun i j => i - j) (dOp (φI fun i j => i - j) (dVar 1) (dC (.int 2))) (dOp φMul (dVar 2) (dVar 8))) dNil))) dNil))))
  (dIfS (dNot (dTruth (dCall (p_law_same_3 3) (dCons (dCall p_repeated (dCons (dVar 3) (dCons (dVar 5) (dCons (dVar 8) dNil)))) (dCons (dVar 9) dNil))))) (dRet (dC (.bool false))) dNext)))
  (dRet (dCall (p_law_same_3 3) (dCons (dCall p_first_time (dCons (dVar 3) (dCons (dVar 5) (dCons (dVar 6) (dCons (dC (.int 0)) dNil))))) (dCons (dVar 7) dNil))))))))))
abbrev k_law_line_right_3 : Nat := 9
def p_law_line_right_3 : DSp := fun args c Q => args = [.bx] ∧ c ≤ 8000000 ∧ ∀ c', c' ≤ c + 200000 → Q (.sh (.bool true)) c'
theorem mon_law_line_right_3 : MonF p_law_line_right_3 := fun args c A B h ⟨e, h1, q⟩ => ⟨e, h1, fun c' hc => h _ _ (q c' hc)⟩
theorem m_law_line_right_3 : ∀ args c Q, p_law_line_right_3 args c Q → defF k_law_line_right_3 b_law_line_right_3 args c Q := by
  rintro _ c Q ⟨rfl, hc, q⟩
  show b_law_line_right_3 _ ⟨[.bx, .un, .un, .un, .un, .un, .un, .un, .un, .un], c⟩
  unfold b_law_line_right_3
  refine sq_ ?_
  rfl'
  refine c_take (by decide) (by decide) (by omega) fun r c1 r0 r1 hc1 => ?_
  obtain ⟨n, en⟩ : ∃ n : Nat, ((n + 1 : Nat) : Int) = 2 + r := ⟨(1 + r).toNat, by omega⟩
  rfl'
  rw [← en]
  refine c_take (by decide) (by decide) (by omega) fun t c2 t0 t1 hc2 => ?_
  obtain ⟨o, eo⟩ : ∃ o : Nat, (o : Int) = 1 + t := ⟨(1 + t).toNat, by omega⟩
  rfl'
  rw [← eo]
  have n1 : 1 ≤ n := by omega
  have n39 : n ≤ 39 := by omega
  have o1 : 1 ≤ o := by omega
  have o5 : o ≤ 5 := by omega
  refine sq_ ?_
  rfl'
  refine ⟨⟨by omega, by omega⟩, ?_⟩
  have eL : bst 0 (n + 1) (fun p => max 0 (p - 1)) = lnS n ((n : Int) - 1) := by
    rw [bst0]
    unfold lnS nsI
    rw [List.range_succ, List.map_append, List.map_append]
    congr 1
    show [max 0 ((n : Int) - 1)] = _
    congr 1; omega
  refine lc_ring (f := fun p => max 0 (p - 1)) (by omega) (fun i hi K hK => ?_) ?_
  · rfl'
    rw [mx63]
    exact hK _ _ rfl rfl
  rw [eL]
  have ll := ln_len n ((n : Int) - 1)
  have hs := ln_st (n := n) (v := (n : Int) - 1) n1 (by omega) (by omega) (by omega)
  have eB : ∃ B, B = (n - 1 + o - 1) / o := ⟨_, rfl⟩
  obtain ⟨B, eB⟩ := eB
  obtain ⟨b1, b2, b3⟩ := beg63 o1 eB
  have F := ln_first n1 (by omega) o1 eB
  have low : Low (lnS n ((n : Int) - 1)).length (List.replicate o (n : Int)) := fun w hw => by
    rw [(List.mem_replicate.mp hw).2, ll]; omega
  have rB : rep (lnS n ((n : Int) - 1)) (List.replicate o (n : Int)) B = lnS n 0 := by
    rw [ln_rep (by omega) (by omega) B]
    congr 1; omega
  have h0 := ln_st (n := n) (v := 0) n1 (by omega) (by omega) (by omega)
  have i1 : (((n + 1 : Nat) : Int) - 1) = (n : Int) := by omega
  have i2 : ((((n + 1 : Nat) : Int) - 2 + ((o : Nat) : Int) - 1) / ((o : Nat) : Int)) = (B : Int) := by
    rw [eB, Int.natCast_ediv]
    congr 1; omega
  rfl'
  refine sq_ ?_
  rfl'
  rw [i1]
  refine ⟨⟨by omega, by omega, show 1 * _ ≤ 16777216 by omega⟩, ?_⟩
  rw [Int.toNat_natCast, rep_one]
  refine sq_ ?_
  rfl'
  have cd : CDivW (((n + 1 : Nat) : Int) - 2 + ((o : Nat) : Int) - 1) ((o : Nat) : Int) := (cdiv63 (a := 0) (b := o) o1 (by omega) :)
  refine ⟨cd, ?_⟩
  rw [i2]
  refine sq_ ?_
  rfl'
  refine ⟨_, _, _, _, B, rfl, its_t _, its_l _, hs, low, by rw [List.length_replicate]; omega, by omega, F, ?_⟩
  rw [rB, ln_lc h0 n1 (by omega) (by omega)]
  rfl'
  refine ⟨_, _, _, _, B, rfl, its_t _, its_l _, hs, low, by rw [List.length_replicate]; omega, F, ?_⟩
  rw [rB, ln_tr h0 n1 (by omega) (by omega)]
  rfl'
  refine c_same63 (a := .list [.tuple [.int (B : Nat), .int 1], .list []]) rfl ?_
  rfl'
  refine if_f (by decide) ?_
  refine sq_ ?_
  rfl'
  refine ⟨⟨by omega, by omega⟩, rfl, ?_⟩
  refine for_inv (fun k ε => ∃ y8 y9, ε = ⟨[.bx, .sh (.int ((n + 1 : Nat) : Int)), .sh (.int (o : Nat)), .sh (.tuple (dI (lnS n ((n : Int) - 1)))), .un, .sh (.list (dI (List.replicate o (n : Int)))), .sh (.int (n : Nat)), .sh (.int (B : Nat)), y8, y9], c2⟩) _ 0 _ (N := 1000) (by rw [rgD_len]; omega) ⟨_, _, rfl⟩ ?_ ?_
  · rintro d hd k _ E hk ⟨y8, y9, rfl⟩ hE
    obtain ⟨i, hi, rfl⟩ := List.mem_map.mp hd
    have hi := List.mem_range.mp hi
    rw [Int.zero_add]
    rfl'
    refine sq_ ?_
    rfl'
    have rk := ln_rep (n := n) (o := o) (v := (n : Int) - 1) (by omega) (by omega) i
    have ck : cutD (dI (lnS n ((n : Int) - 1))) none (some ((n : Nat) : Int)) = dI ((nsI n).map fun p => max 0 (p - 1)) := by
      rw [cutD_to _ _ (by omega), dI_take, Int.toNat_natCast]
      unfold lnS
      rw [List.take_left' (by rw [List.length_map, nsI_len])]
    have oi : o * i ≤ 5 * 60 := Nat.mul_le_mul o5 (by omega)
    refine ⟨cmul63 (by omega) (by omega), ?_⟩
    rw [mx63, ck]
    refine ⟨show _ ≤ 16777216 by rw [dI_len, List.length_map, nsI_len, List.length_singleton]; omega, ?_⟩
    refine ⟨_, _, _, _, ((i : Nat) : Int), rfl, its_t _, its_l _, hs, low, by rw [List.length_replicate]; omega, by omega, by omega, ?_⟩
    rw [Int.toNat_natCast, rk]
    have e9 : dI ((nsI n).map fun p => max 0 (p - 1)) ++ [PyData.int (max 0 (((n + 1 : Nat) : Int) - 2 - ((o : Nat) : Int) * ((i : Nat) : Int)))] = dI (lnS n (max 0 ((n : Int) - 1 - ((o * i : Nat) : Int)))) := by
      unfold lnS dI
      rw [List.map_append]
      congr 1
      show [PyData.int _] = [PyData.int _]
      congr 2
      rw [Int.natCast_mul]
      omega
    rw [e9]
    rfl'
    refine c_same63 (depT63 (by rw [ln_len]; omega)) ?_
    rfl'
    refine if_f (by decide) ?_
    exact hE _ ⟨_, _, rfl⟩
  rintro _ ⟨y8, y9, rfl⟩
  rfl'
  refine ⟨_, _, _, _, ((n : Nat) : Int), 0, rfl, its_t _, its_l _, hs, low, by rw [List.length_replicate]; omega, ⟨by omega, by omega⟩, ⟨by decide, by omega⟩, ?_⟩
  have sqk : ∀ k, sqF (lnS n ((n : Int) - 1)) (List.replicate o (n : Int)) (n : Int) k = max 0 ((n : Int) - 1 - ((o * k : Nat) : Int)) := fun k => by
    show gt (rep _ _ k) _ = _
    rw [ln_rep (by omega) (by omega) k, ln_hi]
  have fB : ftR (sqF (lnS n ((n : Int) - 1)) (List.replicate o (n : Int)) (n : Int)) 0 = .int (B : Nat) := ft_at (by rw [sqk]; omega) fun j hj => by
    rw [sqk]
    have := b2 j hj
    omega
  rw [fB]
  rfl'
  refine c_same63 (a := .int ((B : Nat) : Int)) rfl ?_
  rfl'
  exact q _ (by omega)
def core63L : List Nat → Nat → List Int
  | [], _ => []
  | s :: r, b => ((List.range s).map fun i : Nat => ((b + (i + 1) % s : Nat) : Int)) ++ core63L r (b + s)
theorem c63_len : ∀ (ss : List Nat) (b : Nat), (core63L ss b).length = ss.sum
  | [], _ => rfl
  | s :: r, b => by
    unfold core63L
    rw [List.length_append, List.length_map, List.length_range, c63_len r, List.sum_cons]
def fst63 (ss : List Nat) (j : Nat) : Nat := (ss.take j).sum
theorem c63_gt : ∀ (ss : List Nat) (b : Nat) (pre : List Int) (post : List Int), pre.length = b → ∀ j (hj : j < ss.length) i, i < ss[j] → gt (pre ++ (core63L ss b ++ post)) ((b + fst63 ss j + i : Nat) : Int) = ((b + fst63 ss j + (i + 1) % ss[j] : Nat) : Int)
  | s :: r, b, pre, post, hb, 0, _, i, hi => by
    have hi : i < s := hi
    show gt (pre ++ (core63L (s :: r) b ++ post)) ((b + 0 + i : Nat) : Int) = ((b + 0 + (i + 1) % s : Nat) : Int)
    rw [Nat.add_zero]
    unfold core63L
    have e := gt_nat (ns := pre ++ ((((List.range s).map fun i : Nat => ((b + (i + 1) % s : Nat) : Int)) ++ core63L r (b + s)) ++ post)) (j := b + i) (by rw [List.length_append, List.length_append, List.length_append, List.length_map, List.length_range]; omega)
    rw [e, List.getElem_append_right (by omega), List.getElem_append_left (by rw [List.length_append, List.length_map, List.length_range]; omega), List.getElem_append_left (by rw [List.length_map, List.length_range]; omega), List.getElem_map, List.getElem_range]
    rw [hb, show b + i - b = i by omega]
  | s :: r, b, pre, post, hb, j + 1, hj, i, hi => by
    have hi : i < r[j]'(by rw [List.length_cons] at hj; omega) := hi
    have ih := c63_gt r (b + s) (pre ++ (List.range s).map fun i : Nat => ((b + (i + 1) % s : Nat) : Int)) post (by rw [List.length_append, List.length_map, List.length_range]; omega) j (by rw [List.length_cons] at hj; omega) i hi
    have ef : fst63 (s :: r) (j + 1) = s + fst63 r j := by unfold fst63; rw [List.take_succ_cons, List.sum_cons]
    show gt (pre ++ (core63L (s :: r) b ++ post)) _ = ((b + fst63 (s :: r) (j + 1) + (i + 1) % r[j]'(by rw [List.length_cons] at hj; omega) : Nat) : Int)
    rw [ef, show b + (s + fst63 r j) = b + s + fst63 r j by omega, ← ih]
    congr 1
    rw [show core63L (s :: r) b = ((List.range s).map fun i : Nat => ((b + (i + 1) % s : Nat) : Int)) ++ core63L r (b + s) from rfl, List.append_assoc, List.append_assoc]
theorem c63_at : ∀ (ss : List Nat) (p : Nat), p < ss.sum → ∃ j, ∃ hj : j < ss.length, fst63 ss j ≤ p ∧ p < fst63 ss j + ss[j]
  | s :: r, p, h => by
    rw [List.sum_cons] at h
    by_cases q : p < s
    · exact ⟨0, by simp, Nat.zero_le _, by show p < 0 + s; omega⟩
    · obtain ⟨j, hj, h1, h2⟩ := c63_at r (p - s) (by omega)
      have ef : fst63 (s :: r) (j + 1) = s + fst63 r j := by unfold fst63; rw [List.take_succ_cons, List.sum_cons]
      refine ⟨j + 1, by rw [List.length_cons]; omega, by omega, ?_⟩
      show p < fst63 (s :: r) (j + 1) + r[j]
      omega
theorem c63_sum : ∀ (ss : List Nat) (j : Nat) (hj : j < ss.length), fst63 ss j + ss[j] ≤ ss.sum
  | s :: r, 0, _ => by show 0 + s ≤ (s :: r).sum; rw [List.sum_cons]; omega
  | s :: r, j + 1, hj => by
    have ih := c63_sum r j (by rw [List.length_cons] at hj; omega)
    have ef : fst63 (s :: r) (j + 1) = s + fst63 r j := by unfold fst63; rw [List.take_succ_cons, List.sum_cons]
    show fst63 (s :: r) (j + 1) + r[j]'(by rw [List.length_cons] at hj; omega) ≤ _
    rw [List.sum_cons, ef]; omega
/-- sizes without a common divisor -/
structure Szs (ss : List Nat) : Prop where
  mem : ∀ s ∈ ss, s = 2 ∨ s = 3 ∨ s = 5 ∨ s = 7 ∨ s = 11
  nd : ss.Nodup
  ne : ss ≠ []
  len : ss.length ≤ 5
theorem Szs.sum {ss : List Nat} (Z : Szs ss) : ss.sum ≤ 55 := by
  have key : ∀ l : List Nat, (∀ s ∈ l, s ≤ 11) → l.sum ≤ 11 * l.length := by
    intro l
    induction l with
    | nil => intro _; exact Nat.le_refl _
    | cons a l ih =>
      intro h
      have := ih fun s hs => h s (List.mem_cons_of_mem _ hs)
      have := h a List.mem_cons_self
      rw [List.sum_cons, List.length_cons]; omega
  have := key ss fun s hs => by have := Z.mem s hs; omega
  have := Z.len
  omega
def fsL (ss : List Nat) : List Int := (List.range ss.length).map fun j => ((fst63 ss j : Nat) : Int)
theorem fsL_len (ss : List Nat) : (fsL ss).length = ss.length := by unfold fsL; rw [List.length_map, List.length_range]
theorem fsL_get {ss : List Nat} {j : Nat} (hj : j < ss.length) : (fsL ss).getD j 0 = ((fst63 ss j : Nat) : Int) := by
  unfold fsL
  rw [List.getD_eq_getElem?_getD, List.getElem?_map, List.getElem?_range hj]; rfl
theorem c63_step (ss : List Nat) {j : Nat} (hj : j < ss.length) {i : Nat} (hi : i < ss[j]) : gt (core63L ss 0) ((fst63 ss j : Nat) + (i : Int)) = ((fst63 ss j : Nat) : Int) + (((i + 1) % ss[j] : Nat) : Int) := by
  have := c63_gt ss 0 [] [] rfl j hj i hi
  rw [List.nil_append, List.append_nil, Nat.zero_add] at this
  rw [show ((fst63 ss j : Nat) : Int) + (i : Int) = ((fst63 ss j + i : Nat) : Int) by omega, this]
  omega
theorem c63_st {ss : List Nat} (Z : Szs ss) : Stt (core63L ss 0) := by
  have l := c63_len ss 0
  have sm := Z.sum
  have ge : 1 ≤ ss.sum := by
    cases ss with
    | nil => exact absurd rfl Z.ne
    | cons a r =>
      have := Z.mem a List.mem_cons_self
      rw [List.sum_cons]; omega
  refine ⟨fun z hz => ?_, by omega, by omega⟩
  obtain ⟨p, hp, rfl⟩ := List.mem_iff_getElem.mp hz
  rw [l] at hp
  obtain ⟨j, hj, h1, h2⟩ := c63_at ss p hp
  have e := c63_step ss hj (i := p - fst63 ss j) (by omega)
  rw [show ((fst63 ss j : Nat) : Int) + ((p - fst63 ss j : Nat) : Int) = (p : Int) by omega, gt_nat (by omega)] at e
  rw [e, l]
  have := Nat.mod_lt (p - fst63 ss j + 1) (show ss[j] > 0 by omega)
  have := c63_sum ss j hj
  omega
theorem c63_ring {ss : List Nat} (Z : Szs ss) {j : Nat} (hj : j < ss.length) {p : Int} (h : ((fst63 ss j : Nat) : Int) ≤ p ∧ p < ((fst63 ss j : Nat) : Int) + ((ss[j] : Nat) : Int)) : ringF (core63L ss 0) p = upL ((fst63 ss j : Nat) : Int) ss[j] := by
  have := c63_sum ss j hj
  exact ring_up (c63_st Z) (fun i hi => c63_step ss hj hi) ⟨by omega, by rw [c63_len]; omega⟩ h
theorem c63_core {ss : List Nat} (Z : Szs ss) : Core (core63L ss 0) (fsL ss) := by
  have l := c63_len ss 0
  refine ⟨c63_st Z, fun x hx => ?_, fun z hz => ?_, by rw [l, fsL_len]; have := Z.sum; have := Z.len; omega⟩
  · have x0 := hx.1
    have x1 := hx.2
    obtain ⟨j, hj, h1, h2⟩ := c63_at ss x.toNat (by omega)
    rw [c63_ring Z hj ⟨by omega, by omega⟩]
    exact upL_mem.mpr ⟨by omega, by omega⟩
  · obtain ⟨j, hj, rfl⟩ := List.mem_map.mp hz
    have hj := List.mem_range.mp hj
    have := c63_sum ss j hj
    have := Z.mem _ (List.getElem_mem hj)
    exact ⟨by omega, by rw [l]; omega⟩
theorem c63_itr {ss : List Nat} (Z : Szs ss) {j : Nat} (hj : j < ss.length) : ∀ k : Nat, itr (core63L ss 0) ((fst63 ss j : Nat) : Int) k = ((fst63 ss j + k % ss[j] : Nat) : Int)
  | 0 => by
    show ((fst63 ss j : Nat) : Int) = _
    rw [Nat.zero_mod]; rfl
  | k + 1 => by
    have s0 := Z.mem _ (List.getElem_mem hj)
    show gt _ (itr (core63L ss 0) _ k) = _
    have := c63_step ss hj (i := k % ss[j]) (Nat.mod_lt _ (by omega))
    rw [c63_itr Z hj k, show ((fst63 ss j + k % ss[j] : Nat) : Int) = ((fst63 ss j : Nat) : Int) + ((k % ss[j] : Nat) : Int) by omega, this, Nat.mod_add_mod]
    omega
theorem prime63 {s k : Nat} (h : s = 2 ∨ s = 3 ∨ s = 5 ∨ s = 7 ∨ s = 11) (k0 : 1 ≤ k) (k1 : k < s) : Nat.gcd s k = 1 := by
  have key : ∀ s ∈ [2, 3, 5, 7, 11], ∀ k ∈ List.range s, 1 ≤ k → Nat.gcd s k = 1 := by decide
  exact key s (by simp; omega) k (List.mem_range.mpr k1) k0
theorem prime63b {s t : Nat} (h : s = 2 ∨ s = 3 ∨ s = 5 ∨ s = 7 ∨ s = 11) (g : t = 2 ∨ t = 3 ∨ t = 5 ∨ t = 7 ∨ t = 11) (ne : s ≠ t) : Nat.gcd s t = 1 := by
  have key : ∀ s ∈ [2, 3, 5, 7, 11], ∀ t ∈ [2, 3, 5, 7, 11], s ≠ t → Nat.gcd s t = 1 := by decide
  exact key s (by simp; omega) t (by simp; omega) ne
/-- the period of rings without a common divisor -/
theorem lc63 {ss : List Nat} {k : Nat → Nat} (Z : Szs ss) (hk : ∀ j (hj : j < ss.length), 1 ≤ k j ∧ k j < ss[j]) : ∀ n, n ≤ ss.length → lcG (fun j => ss.getD j 0) k n = (ss.take n).foldl (· * ·) 1 ∧ ∀ j (hj : j < ss.length), n ≤ j → Nat.gcd ((ss.take n).foldl (· * ·) 1) ss[j] = 1
  | 0, _ => ⟨rfl, fun j hj _ => Nat.gcd_one_left _⟩
  | n + 1, hn => by
    obtain ⟨e, co⟩ := lc63 Z hk n (by omega)
    have hj : n < ss.length := by omega
    have tk : (ss.take (n + 1)).foldl (· * ·) 1 = (ss.take n).foldl (· * ·) 1 * ss[n] := by
      rw [List.take_succ_eq_append_getElem hj, List.foldl_append]; rfl
    have g1 := prime63 (Z.mem _ (List.getElem_mem hj)) (hk n hj).1 (hk n hj).2
    refine ⟨?_, fun j hj2 le => ?_⟩
    · show Nat.lcm (lcG _ k n) (ss.getD n 0 / Nat.gcd (ss.getD n 0) (k n)) = _
      rw [e, tk, List.getD_eq_getElem?_getD, List.getElem?_eq_getElem hj]
      show Nat.lcm _ (ss[n] / Nat.gcd ss[n] (k n)) = _
      rw [g1, Nat.div_one]
      unfold Nat.lcm
      rw [co n hj (Nat.le_refl _), Nat.div_one]
    · rw [tk]
      have c1 := co j hj2 (by omega)
      have c2 := prime63b (Z.mem _ (List.getElem_mem hj)) (Z.mem _ (List.getElem_mem hj2)) (fun z => by
        have := (List.getElem_inj Z.nd).mp z
        omega)
      exact Nat.Coprime.mul_left c1 c2
abbrev rs_bodyK : DTS := (dSeq (dSetG false 9 (dCB φLen (dCons (dVar 2) dNil)))
  (dSeq (dSetG false 2 (dOp φAdd (dVar 2) (dLc (dRng1 (dCons (dVar 8) dNil)) (dName 10) dYes (dOp φAdd (dVar 9) (dOp (φC (fun _ j => 0 < j) fun i j => i % j) (dOp φAdd (dVar 10) (dC (.int 1))) (dVar 8))) [10])))
  (dSeq (dAppend 4 (dOp φAdd (dC (.int 1)) (dCall p_law_take (dCons (dVar 0) (dCons (dOp (φI fun i j => i - j) (dVar 8) (dC (.int 1))) dNil)))))
  (dPar 3 false 5 false (dOp φAdd (dVar 3) (dOp φMul (dLst (dCons (dOp φAdd (dVar 6) (dVar 7)) dNil)) (dOp φIx (dVar 4) (dVar 7)))) (dOp φMul (dVar 5) (dVar 8))))))
theorem tape_snoc (S : Nat) : ∀ (ks : List Nat) (o g : Nat), tapeL S (ks ++ [o]) g = tapeL S ks g ++ List.replicate o ((S + (g + ks.length) : Nat) : Int)
  | [], o, g => by
    show List.replicate o _ ++ tapeL S [] (g + 1) = [] ++ _
    rw [List.nil_append, show tapeL S [] (g + 1) = [] from rfl, List.append_nil]; rfl
  | k :: ks, o, g => by
    show List.replicate k _ ++ tapeL S (ks ++ [o]) (g + 1) = (List.replicate k _ ++ tapeL S ks (g + 1)) ++ _
    rw [tape_snoc S ks o (g + 1), List.append_assoc, List.length_cons, show g + 1 + ks.length = g + (ks.length + 1) by omega]
theorem core_snoc : ∀ (ss : List Nat) (s b : Nat), core63L (ss ++ [s]) b = core63L ss b ++ (List.range s).map fun i : Nat => ((b + ss.sum + (i + 1) % s : Nat) : Int)
  | [], s, b => by
    show _ ++ core63L [] (b + s) = [] ++ _
    rw [show core63L [] (b + s) = [] from rfl, List.append_nil, List.nil_append]; rfl
  | t :: ss, s, b => by
    show _ ++ core63L (ss ++ [s]) (b + t) = (_ ++ core63L ss (b + t)) ++ _
    rw [core_snoc ss s (b + t), List.append_assoc, List.sum_cons, show b + t + ss.sum = b + (t + ss.sum) by omega]
theorem rs_loop63 {S : Nat} (hS : S ≤ 60) {x0 : SV} (hx : x0 = .bx) {x1 x11 x12 x13 x14 : SV} {Δ : DEnds} : ∀ (r ds ks : List Nat) (p : Nat) (y7 y8 y9 y10 : SV) (c : Nat), (∀ s ∈ r, 2 ≤ s ∧ s ≤ 11) → ds.length + r.length ≤ 5 → ks.length = ds.length → ds.sum ≤ 11 * ds.length → p ≤ 2 ^ (4 * ds.length) → (tapeL S ks 0).length ≤ 60 * ks.length → c + 3 * r.length ≤ 800000000 →
    (∀ (k2 : List Nat) (y7 y8 y9 y10 : SV) (c' : Nat), k2.length = r.length → (∀ j (hj : j < r.length), 1 ≤ k2.getD j 0 ∧ k2.getD j 0 < r[j]) → c' ≤ c + 3 * r.length → Δ.nx ⟨[x0, x1, .sh (.list (dI (core63L (ds ++ r) 0))), .sh (.list (dI (tapeL S (ks ++ k2) 0))), .ow (dI (nI (ks ++ k2))), .sh (.int ((r.foldl (· * ·) p : Nat) : Int)), .sh (.int (S : Nat)), y7, y8, y9, y10, x11, x12, x13, x14], c'⟩) →
    forD (dGTup 2 (dGCons (dName 7) (dGCons (dName 8) dGNil))) rs_bodyK Δ (enK r ds.length) ⟨[x0, x1, .sh (.list (dI (core63L ds 0))), .sh (.list (dI (tapeL S ks 0))), .ow (dI (nI ks)), .sh (.int (p : Nat)), .sh (.int (S : Nat)), y7, y8, y9, y10, x11, x12, x13, x14], c⟩
  | [], ds, ks, p, y7, y8, y9, y10, c, _, _, kl, _, _, _, _, q => by
    have := q [] y7 y8 y9 y10 c rfl (fun j hj => absurd hj (Nat.not_lt_zero _)) (Nat.le_refl _)
    rw [List.append_nil, List.append_nil] at this
    exact this
  | s :: r, ds, ks, p, y7, y8, y9, y10, c, hs, dl, kl, sm, pb, tl, hc, q => by
    obtain ⟨s2, s11⟩ := hs s List.mem_cons_self
    rw [List.length_cons] at dl hc
    unfold enK
    rw [List.zipIdx_cons, List.map_cons]
    refine for_cons ?_
    have rest := rs_loop63 hS hx (x1 := x1) (x11 := x11) (x12 := x12) (x13 := x13) (x14 := x14) (Δ := Δ) r (ds ++ [s])
    unfold rs_bodyK at rest
    unfold rs_bodyK
    subst hx
    have cl := c63_len ds 0
    rfl'
    refine ⟨rfl, ?_⟩
    refine sq_ ?_
    rfl'
    rw [dI_len, cl]
    refine sq_ ?_
    rfl'
    refine ⟨⟨by omega, by omega⟩, ?_⟩
    have rg : rgD 0 ((s : Nat) : Int).toNat = (List.range s).map fun i : Nat => PyData.int (i : Nat) := by
      unfold rgD
      rw [Int.toNat_natCast]
      exact List.map_congr_left fun i _ => by rw [Int.zero_add]
    rw [rg]
    refine lc_all (fun i : Nat => PyData.int (i : Nat)) (fun i : Nat => .int ((0 + ds.sum + (i + 1) % s : Nat) : Int)) (List.range s) [] (fun i hi K hK => ?_) (by rw [List.length_range]; show 0 + _ ≤ _; omega) ?_
    · rfl'
      refine ⟨by omega, ?_⟩
      refine hK _ _ ?_ rfl
      have e : ((ds.sum : Nat) : Int) + (((i : Nat) : Int) + 1) % ((s : Nat) : Int) = ((0 + ds.sum + (i + 1) % s : Nat) : Int) := by
        rw [Nat.zero_add, Int.natCast_add, Int.natCast_emod]; rfl
      rw [e]; rfl
    rw [List.nil_append, show (List.range s).map (fun i : Nat => PyData.int ((0 + ds.sum + (i + 1) % s : Nat) : Int)) = dI ((List.range s).map fun i : Nat => ((0 + ds.sum + (i + 1) % s : Nat) : Int)) by unfold dI; rw [List.map_map]; rfl]
    rfl'
    refine ⟨show _ ≤ 16777216 by rw [dI_len, dI_len, cl, List.length_map, List.length_range]; omega, ?_⟩
    rw [dI_app, ← core_snoc]
    refine sq_ ?_
    rfl'
    refine c_take (by omega) (by omega) (by omega) fun t c2 t0 t1 hc2 => ?_
    obtain ⟨o, eo⟩ : ∃ o : Nat, (o : Int) = 1 + t := ⟨(1 + t).toNat, by omega⟩
    rfl'
    rw [← eo]
    refine ⟨show _ < 16777216 by rw [dI_len, nI_len]; omega, ?_⟩
    rw [show dI (nI ks) ++ [PyData.int (o : Nat)] = dI (nI (ks ++ [o])) by unfold nI dI; rw [List.map_append, List.map_append]; rfl]
    have atk : atI (dI (nI (ks ++ [o]))) ((ds.length : Nat) : Int) = some (.int (o : Nat)) := by
      rw [atI_nat (by omega) (by rw [dI_len, nI_len, List.length_append, List.length_singleton]; omega), Int.toNat_natCast]
      unfold nI
      show (List.map _ (List.map _ _))[_]? = _
      rw [List.map_map, List.getElem?_map, ← kl, List.getElem?_append_right (Nat.le_refl _), Nat.sub_self]; rfl
    rfl'
    refine ⟨_, atk, ?_⟩
    have e1 : ((S : Nat) : Int) + ((ds.length : Nat) : Int) = ((S + (0 + ks.length) : Nat) : Int) := by omega
    refine ⟨⟨by omega, by omega, show 1 * _ ≤ 16777216 by omega⟩, ?_⟩
    rw [e1, Int.toNat_natCast, rep_one]
    refine ⟨show _ ≤ 16777216 by rw [dI_len, dI_len, List.length_replicate]; omega, ?_⟩
    rw [dI_app, ← tape_snoc]
    rfl'
    have p20 : p ≤ 2 ^ 60 := Nat.le_trans pb (Nat.pow_le_pow_right (by decide) (by omega))
    refine ⟨cmul63 p20 (by omega), ?_⟩
    rw [← Int.natCast_mul]
    have rest2 := rest (ks ++ [o]) (p * s)
    rw [List.length_append, List.length_singleton] at rest2
    refine rest2 _ _ _ _ c2 (fun x hx => hs x (List.mem_cons_of_mem _ hx)) (by omega) (by rw [List.length_append, List.length_singleton]; omega) ?_ ?_ ?_ (by omega) fun k2 a b d e c' h1 h2 h3 => ?_
    · rw [List.sum_append, List.sum_cons, List.sum_nil]; omega
    · rw [show 4 * (ds.length + 1) = 4 * ds.length + 4 by omega, Nat.pow_add]
      exact Nat.mul_le_mul pb (by omega)
    · rw [tape_snoc, List.length_append, List.length_replicate, List.length_append, List.length_singleton]
      omega
    · have := q (o :: k2) a b d e c' (by rw [List.length_cons, List.length_cons]; omega) (fun j hj => ?_) (by rw [List.length_cons]; omega)
      · rw [List.append_assoc, List.append_assoc]
        exact this
      · cases j with
        | zero => exact ⟨by show 1 ≤ o; omega, by show o < s; omega⟩
        | succ j => exact h2 j (by rw [List.length_cons] at hj; omega)
/-- the facts of several rings with guests -/
structure RM (ss ks : List Nat) (ws : List Int) : Prop where
  Z : Szs ss
  kl : ks.length = ss.length
  hk : ∀ j (hj : j < ss.length), 1 ≤ ks.getD j 0 ∧ ks.getD j 0 < ss[j]
  pm : ws.Perm (tapeL ss.sum ks 0)
  wl : ws.length < 64
namespace RM
variable {ss ks : List Nat} {ws : List Int} (G : RM ss ks ws)
include G
theorem core : Core (core63L ss 0) (fsL ss) := c63_core G.Z
theorem hw : ∀ w ∈ ws, ∃ g : Nat, g < (fsL ss).length ∧ w = (((core63L ss 0).length + g : Nat) : Int) := fun w h => by
  obtain ⟨g, _, h2, e⟩ := tape_mem ks 0 (G.pm.mem_iff.mp h)
  exact ⟨g, by rw [fsL_len, ← G.kl]; omega, by rw [c63_len]; exact e⟩
theorem cnt {g : Nat} (h : g < ss.length) : ws.count (((core63L ss 0).length + g : Nat) : Int) = ks.getD g 0 := by
  rw [c63_len, G.pm.count_eq]
  have hk : g < ks.length := by rw [G.kl]; exact h
  have := tape_count (S := ss.sum) ks 0 g hk
  rw [Nat.zero_add] at this
  rw [this, List.getD_eq_getElem?_getD, List.getElem?_eq_getElem hk]; rfl
theorem rl {g : Nat} (h : g < ss.length) : (ringF (core63L ss 0) ((fsL ss).getD g 0)).length = ss[g] := by
  have := G.Z.mem _ (List.getElem_mem h)
  rw [fsL_get h, c63_ring G.Z h ⟨Int.le_refl _, by omega⟩, upL_len]
theorem low : Low (core63L ss 0 ++ fsL ss).length ws := guest_low G.hw
theorem lc : lcF (rep (core63L ss 0 ++ fsL ss) ws 0) ws = ss.foldl (· * ·) 1 := by
  show lcF (core63L ss 0 ++ fsL ss) ws = _
  rw [lc_guest G.core G.hw, fsL_len]
  have e1 : ∀ n, n ≤ ss.length → lcG (fun g => (ringF (core63L ss 0) ((fsL ss).getD g 0)).length) (fun g => ws.count (((core63L ss 0).length + g : Nat) : Int)) n = lcG (fun j => ss.getD j 0) (fun g => ks.getD g 0) n := fun n => by
    induction n with
    | zero => intro _; rfl
    | succ n ih =>
      intro hn
      unfold lcG
      rw [ih (by omega), G.rl (by omega), G.cnt (by omega), List.getD_eq_getElem?_getD (l := ss), List.getElem?_eq_getElem (show n < ss.length by omega)]
      rfl
  rw [e1 _ (Nat.le_refl _), (lc63 G.Z G.hk _ (Nat.le_refl _)).1, List.take_length]
theorem tr : trF (rep (core63L ss 0 ++ fsL ss) ws 0) ws = (List.range ss.length).map fun g => ((ss.sum + g : Nat) : Int) := by
  show trF (core63L ss 0 ++ fsL ss) ws = _
  rw [tr_guest G.core G.hw, fsL_len, c63_len, List.filter_eq_self.mpr]
  intro g hg
  have hg := List.mem_range.mp hg
  have c := G.cnt hg
  rw [c63_len] at c
  have k := G.hk g hg
  rw [c, G.rl hg]
  refine decide_eq_true ?_
  rw [Nat.mod_eq_of_lt k.2]; omega
theorem at_ (m : Nat) : rep (core63L ss 0 ++ fsL ss) ws m = core63L ss 0 ++ (List.range ss.length).map fun g => ((fst63 ss g + (ks.getD g 0 * m) % ss.getD g 0 : Nat) : Int) := by
  rw [guest_rep G.core G.hw]
  congr 1
  unfold mvG
  rw [fsL_len]
  refine List.map_congr_left fun g hg => ?_
  have hg := List.mem_range.mp hg
  show itr _ _ (m * ws.count _) = _
  rw [G.cnt hg, fsL_get hg, c63_itr G.Z hg, Nat.mul_comm, List.getD_eq_getElem?_getD (l := ss), List.getElem?_eq_getElem hg]
  rfl
end RM
abbrev rs_repK : DTS := (dSeq (dSetG false 14 (dLc (dEnA (dCons (dVar 11) dNil)) (dGTup 2 (dGCons (dName 7) (dGCons (dName 9) dGNil))) dYes (dOp φAdd (dVar 9) (dOp (φC (fun _ j => 0 < j) fun i j => i % j) (dOp φMul (dOp φIx (dVar 4) (dVar 7)) (dVar 13)) (dOp φIx (dVar 1) (dVar 7)))) [7, 9]))
  (dIfS (dNot (dTruth (dCall (p_law_same_3 3) (dCons (dCall p_repeated (dCons (dVar 12) (dCons (dVar 3) (dCons (dVar 13) dNil)))) (dCons (dCB φTuple (dCons (dOp φAdd (dVar 2) (dVar 14)) dNil)) dNil))))) (dRet (dC (.bool false))) dNext))
theorem rs_repsK {ss ks : List Nat} {ws : List Int} (G : RM ss ks ws) {x0 x5 x6 x7 x8 x9 x10 : SV} {Δ : DEnds} {c : Nat} : ∀ (ms : List Int) (y7 y9 y13 y14 : SV), (∀ m ∈ ms, 0 ≤ m ∧ m ≤ 10 ^ 12) →
    (∀ y13 y14, Δ.nx ⟨[x0, .sh (.list (dI (nI ss))), .sh (.list (dI (core63L ss 0))), .sh (.list (dI ws)), .ow (dI (nI ks)), x5, x6, x7, x8, x9, x10, .sh (.list (dI (fsL ss))), .sh (.tuple (dI (core63L ss 0 ++ fsL ss))), y13, y14], c⟩) →
    forD (dName 13) rs_repK Δ (dI ms) ⟨[x0, .sh (.list (dI (nI ss))), .sh (.list (dI (core63L ss 0))), .sh (.list (dI ws)), .ow (dI (nI ks)), x5, x6, x7, x8, x9, x10, .sh (.list (dI (fsL ss))), .sh (.tuple (dI (core63L ss 0 ++ fsL ss))), y13, y14], c⟩
  | [], y7, y9, y13, y14, _, q => q y13 y14
  | m :: ms, y7, y9, y13, y14, hm, q => by
    obtain ⟨m0, m1⟩ := hm m List.mem_cons_self
    have e12 : (10 : Int) ^ 12 = 1000000000000 := by decide
    rw [e12] at m1
    have sl := G.Z.len
    have sm := G.Z.sum
    show forD _ _ _ (.int m :: dI ms) _
    refine for_cons ?_
    have rest := fun y13 y14 => rs_repsK G (x0 := x0) (x5 := x5) (x6 := x6) (x7 := x7) (x8 := x8) (x9 := x9) (x10 := x10) (Δ := Δ) (c := c) ms y7 y9 y13 y14 (fun z hz => hm z (List.mem_cons_of_mem _ hz)) q
    unfold rs_repK at rest
    unfold rs_repK
    have eE : enD (dI (fsL ss)) = (List.range ss.length).map fun g : Nat => PyData.tuple [.int (g : Nat), .int ((fst63 ss g : Nat) : Int)] := by
      unfold enD fsL
      refine List.ext_getElem (by rw [List.length_mapIdx, List.length_map, List.length_map, List.length_map]) fun i h1 h2 => ?_
      rw [List.getElem_mapIdx, List.getElem_map, List.getElem_map, List.getElem_map, List.getElem_range]
    have atn : ∀ (l : List Nat) (g : Nat), g < l.length → atI (dI (nI l)) ((g : Nat) : Int) = some (.int ((l.getD g 0 : Nat) : Int)) := fun l g h => by
      rw [atI_nat (by omega) (by rw [dI_len, nI_len]; omega), Int.toNat_natCast]
      unfold nI
      show (List.map _ (List.map _ _))[_]? = _
      rw [List.map_map, List.getElem?_map, List.getElem?_eq_getElem h, List.getD_eq_getElem?_getD, List.getElem?_eq_getElem h]; rfl
    refine sq_ ?_
    rfl'
    rw [eE]
    refine lc_all (fun g : Nat => .tuple [.int (g : Nat), .int ((fst63 ss g : Nat) : Int)]) (fun g : Nat => .int ((fst63 ss g + (ks.getD g 0 * m.toNat) % ss.getD g 0 : Nat) : Int)) (List.range ss.length) [] (fun g hg K hK => ?_) (by rw [List.length_range]; show 0 + _ ≤ _; omega) ?_
    · have hg := List.mem_range.mp hg
      have k := G.hk g hg
      have sg := G.Z.mem _ (List.getElem_mem hg)
      have e0 : ss.getD g 0 = ss[g] := by rw [List.getD_eq_getElem?_getD, List.getElem?_eq_getElem hg]; rfl
      have em : m = ((m.toNat : Nat) : Int) := by omega
      rfl'
      refine ⟨rfl, ?_⟩
      refine ⟨_, atn ks g (by rw [G.kl]; exact hg), ?_⟩
      rfl'
      refine ⟨by rw [em]; exact cmul63 (by omega) (by omega), ?_⟩
      refine ⟨_, atn ss g hg, ?_⟩
      rfl'
      refine ⟨by omega, ?_⟩
      have e2 : ((fst63 ss g : Nat) : Int) + ((ks.getD g 0 : Nat) : Int) * m % ((ss.getD g 0 : Nat) : Int) = ((fst63 ss g + (ks.getD g 0 * m.toNat) % ss.getD g 0 : Nat) : Int) := by
        rw [Int.natCast_add, Int.natCast_emod, Int.natCast_mul, ← em]
      rw [e2]
      exact hK _ _ rfl rfl
    rw [List.nil_append, show (List.range ss.length).map (fun g : Nat => PyData.int ((fst63 ss g + (ks.getD g 0 * m.toNat) % ss.getD g 0 : Nat) : Int)) = dI ((List.range ss.length).map fun g : Nat => ((fst63 ss g + (ks.getD g 0 * m.toNat) % ss.getD g 0 : Nat) : Int)) by unfold dI; rw [List.map_map]; rfl]
    rfl'
    refine ⟨_, _, _, ws, m, rfl, its_t _, its_l _, G.core.stt, G.low, G.wl, m0, by omega, ?_⟩
    rw [G.at_]
    rfl'
    refine ⟨show _ ≤ 16777216 by rw [dI_len, dI_len, c63_len, List.length_map, List.length_range]; omega, ?_⟩
    rw [dI_app]
    refine c_same63 (depT63 (by rw [List.length_append, c63_len, List.length_map, List.length_range]; omega)) ?_
    rfl'
    refine if_f (by decide) ?_
    exact rest _ _
theorem c_sum63 {ns : List Int} {Q : R → Prop} (q : Q (.sh (.int ns.sum))) : φSum [.list (dI ns)] Q := by
  unfold φSum
  dsimp only
  rw [intsD_dI]
  exact q
theorem nI_sum : ∀ ks : List Nat, (nI ks).sum = ((ks.sum : Nat) : Int)
  | [] => rfl
  | k :: ks => by
    show ((k : Nat) : Int) + (nI ks).sum = _
    rw [nI_sum ks, List.sum_cons, Int.natCast_add]
theorem foldl_bd : ∀ (ss : List Nat) (p : Nat), (∀ s ∈ ss, 1 ≤ s ∧ s ≤ 11) → 1 ≤ p → 1 ≤ ss.foldl (· * ·) p ∧ ss.foldl (· * ·) p ≤ p * 2 ^ (4 * ss.length)
  | [], p, _, h => ⟨h, by show p ≤ p * 1; omega⟩
  | s :: ss, p, h, hp => by
    have hs := h s List.mem_cons_self
    obtain ⟨a, b⟩ := foldl_bd ss (p * s) (fun x hx => h x (List.mem_cons_of_mem _ hx)) (Nat.mul_pos hp hs.1)
    refine ⟨a, Nat.le_trans b ?_⟩
    rw [List.length_cons, show 4 * (ss.length + 1) = 4 + 4 * ss.length by omega, Nat.pow_add, ← Nat.mul_assoc]
    exact Nat.mul_le_mul (Nat.mul_le_mul (Nat.le_refl _) (by omega)) (Nat.le_refl _)
theorem tape_len2 (S : Nat) : ∀ (ss ks : List Nat) (g : Nat), ks.length = ss.length → (∀ j (hj : j < ss.length), ks.getD j 0 < ss[j]) → (tapeL S ks g).length + ss.length ≤ ss.sum
  | [], [], _, _, _ => Nat.le_refl _
  | s :: ss, k :: ks, g, l, h => by
    have h0 := h 0 (by simp)
    have h0 : k < s := h0
    have ih := tape_len2 S ss ks (g + 1) (by simpa using l) fun j hj => h (j + 1) (by rw [List.length_cons]; omega)
    unfold tapeL
    rw [List.length_append, List.length_replicate, List.length_cons, List.sum_cons]
    omega
theorem szs_perm {es : List Nat} (h : es.Perm [2, 3, 5, 7, 11]) {j : Nat} (j1 : 1 ≤ j) : Szs (es.take j) := by
  have nd : es.Nodup := h.nodup_iff.mpr (by decide)
  have l : es.length = 5 := h.length_eq
  refine ⟨fun s hs => ?_, nd.sublist (List.take_sublist _ _), fun z => ?_, by rw [List.length_take]; omega⟩
  · have := h.mem_iff.mp (List.mem_of_mem_take hs)
    simp at this
    exact this
  · have := congrArg List.length z
    rw [List.length_take, l] at this
    have : min j 5 = 0 := this
    omega
theorem perm_nI {es : List Int} {ks : List Nat} (h : es.Perm (nI ks)) : ∃ ls : List Nat, es = nI ls ∧ ls.Perm ks := by
  have e : es = nI (es.map Int.toNat) := by
    unfold nI
    rw [List.map_map]
    refine (List.map_id es).symm.trans (List.map_congr_left fun z hz => ?_)
    obtain ⟨k, _, rfl⟩ := List.mem_map.mp (h.mem_iff.mp hz)
    rfl
  refine ⟨_, e, ?_⟩
  have := h.map Int.toNat
  unfold nI at this
  rw [List.map_map] at this
  have e2 : ks.map (Int.toNat ∘ fun k : Nat => (k : Int)) = ks := (List.map_congr_left fun k _ => rfl).trans (List.map_id ks)
  rw [e2] at this
  exact this
/-- _law_rings_right: _law_source, _law_sizes, _law_start, _law_tape, _law_calls, _law_period, _law_whole, _law_at, _law_size, _law_first, _law_spot, _law_firsts, _law_state_now, _law_often, _law_moved -/
def b_law_rings_right : DTS := (dSeq (dSetG false 1 (dSl φSl (dCall p_law_strewn_2 (dCons (dVar 0) (dCons (dLst (dCons (dC (.int 2)) (dCons (dC (.int 3)) (dCons (dC (.int 5)) (dCons (dC (.int 7)) (dCons (dC (.int 11)) dNil)))))) dNil))) dNoP (dPart (dOp φAdd (dC (.int 1)) (dCall p_law_take (dCons (dVar 0) (dCons (dC (.int 5)) dNil)))))))
  (dSeq (dSetG false 1 (dIf (dTest (dOp (φEq false) (dCall p_law_take (dCons (dVar 0) (dCons (dC (.int 3)) dNil))) (dC (.int 1)))) (dVar 1) (dLst (dCons (dC (.int 2)) (dCons (dC (.int 3)) (dCons (dC (.int 5)) (dCons (dC (.int 7)) (dCons (dC (.int 11)) dNil))))))))
  (dSeq (dPar5 2 false 3 false 4 true 5 false 6 false (dLst dNil) (dLst dNil) (dLst dNil) (dC (.int 1)) (dCB φSum (dCons (dVar 1) dNil)))
  (dSeq (dFor (dEnA (dCons (dVar 1) dNil)) (dGTup 2 (dGCons (dName 7) (dGCons (dName 8) dGNil))) (dSeq (dSetG false 9 (dCB φLen (dCons (dVar 2) dNil)))
  (dSeq (dSetG false 2 (dOp φAdd (dVar 2) (dLc (dRng1 (dCons (dVar 8) dNil)) (dName 10) dYes (dOp φAdd (dVar 9) (dOp (φC (fun _ j => 0 < j) fun i j => i % j) (dOp φAdd (dVar 10) (dC (.int 1))) (dVar 8))) [10])))
  (dSeq (dAppend 4 (dOp φAdd (dC (.int 1)) (dCall p_law_take (dCons (dVar 0) (dCons (dOp (φI fun i j => i - j) (dVar 8) (dC (.int 1))) dNil)))))
  (dPar 3 false 5 false (dOp φAdd (dVar 3) (dOp φMul (dLst (dCons (dOp φAdd (dVar 6) (dVar 7)) dNil)) (dOp φIx (dVar 4) (dVar 7)))) (dOp φMul (dVar 5) (dVar 8)))))))
  (dSeq (dSetG false 11 (dLc (dRng1 (dCons (dCB φLen (dCons (dVar 1) dNil)) dNil)) (dName 7) dYes (dCB φSum (dCons (dSl φSl (dVar 1) dNoP (dPart (dVar 7))) dNil)) [7]))
  (dSeq (dSetG false 12 (dCB φTuple (dCons (dOp φAdd (dVar 2) (dVar 11)) dNil)))
  (dSeq (dSetG false 3 (dCall p_law_strewn_2 (dCons (dVar 0) (dCons (dVar 3) dNil))))
  (dSeq (dIfS (dNot (dTruth (dCall (p_law_same_3 3) (dCons (dCall p_settles (dCons (dVar 12) (dCons (dVar 3) dNil))) (dCons (dTup (dCons (dC (.int 0)) (dCons (dVar 5) dNil))) dNil))))) (dRet (dC (.bool false))) dNext)
  (dSeq (dIfS (dNot (dTruth (dCall (p_law_same_3 3) (dCons (dCall p_turning (dCons (dVar 12) (dCons (dVar 3) dNil))) (dCons (dListRg2 (dVar 6) (dOp φAdd (dVar 6) (dCB φLen (dCons (dVar 1) dNil)))) dNil))))) (dRet (dC (.bool false))) dNext)
  (dSeq (dFor (dIter (dTup (dCons (dOp (φI fun i j => i - j) (dVar 5) (dC (.int 1))) (dCons (dVar 5) (dCons (dOp φAdd (dVar 5) (dC (.int 1))) (dCons (dOp (φC CPow fun i j => i ^ j.toNat) (dC (.int 10)) (dC (.int 12))) (dCons (dCall p_law_take (dCons (dVar 0) (dCons (dOp (φC CPow fun i j => i ^ j.toNat) (dC (.int 10)) (dC (.int 12))) dNil))) (dCons (dCall p_law_take (dCons (dVar 0) (dCons (dC (.int 5000)) dNil))) dNil)))))))) (dName 13) (dSeq (dSetG false 14 (dLc (dEnA (dCons (dVar 11) dNil)) (dGTup 2 (dGCons (dName 7) (dGCons (dName 9) dGNil))) dYes (dOp φAdd (dVar 9) (dOp (φC (fun _ j => 0 < j) fun i j => i % j) (dOp φMul (dOp φIx (dVar 4) (dVar 7)) (dVar 13)) (dOp φIx (dVar 1) (dVar 7)))) [7, 9]))
  (dIfS (dNot (dTruth (dCall (p_law_same_3 3) (dCons (dCall p_repeated (dCons (dVar 12) (dCons (dVar 3) (dCons (dVar 13) dNil)))) (dCons (dCB φTuple (dCons (dOp φAdd (dVar 2) (dVar 14)) dNil)) dNil))))) (dRet (dC (.bool false))) dNext)))
  (dRet (dC (.bool true)))))))))))))
abbrev k_law_rings_right : Nat := 14
def p_law_rings_right : DSp := fun args c Q => args = [.bx] ∧ c ≤ 8000000 ∧ ∀ c', c' ≤ c + 200000 → Q (.sh (.bool true)) c'
theorem mon_law_rings_right : MonF p_law_rings_right := fun args c A B h ⟨e, h1, q⟩ => ⟨e, h1, fun c' hc => h _ _ (q c' hc)⟩
abbrev rs_tail : DTS := (dSeq (dPar5 2 false 3 false 4 true 5 false 6 false (dLst dNil) (dLst dNil) (dLst dNil) (dC (.int 1)) (dCB φSum (dCons (dVar 1) dNil)))
  (dSeq (dFor (dEnA (dCons (dVar 1) dNil)) (dGTup 2 (dGCons (dName 7) (dGCons (dName 8) dGNil))) (dSeq (dSetG false 9 (dCB φLen (dCons (dVar 2) dNil)))
  (dSeq (dSetG false 2 (dOp φAdd (dVar 2) (dLc (dRng1 (dCons (dVar 8) dNil)) (dName 10) dYes (dOp φAdd (dVar 9) (dOp (φC (fun _ j => 0 < j) fun i j => i % j) (dOp φAdd (dVar 10) (dC (.int 1))) (dVar 8))) [10])))
  (dSeq (dAppend 4 (dOp φAdd (dC (.int 1)) (dCall p_law_take (dCons (dVar 0) (dCons (dOp (φI fun i j => i - j) (dVar 8) (dC (.int 1))) dNil)))))
  (dPar 3 false 5 false (dOp φAdd (dVar 3) (dOp φMul (dLst (dCons (dOp φAdd (dVar 6) (dVar 7)) dNil)) (dOp φIx (dVar 4) (dVar 7)))) (dOp φMul (dVar 5) (dVar 8)))))))
  (dSeq (dSetG false 11 (dLc (dRng1 (dCons (dCB φLen (dCons (dVar 1) dNil)) dNil)) (dName 7) dYes (dCB φSum (dCons (dSl φSl (dVar 1) dNoP (dPart (dVar 7))) dNil)) [7]))
  (dSeq (dSetG false 12 (dCB φTuple (dCons (dOp φAdd (dVar 2) (dVar 11)) dNil)))
  (dSeq (dSetG false 3 (dCall p_law_strewn_2 (dCons (dVar 0) (dCons (dVar 3) dNil))))
  (dSeq (dIfS (dNot (dTruth (dCall (p_law_same_3 3) (dCons (dCall p_settles (dCons (dVar 12) (dCons (dVar 3) dNil))) (dCons (dTup (dCons (dC (.int 0)) (dCons (dVar 5) dNil))) dNil))))) (dRet (dC (.bool false))) dNext)
  (dSeq (dIfS (dNot (dTruth (dCall (p_law_same_3 3) (dCons (dCall p_turning (dCons (dVar 12) (dCons (dVar 3) dNil))) (dCons (dListRg2 (dVar 6) (dOp φAdd (dVar 6) (dCB φLen (dCons (dVar 1) dNil)))) dNil))))) (dRet (dC (.bool false))) dNext)
  (dSeq (dFor (dIter (dTup (dCons (dOp (φI fun i j => i - j) (dVar 5) (dC (.int 1))) (dCons (dVar 5) (dCons (dOp φAdd (dVar 5) (dC (.int 1))) (dCons (dOp (φC CPow fun i j => i ^ j.toNat) (dC (.int 10)) (dC (.int 12))) (dCons (dCall p_law_take (dCons (dVar 0) (dCons (dOp (φC CPow fun i j => i ^ j.toNat) (dC (.int 10)) (dC (.int 12))) dNil))) (dCons (dCall p_law_take (dCons (dVar 0) (dCons (dC (.int 5000)) dNil))) dNil)))))))) (dName 13) (dSeq (dSetG false 14 (dLc (dEnA (dCons (dVar 11) dNil)) (dGTup 2 (dGCons (dName 7) (dGCons (dName 9) dGNil))) dYes (dOp φAdd (dVar 9) (dOp (φC (fun _ j => 0 < j) fun i j => i % j) (dOp φMul (dOp φIx (dVar 4) (dVar 7)) (dVar 13)) (dOp φIx (dVar 1) (dVar 7)))) [7, 9]))
  (dIfS (dNot (dTruth (dCall (p_law_same_3 3) (dCons (dCall p_repeated (dCons (dVar 12) (dCons (dVar 3) (dCons (dVar 13) dNil)))) (dCons (dCB φTuple (dCons (dOp φAdd (dVar 2) (dVar 14)) dNil)) dNil))))) (dRet (dC (.bool false))) dNext)))
  (dRet (dC (.bool true)))))))))))
theorem m_law_rings_right : ∀ args c Q, p_law_rings_right args c Q → defF k_law_rings_right b_law_rings_right args c Q := by
  rintro _ c Q ⟨rfl, hc, q⟩
  show b_law_rings_right _ ⟨[.bx, .un, .un, .un, .un, .un, .un, .un, .un, .un, .un, .un, .un, .un, .un], c⟩
  unfold b_law_rings_right
  have tail : ∀ (ss : List Nat) (c1 : Nat), Szs ss → c1 ≤ c + 100 → rs_tail { nx := fun ε => Q (.sh .none) ε.c, rt := fun r ε => Q r ε.c } ⟨[.bx, .sh (.list (dI (nI ss))), .un, .un, .un, .un, .un, .un, .un, .un, .un, .un, .un, .un, .un], c1⟩ := by
    intro ss c1 Z hc1
    unfold rs_tail
    refine sq_ ?_
    rfl'
    have sm := Z.sum
    have sl := Z.len
    have s11 : ∀ s ∈ ss, 2 ≤ s ∧ s ≤ 11 := fun s hs => by have := Z.mem s hs; omega
    refine c_sum63 ?_
    rw [nI_sum]
    rfl'
    refine sqa_ fun D hD => ?_
    rfl'
    refine ⟨rfl, ?_⟩
    rw [enK_of]
    refine rs_loop63 (S := ss.sum) (by omega) rfl ss [] [] 1 _ _ _ _ c1 s11 (by show 0 + _ ≤ _; omega) rfl (by decide) (by decide) (by show 0 ≤ _; exact Nat.zero_le _) (by omega) ?_
    intro ks y7 y8 y9 y10 c2 kl hk hc2
    refine hD _ ?_
    rw [List.nil_append, List.nil_append]
    have tl := tape_len2 ss.sum ss ks 0 kl fun j hj => (hk j hj).2
    have fb := foldl_bd ss 1 (fun s hs => by have := s11 s hs; omega) (Nat.le_refl _)
    have fb2 : ss.foldl (· * ·) 1 ≤ 2 ^ 20 := Nat.le_trans fb.2 (by rw [Nat.one_mul]; exact Nat.pow_le_pow_right (by decide) (by omega))
    refine sq_ ?_
    rfl'
    rw [dI_len, nI_len]
    refine ⟨⟨by omega, by omega⟩, ?_⟩
    have rg : rgD 0 ((ss.length : Nat) : Int).toNat = (List.range ss.length).map fun i : Nat => PyData.int (i : Nat) := by
      unfold rgD
      rw [Int.toNat_natCast]
      exact List.map_congr_left fun i _ => by rw [Int.zero_add]
    rw [rg]
    refine lc_all (fun i : Nat => PyData.int (i : Nat)) (fun i : Nat => .int ((fst63 ss i : Nat) : Int)) (List.range ss.length) [] (fun i hi K hK => ?_) (by rw [List.length_range]; show 0 + _ ≤ _; omega) ?_
    · rfl'
      rw [cutD_to _ _ (by omega), dI_take, Int.toNat_natCast]
      refine c_sum63 ?_
      rw [show (nI ss).take i = nI (ss.take i) by unfold nI; rw [List.map_take], nI_sum]
      exact hK _ _ rfl rfl
    rw [List.nil_append, show (List.range ss.length).map (fun i : Nat => PyData.int ((fst63 ss i : Nat) : Int)) = dI (fsL ss) by unfold fsL dI; rw [List.map_map]; rfl]
    rfl'
    refine sq_ ?_
    rfl'
    refine ⟨show _ ≤ 16777216 by rw [dI_len, dI_len, c63_len, fsL_len]; omega, ?_⟩
    rw [dI_app]
    refine sq_ ?_
    rfl'
    refine .inl ⟨_, tapeL ss.sum ks 0, rfl, its_l _, by omega, by omega, fun ws c3 hws hc3 => ?_⟩
    have wlen := hws.length_eq
    have G : RM ss ks ws := ⟨Z, kl, hk, hws, by omega⟩
    have st := G.core.stt
    rfl'
    refine sq_ ?_
    rfl'
    refine ⟨_, _, _, ws, 0, rfl, its_t _, its_l _, st, G.low, G.wl, by rw [List.length_append, c63_len, fsL_len]; omega, guest_first G.core G.hw, ?_⟩
    rw [G.lc]
    rfl'
    refine c_same63 rfl ?_
    rfl'
    refine if_f (by decide) ?_
    refine sq_ ?_
    rfl'
    refine ⟨_, _, _, ws, 0, rfl, its_t _, its_l _, st, G.low, G.wl, guest_first G.core G.hw, ?_⟩
    rw [G.tr]
    rfl'
    rw [dI_len, nI_len]
    refine ⟨⟨by omega, by omega, by omega, by omega⟩, ?_⟩
    have er : rgD ((ss.sum : Nat) : Int) (((ss.sum : Nat) : Int) + ((ss.length : Nat) : Int) - ((ss.sum : Nat) : Int)).toNat = dI ((List.range ss.length).map fun g : Nat => ((ss.sum + g : Nat) : Int)) := by
      rw [show (((ss.sum : Nat) : Int) + ((ss.length : Nat) : Int) - ((ss.sum : Nat) : Int)).toNat = ss.length by omega]
      unfold rgD dI
      rw [List.map_map]
      refine List.map_congr_left fun g _ => ?_
      show PyData.int _ = PyData.int _
      congr 1
    rw [er]
    refine c_same63 (depL63 (by rw [List.length_map, List.length_range]; omega)) ?_
    rfl'
    refine if_f (by decide) ?_
    refine sqa_ fun D hD => ?_
    rfl'
    refine ⟨⟨by decide, by decide, by decide⟩, ⟨by decide, by decide, by decide⟩, ?_⟩
    have e12 : (10 : Int) ^ Int.toNat 12 = 1000000000000 := by decide
    have e12b : (10 : Int) ^ 12 = 1000000000000 := by decide
    rw [e12]
    refine c_take (by decide) (by decide) (by omega) fun m1 c4 m10 m11 hc4 => ?_
    rfl'
    refine c_take (by decide) (by decide) (by omega) fun m2 c5 m20 m21 hc5 => ?_
    rfl'
    refine ⟨rfl, ?_⟩
    have fp := fb.1
    generalize ss.foldl (· * ·) 1 = P at fp fb2
    have fb3 : P ≤ 1048576 := fb2
    refine rs_repsK G [((P : Nat) : Int) - 1, ((P : Nat) : Int), ((P : Nat) : Int) + 1, 1000000000000, m1, m2] .un .un _ _ (fun m hm => ?_) ?_
    · rw [e12b]
      rcases List.mem_cons.mp hm with e | hm
      · omega
      rcases List.mem_cons.mp hm with e | hm
      · omega
      rcases List.mem_cons.mp hm with e | hm
      · omega
      rcases List.mem_cons.mp hm with e | hm
      · omega
      rcases List.mem_cons.mp hm with e | hm
      · omega
      have := List.mem_singleton.mp hm
      omega
    intro y13 y14
    refine hD _ ?_
    rfl'
    exact q _ (by omega)
  refine sq_ ?_
  rfl'
  refine .inl ⟨_, nI [2, 3, 5, 7, 11], rfl, rfl, by decide, by show _ + 3 * 5 ≤ _; omega, fun es c1 hes hc1 => ?_⟩
  obtain ⟨ls, rfl, hls⟩ := perm_nI hes
  have hc1 : c1 ≤ c + 3 * 5 := hc1
  rfl'
  refine c_take (by decide) (by decide) (by omega) fun j c2 j0 j1 hc2 => ?_
  rfl'
  rw [cutD_to _ _ (by omega), dI_take, show (nI ls).take (1 + j).toNat = nI (ls.take (1 + j).toNat) by unfold nI; rw [List.map_take]]
  refine sq_ ?_
  rfl'
  refine c_take (by decide) (by decide) (by omega) fun t c3 t0 t1 hc3 => ?_
  rfl'
  refine it_2 (fun z => ?_) fun z => ?_
  · exact tail _ c3 (szs_perm hls (by omega)) (by omega)
  · have := tail [2, 3, 5, 7, 11] c3 (szs_perm (j := 5) (List.Perm.refl _) (by decide)) (by omega)
    exact this
/-- _law_right: _law_source -/
def b_k63_law_right : DTS := (dRet (dAndV (dCall p_law_ring_right_3 (dCons (dVar 0) dNil)) (dAndV (dCall p_law_line_right_3 (dCons (dVar 0) dNil)) (dCall p_law_rings_right (dCons (dVar 0) dNil)))))
abbrev k_k63_law_right : Nat := 0
def p_k63_law_right : DSp := fun args c Q => args = [.bx] ∧ c ≤ 3000000 ∧ ∀ c', c' ≤ c + 1000000 → Q (.sh (.bool true)) c'
theorem m_k63_law_right : ∀ args c Q, p_k63_law_right args c Q → defF k_k63_law_right b_k63_law_right args c Q := by
  rintro _ c Q ⟨rfl, hc, q⟩
  show b_k63_law_right _ ⟨[.bx], c⟩
  unfold b_k63_law_right
  rfl'
  refine ⟨rfl, by omega, fun c1 hc1 => ?_⟩
  rfl'
  refine ⟨rfl, by omega, fun c2 hc2 => ?_⟩
  rfl'
  refine ⟨rfl, by omega, fun c3 hc3 => ?_⟩
  rfl'
  exact q _ (by omega)
end Lp

namespace Lp
open PySem PySem.Spec PyProof.Rows L2
def topS (i : Nat) : Stmt := PySem.Challenge.pw_lookpast_k63_known_repetitions.main.body.getD i (.Pass ⟨0, 0, 0, 0⟩)
section
variable {P : Program} {w : World} {K : PySem.W.Frag} {mg : Str → Option Value} {base : Heap}
abbrev sTake : Stmt := topS 25
theorem scTake : FnScope ["_law_source", "_law_bound", "_law_found", "_law_once", "_law_twice"] ["_law_source", "_law_bound"] (defScope sTake) := ⟨rfl, rfl, rfl, by decide +kernel, rfl, by decide +kernel, by decide +kernel⟩
theorem ok_take {f : Addr} {fd : FuncData} {k : Nat} (F : Fun K "_law_draw" "_law_draw" sTake f fd) : FnOk P w K mg base CX0 (k + 1) f fd ["_law_source", "_law_bound"] spTake := by
  refine F.ok scTake (fun vs H Q E h => ?_) (fun cdv A outer s H vs Q E hr h => ?_)
  · obtain ⟨b, span, c, rfl, _⟩ := h
    rfl
  · obtain ⟨b, span, c, rfl, ⟨x0, x1, x2, hb, h0, h1, h2, h3, h4⟩, hc, hs1, hs2, q⟩ := h
    refine ⟨_, pss_cons (ps_if (pt_cmpR op_gt (pe_ix ix_list (pv 0) pe_int (fun _ _ => rfl)) pe_int (nomark _))
        (pss_cons (ps_set (i := 2) scTake.nd rfl (.inl rfl) (pe_op op_mod (pe_ix ix_list (pv 0) pe_int (fun _ _ => rfl)) (pv 1)))
        (pss_cons (ps_asg (pe_op op_fdiv (pe_ix ix_list (pv 0) pe_int (fun _ _ => rfl)) (pv 1)) (pg_sub (pv 0) pe_int set_list))
        (pss_one (ps_ret (pv 2))))) pss_nil)
      (pss_cons (ps_if (pt_cmpR op_gt (pv 1) (pe_op op_pow pe_int pe_int) (nomark _)) pss_never pss_nil)
      (pss_cons (ps_asg (pe_op op_add (pe_ix ix_list (pv 0) pe_int (fun _ _ => rfl)) pe_int) (pg_sub (pv 0) pe_int set_list))
      (pss_cons (ps_set (i := 3) scTake.nd rfl (.inl rfl) (pe_op op_mod (pe_op op_mul (pe_op op_add (pe_ix ix_list (pv 0) pe_int (fun _ _ => rfl)) (pe_op op_mul pe_int (pe_ix ix_list (pv 0) pe_int (fun _ _ => rfl)))) (pe_op op_add pe_int (pe_ix ix_list (pv 0) pe_int (fun _ _ => rfl)))) pe_int))
      (pss_cons (ps_set (i := 4) scTake.nd rfl (.inl rfl) (pe_op op_mod (pe_op op_mul (pe_op op_add (pe_op op_add (pv 3) (pe_ix ix_list (pv 0) pe_int (fun _ _ => rfl))) (pe_op op_fdiv (pe_ix ix_list (pv 0) pe_int (fun _ _ => rfl)) pe_int)) (pe_op op_add (pe_op op_mod (pv 3) pe_int) pe_int)) pe_int))
      (pss_one (ps_ret (pe_op op_mod (pe_op op_fdiv (pe_op op_mod (pe_op op_add (pe_op op_mul (pv 4) pe_int) (pv 3)) pe_int) pe_int) (pv 1)))))))), ?_⟩
    have ix : SqL K H b [.int x0, .int x1, .int x2] := SqL.of hb
    refine ⟨.ref b, rfl, b, _, 0, .int x0, rfl, rfl, ix, rfl, x0, 0, rfl, rfl, _, rfl, ite2 (fun e => ?_) (fun e => ?_)⟩
    · have e0 : 0 < x0 := of_decide_eq_true e
      refine ⟨.ref b, rfl, b, _, 0, .int x0, rfl, rfl, ix, rfl, .int span, rfl, x0, span, rfl, rfl, (by show (0 : Int) < span; omega), ?_⟩
      refine ⟨.ref b, rfl, b, _, 0, .int x0, rfl, rfl, ix, rfl, .int span, rfl, x0, span, rfl, rfl, ⟨by omega, by omega⟩, ?_⟩
      refine ⟨.ref b, rfl, b, _, 0, 0, rfl, rfl, hb, rfl, ?_⟩
      refine ⟨.int (x0 % span), rfl, q _ _ (Sb.upd (Sb.refl b H)) ⟨x0 / span, x1, x2, upd_same, ?_, h1, h2, h3, by omega⟩ (Int.emod_nonneg _ (by omega)) (Int.emod_lt_of_pos _ (by omega))⟩
      exact Int.ediv_nonneg h0 (by omega)
    · refine ⟨.int span, rfl, 10, 7, rfl, rfl, ⟨by decide, by decide, by decide⟩, span, _, rfl, rfl, _, rfl, ?_⟩
      have e1 : ¬ ((10 : Int) ^ (7 : Int).toNat < span) := by
        show ¬ ((10000000 : Int) < span)
        omega
      rw [decide_eq_false e1]
      refine iteF ?_
      refine ⟨.ref b, rfl, b, _, 2, .int x2, rfl, rfl, ix, rfl, x2, 1, rfl, rfl, ?_⟩
      refine ⟨.ref b, rfl, b, _, 2, 2, rfl, rfl, hb, rfl, ?_⟩
      have ix2 : SqL K (upd H b (.lst [.int x0, .int x1, .int (x2 + 1)])) b [.int x0, .int x1, .int (x2 + 1)] := SqL.of upd_same
      refine ⟨.ref b, rfl, b, _, 1, .int x1, rfl, rfl, ix2, rfl, .ref b, rfl, b, _, 2, .int (x2 + 1), rfl, rfl, ix2, rfl, 48271, x2 + 1, rfl, rfl, .inl ⟨by decide, by decide⟩, x1, _, rfl, rfl, .ref b, rfl, b, _, 2, .int (x2 + 1), rfl, rfl, ix2, rfl, 39373, x2 + 1, rfl, rfl, _, _, rfl, rfl, .inr ⟨by omega, by omega⟩, _, 2147483647, rfl, rfl, (by show (0 : Int) < 2147483647; decide), ?_⟩
      dsimp only
      generalize hg : (x1 + 48271 * (x2 + 1)) * (39373 + (x2 + 1)) % 2147483647 = once
      have o1 : 0 ≤ once := by rw [← hg]; exact Int.emod_nonneg _ (by decide)
      have o2 : once < 2147483647 := by rw [← hg]; exact Int.emod_lt_of_pos _ (by decide)
      refine ⟨.int once, rfl, .ref b, rfl, b, _, 2, .int (x2 + 1), rfl, rfl, ix2, rfl, once, x2 + 1, rfl, rfl, .ref b, rfl, b, _, 1, .int x1, rfl, rfl, ix2, rfl, x1, 1000003, rfl, rfl, ⟨by decide, by decide⟩, _, _, rfl, rfl, .int once, rfl, once, 40009, rfl, rfl, (by show (0 : Int) < 40009; decide), _, 7, rfl, rfl, _, _, rfl, rfl, .inr ⟨by omega, by omega⟩, _, 2147483629, rfl, rfl, (by show (0 : Int) < 2147483629; decide), ?_⟩
      dsimp only
      generalize hg2 : (once + (x2 + 1) + x1 / 1000003) * (once % 40009 + 7) % 2147483629 = twice
      refine ⟨.int twice, rfl, twice, 48271, rfl, rfl, .inr ⟨by decide, by decide⟩, .int once, rfl, _, once, rfl, rfl, _, 2147483587, rfl, rfl, (by show (0 : Int) < 2147483587; decide), _, 64, rfl, rfl, ⟨by decide, by decide⟩, .int span, rfl, _, span, rfl, rfl, (by show (0 : Int) < span; omega), ?_⟩
      exact q _ _ (Sb.upd (Sb.refl b H)) ⟨x0, x1, x2 + 1, upd_same, h0, h1, h2, by omega, by omega⟩ (Int.emod_nonneg _ (by omega)) (Int.emod_lt_of_pos _ (by omega))
theorem ok_takeB {f : Addr} {fd : FuncData} {k : Nat} (F : Fun K "_law_draw" "_law_draw" sTake f fd) (T : Cal P w K mg base "_law_draw" (k + 1) ["_law_source", "_law_bound"] spTake f fd) : FnOk P w K mg base CX0 (k + 2) f fd ["_law_source", "_law_bound"] spTakeB := by
  refine F.ok scTake (fun vs H Q E h => ?_) (fun cdv A outer s H vs Q E hr h => ?_)
  · obtain ⟨b, span, c, rfl, _⟩ := h
    rfl
  · obtain ⟨b, span, c, rfl, hB, hc, hs1, hs2, q⟩ := h
    obtain ⟨x0, x1, x2, hb, h0, h1, h2, h3, h4⟩ := id hB
    refine ⟨_, pss_cons (ps_if (pt_cmpR op_gt (pe_ix ix_list (pv 0) pe_int (fun _ _ => rfl)) pe_int (nomark _))
        (pss_cons (ps_set (i := 2) scTake.nd rfl (.inl rfl) (pe_op op_mod (pe_ix ix_list (pv 0) pe_int (fun _ _ => rfl)) (pv 1)))
        (pss_cons (ps_asg (pe_op op_fdivW (pe_ix ix_list (pv 0) pe_int (fun _ _ => rfl)) (pv 1)) (pg_sub (pv 0) pe_int set_list))
        (pss_one (ps_ret (pv 2))))) pss_nil)
      (pss_cons (ps_if (pt_cmpR op_gt (pv 1) (pe_op op_pow pe_int pe_int) (nomark _))
        (pss_one (ps_ret (pe_op op_mod (pe_op op_add (pe_call T.ok hr (by rfl) T.g T.kp T.bd .nil pass0 (pa_cons (pv 0) (pa_cons (pe_op op_pow pe_int pe_int) pa_nil))) (pe_op op_mul (pe_op op_pow pe_int pe_int) (pe_call T.ok hr (by rfl) T.g T.kp T.bd .nil pass0 (pa_cons (pv 0) (pa_cons (pe_op op_add (pe_op op_fdiv (pe_op op_sub (pv 1) pe_int) (pe_op op_pow pe_int pe_int)) pe_int) pa_nil))))) (pv 1)))) pss_nil)
      pss_never), ?_⟩
    have ix : SqL K H b [.int x0, .int x1, .int x2] := SqL.of hb
    refine ⟨.ref b, rfl, b, _, 0, .int x0, rfl, rfl, ix, rfl, x0, 0, rfl, rfl, _, rfl, ite2 (fun e => ?_) (fun e => ?_)⟩
    · have e0 : 0 < x0 := of_decide_eq_true e
      refine ⟨.ref b, rfl, b, _, 0, .int x0, rfl, rfl, ix, rfl, .int span, rfl, x0, span, rfl, rfl, (by show (0 : Int) < span; omega), ?_⟩
      refine ⟨.ref b, rfl, b, _, 0, .int x0, rfl, rfl, ix, rfl, .int span, rfl, x0, span, rfl, rfl, wide_div (b := 64) (by omega) (by omega) (by decide) (by decide), ?_⟩
      refine ⟨.ref b, rfl, b, _, 0, 0, rfl, rfl, hb, rfl, ?_⟩
      refine ⟨.int (x0 % span), rfl, q _ _ (Sb.upd (Sb.refl b H)) ⟨x0 / span, x1, x2, upd_same, ?_, h1, h2, h3, by omega⟩ (Int.emod_nonneg _ (by omega)) (Int.emod_lt_of_pos _ (by omega))⟩
      exact Int.ediv_nonneg h0 (by omega)
    · have p7 : (10 : Int) ^ (7 : Int).toNat = 10000000 := by decide
      refine ⟨.int span, rfl, 10, 7, rfl, rfl, ⟨by decide, by decide, by decide⟩, span, _, rfl, rfl, _, rfl, ?_⟩
      have e1 : (10 : Int) ^ (7 : Int).toNat < span := by rw [p7]; omega
      rw [decide_eq_true e1]
      refine iteT ?_
      refine ⟨.ref b, rfl, 10, 7, rfl, rfl, ⟨by decide, by decide, by decide⟩, b, _, c, rfl, hB, by omega, by decide, by decide, fun H1 r1 sb1 hB1 r10 r11 => ?_⟩
      refine ⟨10, 7, rfl, rfl, ⟨by decide, by decide, by decide⟩, .ref b, rfl, .int span, rfl, span, 1, rfl, rfl, 10, 7, rfl, rfl, ⟨by decide, by decide, by decide⟩, _, _, rfl, rfl, ⟨by decide, by decide⟩, _, 1, rfl, rfl, b, _, c + 1, rfl, hB1, by omega, ?_, ?_, fun H2 r2 sb2 hB2 r20 r21 => ?_⟩
      · show 1 ≤ (span - 1) / (10 : Int) ^ (7 : Int).toNat + 1
        rw [p7]; omega
      · show (span - 1) / (10 : Int) ^ (7 : Int).toNat + 1 ≤ 10000000
        rw [p7]; omega
      · refine ⟨_, r2, rfl, rfl, .inl ⟨by decide, by decide⟩, r1, _, rfl, rfl, .int span, rfl, _, span, rfl, rfl, (by show (0 : Int) < span; omega), ?_⟩
        exact q H2 _ (sb1.trans sb2) (hB2.le (by omega)) (Int.emod_nonneg _ (by omega)) (Int.emod_lt_of_pos _ (by omega))
theorem ok_takeW {f : Addr} {fd : FuncData} {k : Nat} (F : Fun K "_law_draw" "_law_draw" sTake f fd) (T : Cal P w K mg base "_law_draw" (k + 1) ["_law_source", "_law_bound"] spTake f fd) : FnOk P w K mg base CX0 (k + 2) f fd ["_law_source", "_law_bound"] spTakeW :=
  FnOk.imp (fn_or (ok_take F) (ok_takeB F T)) fun vs H Q E h => by
    obtain ⟨b, span, c, rfl, hB, hc, h1, h2, q⟩ := h
    by_cases hs : span ≤ 10000000
    · exact .inl ⟨b, span, c, rfl, hB, by omega, h1, hs, fun H' r sb hB' => q H' r sb (hB'.le (by omega))⟩
    · exact .inr ⟨b, span, c, rfl, hB, hc, by omega, h2, q⟩
abbrev sBox : Stmt := topS 24
theorem scBox : FnScope ["_law_script", "_law_k", "_law_cell"] ["_law_script", "_law_k"] (defScope sBox) := ⟨rfl, rfl, rfl, by decide +kernel, rfl, by decide +kernel, by decide +kernel⟩
theorem ok_box {f : Addr} {fd : FuncData} {k : Nat} (F : Fun K "_law_stream" "_law_stream" sBox f fd) (B : Bi mg) : FnOk P w K mg base CX0 (k + 1) f fd ["_law_script", "_law_k"] (spBox K) := by
  refine F.ok scBox (fun vs H Q E h => ?_) (fun cdv A outer s H vs Q E hr h => ?_)
  · obtain ⟨a, k, ns, rfl, _⟩ := h
    rfl
  · obtain ⟨a, k, ns, rfl, hS, h0, h1, q⟩ := h
    refine ⟨_, pss_cons (ps_set (i := 2) scBox.nd rfl (.inl rfl) pe_int)
      (pss_cons (ps_if (pt_cmpR op_lt (pv 1) (pe_callB call_len_seq (by rfl) B.len PySem.boot_len (pa_cons (pv 0) pa_nil)) (nomark _)) (pss_one (ps_set (i := 2) scBox.nd rfl (.inl rfl) (pe_ix ix_list (pv 0) (pv 1) (fun _ _ => rfl)))) pss_nil)
      (pss_one (ps_ret (pe_lst (pa_cons (pe_op op_mul (pe_callB call_abs (by rfl) B.abs (by decide +kernel) (pa_cons (pv 2) pa_nil)) (pe_callTy call_int1 (by rfl) B.int (by decide +kernel) (pa_cons (pe_cmpR op_ge (pe_callB call_abs (by rfl) B.abs (by decide +kernel) (pa_cons (pv 2) pa_nil)) (pe_op op_pow pe_int pe_int) (nomark _)) pa_nil)))
        (pa_cons (pe_op op_add (pe_op op_add (pe_op op_mod (pv 2) pe_int) (pe_op op_mul pe_int (pv 1))) pe_int) (pa_cons pe_int pa_nil))))))), ?_⟩
    have fin : ∀ z : Int, tRet (tLst (tCons (tOp (rI CMul fun i j => .int (i * j)) (tCB (fun xs H Q => ∃ i, xs = [.int i] ∧ Q (.int (if i < 0 then -i else i)) H) (tCons (tVar 2) tNil)) (tCB (fun xs H Q => (∃ i, xs = [.int i] ∧ Q (.int i) H) ∨ ∃ k, xs = [.bl k] ∧ Q (.int (if k then 1 else 0)) H) (tCons (tOp (rI0 fun i j => .bl (decide (j ≤ i))) (tCB (fun xs H Q => ∃ i, xs = [.int i] ∧ Q (.int (if i < 0 then -i else i)) H) (tCons (tVar 2) tNil)) (tOp (rI CPow fun i j => .int (i ^ j.toNat)) (tC (.int 10)) (tC (.int 18)))) tNil)))
        (tCons (tOp (rI0 fun i j => .int (i + j)) (tOp (rI0 fun i j => .int (i + j)) (tOp (rI (fun _ j => 0 < j) fun i j => .int (i % j)) (tVar 2) (tC (.int 2305843009213693951))) (tOp (rI CMul fun i j => .int (i * j)) (tC (.int 39373)) (tVar 1))) (tC (.int 29))) (tCons (tC (.int 0)) tNil)))) { nx := fun _ H' => Q .non H', rt := Q } [some (.ref a), some (.int k), some (.int z)] H := by
      intro z
      refine ⟨.int z, rfl, z, rfl, .int z, rfl, z, rfl, 10, 18, rfl, rfl, ⟨by decide, by decide, by decide⟩, _, _, rfl, rfl, .inr ⟨_, rfl, _, _, rfl, rfl, .inr ?_, ?_⟩⟩
      · split <;> (split <;> exact ⟨by decide, by decide⟩)
      · refine ⟨.int z, rfl, z, _, rfl, rfl, (by show (0 : Int) < 2305843009213693951; decide), .int k, rfl, 39373, k, rfl, rfl, .inl ⟨by decide, by decide⟩, _, _, rfl, rfl, _, 29, rfl, rfl, (by show 3 ≤ sizeLine; decide), fun p hp => ?_⟩
        refine q _ p (same_new hp) hp ⟨_, _, _, upd_same, ?_, ?_, ?_, by decide, by decide⟩
        · have h1 : (0 : Int) ≤ (if z < 0 then -z else z) := by split <;> omega
          refine Int.mul_nonneg h1 ?_
          split <;> (split <;> decide)
        · have := Int.emod_nonneg z (show (2305843009213693951 : Int) ≠ 0 by decide)
          omega
        · have := Int.emod_lt_of_pos z (show (0 : Int) < 2305843009213693951 by decide)
          omega
    refine ⟨.int k, rfl, .ref a, rfl, a, _, rfl, .inl hS, k, _, rfl, rfl, _, rfl, ite2 (fun e => ?_) (fun e => ?_)⟩
    · have e1 : k < ((IL ns).length : Int) := of_decide_eq_true e
      rw [List.length_map] at e1
      obtain ⟨z, hz⟩ := at_lt h0 e1
      refine ⟨.ref a, rfl, .int k, rfl, a, _, k, .int z, rfl, rfl, hS, hz, ?_⟩
      exact fin z
    · exact fin 0
abbrev sCells : Stmt := topS 26
theorem scCells : FnScope ["_law_script", "_law_most", "_law_cells", "_law_k", "_law_cell"] ["_law_script", "_law_most"] (defScope sCells) := ⟨rfl, rfl, rfl, by decide +kernel, rfl, by decide +kernel, by decide +kernel⟩
theorem ok_cells {f : Addr} {fd : FuncData} {k : Nat} (F : Fun K "_law_folded" "_law_folded" sCells f fd) (B : Bi mg) : FnOk P w K mg base CX0 (k + 1) f fd ["_law_script", "_law_most"] (spCells K) := by
  refine F.ok scCells (fun vs H Q E h => ?_) (fun cdv A outer s H vs Q E hr h => ?_)
  · obtain ⟨a, m, ns, rfl, _⟩ := h
    rfl
  · obtain ⟨a, m, ns, rfl, hS, m1, m2, q⟩ := h
    refine ⟨_, pss_cons (ps_set (i := 2) scCells.nd rfl (.inl rfl) (pe_orT (pe_callTy call_list_of (by rfl) B.list (by decide +kernel) (pa_cons (pe_slice sl_list (pv 0) po_none (po_some (pv 1))) pa_nil)) (pe_one (pe_lst (pa_cons pe_int pa_nil)))))
      (pss_cons (ps_for PassesOwn.never rfl (pi_enum (by rfl) B.enumerate (pa_cons (pe_slice sl_list (pv 0) (po_some (pv 1)) (po_some pe_int)) pa_nil))
          (pg_tup rfl (pgs_cons (pg_name (i := 3) scCells.nd rfl (.inl rfl)) (pgs_cons (pg_name (i := 4) scCells.nd rfl (.inl rfl)) pgs_nil)))
        (pss_one (ps_asg (pe_op op_add (pe_ix ix_list (pv 2) (pe_op op_mod (pv 3) (pv 1)) (fun _ _ => rfl)) (pe_op op_mul (pv 4) (pe_op op_add (pv 3) pe_int))) (pg_sub (pv 2) (pe_op op_mod (pv 3) (pv 1)) set_list))))
      (pss_one (ps_ret (pv 2)))), ?_⟩
    refine ⟨.ref a, rfl, .int m, rfl, m, rfl, a, _, rfl, hS, fun c nc => ?_⟩
    rw [cut_IL]
    generalize hms : (ns.drop (HT.sIx ns.length 0 none)).take (HT.sIx ns.length ns.length (some m) - HT.sIx ns.length 0 none) = ms0
    have hl0 : ms0.length = min m.toNat ns.length := by
      rw [← hms, List.length_take, List.length_drop, HT.sIx_none, sIx_int _ _ _ (by omega)]
      omega
    have s1 := same_new (o := HO.lst (IL ms0)) nc
    refine ⟨c, _, rfl, .inl (SqL.of upd_same), fun o no => ?_⟩
    have s2 := s1.trans (same_new (o := HO.lst (IL ms0)) no)
    have n0 : H o = none := s1.free no
    have go : ∀ (ms1 : List Int) (o : Addr) (H2 : Hp), Same H H2 → H o = none → H2 o = some (.lst (IL ms1)) → 1 ≤ ms1.length → (ms1.length : Int) ≤ m → (m.toNat < ns.length → (ms1.length : Int) = m) →
        tSeq (tFor (iEnum K (tCons (tSl (rSlL K) (tVar 0) (tPart (tVar 1)) (tPart (tC (.int 63)))) tNil)) (gTup K 2 (gCons (gName 3) (gCons (gName 4) gNil))) (tAsg (tOp (rI0 fun i j => .int (i + j)) (tOp (rIxL K) (tVar 2) (tOp (rI (fun _ j => 0 < j) fun i j => .int (i % j)) (tVar 3) (tVar 1))) (tOp (rI CMul fun i j => .int (i * j)) (tVar 4) (tOp (rI0 fun i j => .int (i + j)) (tVar 3) (tC (.int 2))))) (gSub (tVar 2) (tOp (rI (fun _ j => 0 < j) fun i j => .int (i % j)) (tVar 3) (tVar 1)) rSetL))) (tRet (tVar 2))
          { nx := fun _ H' => Q .non H', rt := Q } [some (.ref a), some (.int m), some (.ref o), none, none] H2 := by
      intro ms1 o H2 s2 n0 ho2 l1 l2 l3
      refine ⟨.ref a, rfl, .int m, rfl, m, rfl, 63, rfl, a, _, rfl, s2.seq hS, fun e ne => ?_⟩
      rw [cut_IL]
      generalize hes : (ns.drop (HT.sIx ns.length 0 (some m))).take (HT.sIx ns.length ns.length (some 63) - HT.sIx ns.length 0 (some m)) = es
      have hle : 0 < es.length → m.toNat < ns.length := by
        rw [← hes, List.length_take, List.length_drop, sIx_int _ _ m (by omega), sIx_int _ _ 63 (by omega)]
        omega
      have nee : o ≠ e := ne_of_none ho2 ne
      have s3 := s2.trans (same_new (o := HO.lst (IL es)) ne)
      refine ⟨e, _, rfl, SqL.of upd_same, ?_⟩
      refine for_it (walk_enum (K := K) (a := e) (xs := IL es)) (fun _ σ H3 => ∃ y3 y4 ms, σ = [some (.ref a), some (.int m), some (.ref o), y3, y4] ∧ Same H H3 ∧ H3 e = some (.lst (IL es)) ∧ H3 o = some (.lst (IL ms)) ∧ ms.length = ms1.length) ?_ ?_ ?_ ?_
      · refine ⟨none, none, ms1, rfl, s3, upd_same, ?_, rfl⟩
        rw [upd_ne nee]; exact ho2
      · rintro i σ H3 _ ⟨y3, y4, ms, rfl, _, he, _⟩
        exact SqL.of he
      · rintro i x σ H3 H4 hi ⟨y3, y4, ms, rfl, sm, he, ho, hl⟩ ⟨T, x1, x2, rfl, nT, rfl, hx1, hx2⟩
        cases hx1
        have hi' : i < es.length := by rw [List.length_map] at hi; exact hi
        have hx2' : x2 = .int es[i] := IL_at hx2 hi'
        subst hx2'
        have hml : (ms.length : Int) = m := by have := l3 (hle (by omega)); omega
        have ho' : (upd H3 T (.tup [.int (i : Nat), .int es[i]])) o = some (.lst (IL ms)) := by rw [upd_ne (ne_of_none ho nT)]; exact ho
        have r0 : 0 ≤ (i : Int) % m := Int.emod_nonneg _ (by omega)
        have r1 : (i : Int) % m < (ms.length : Int) := by rw [hml]; exact Int.emod_lt_of_pos _ (by omega)
        obtain ⟨z, hz⟩ := at_lt r0 r1
        refine ⟨T, _, rfl, SqT.of upd_same, rfl, _, _, rfl, _, _, rfl, rfl, ?_⟩
        refine ⟨.ref o, rfl, .int i, rfl, .int m, rfl, i, m, rfl, rfl, (by show (0 : Int) < m; omega), o, _, _, .int z, rfl, rfl, SqL.of ho', hz, .int es[i], rfl, .int i, rfl, i, 2, rfl, rfl, es[i], _, rfl, rfl, .inr ⟨by omega, ?_⟩, z, _, rfl, rfl, ?_⟩
        · show (i : Int) + 2 < 2 ^ 64
          have : (es.length : Int) ≤ 63 := by
            have : es.length ≤ 63 := by rw [← hes, List.length_take, List.length_drop, sIx_int _ _ m (by omega), sIx_int _ _ 63 (by omega)]; omega
            omega
          omega
        · refine ⟨.ref o, rfl, .int i, rfl, .int m, rfl, i, m, rfl, rfl, (by show (0 : Int) < m; omega), o, _, _, ((i : Int) % m).toNat, rfl, rfl, ho', ?_, ?_⟩
          · rw [List.length_map]; exact ixN_ok r0 r1
          · rw [IL_set]
            refine ⟨_, _, _, rfl, ?_, ?_, upd_same, ?_⟩
            · exact same_mut (sm.trans (same_new nT)) n0
            · rw [upd_ne (Ne.symm nee), upd_ne (ne_of_none he nT)]; exact he
            · rw [List.length_set]; exact hl
      · rintro σ H3 ⟨y3, y4, ms, rfl, sm, he, ho, hl⟩
        exact ⟨.ref o, rfl, q _ o ms sm n0 ho (by omega) (by omega)⟩
    refine ⟨!(IL ms0).isEmpty, .inl ⟨_, SqL.of upd_same, rfl⟩, ?_⟩
    cases ms0 with
    | nil =>
      refine iteF ⟨by show 1 ≤ sizeLine; decide, fun p np => ?_⟩
      refine go [0] p _ (s2.trans (same_new np)) (s2.free np) upd_same (by decide) (by show (1 : Int) ≤ m; omega) (fun h => ?_)
      have : ([] : List Int).length = 0 := rfl
      omega
    | cons x r =>
      refine iteT (go (x :: r) o _ s2 n0 upd_same (by show 1 ≤ r.length + 1; omega) (by omega) (fun h => ?_))
      omega
abbrev s_check_person : Stmt := topS 3
abbrev n_check_person : List Str := ["state", "person"]
theorem sc_check_person : FnScope n_check_person ["state", "person"] (defScope s_check_person) := ⟨rfl, rfl, rfl, by decide +kernel, rfl, by decide +kernel, by decide +kernel⟩
theorem ok_check_person {f : Addr} {fd : FuncData} (F : Fun K "check_person" "check_person" s_check_person f fd) (B : Bi mg)     : FnOk P w K mg base CX0 1 f fd ["state", "person"] (spD 2 p_check_person) := by
  refine okD (k := 0) F sc_check_person rfl (fun cdv A outer s H E hr => ?_) m_check_person
  exact ⟨_, (pss_one (ps_if (pt_not (pt_chain op_le op_lt pe_int (pv 1) (pe_callB (lenK (K := K) rfl) (by rfl) B.len (by decide +kernel) (pa_cons (pv 0) pa_nil)))) pss_never pss_nil)),
    (ss_if (st_not (st_test (se_chain r2_B r2_B se_int se_var (se_cb rc_len (sa_cons se_var sa_nil))))) ss_never ss_next)⟩
abbrev s_route_from : Stmt := topS 4
abbrev n_route_from : List Str := ["pointers", "person", "route", "seen", "at"]
theorem sc_route_from : FnScope n_route_from ["pointers", "person"] (defScope s_route_from) := ⟨rfl, rfl, rfl, by decide +kernel, rfl, by decide +kernel, by decide +kernel⟩
theorem ok_route_from {f : Addr} {fd : FuncData} (F : Fun K "route_from" "route_from" s_route_from f fd) (B : Bi mg)     : FnOk P w K mg base CX0 1 f fd ["pointers", "person"] (spD 2 p_route_from) := by
  refine okD (k := 0) F sc_route_from rfl (fun cdv A outer s H E hr => ?_) m_route_from
  exact ⟨_, (pss_cons (ps_set (i := 2) sc_route_from.nd rfl (by first | exact Or.inl rfl | exact Or.inr rfl) (pe_lst pa_nil))
      (pss_cons (ps_set (i := 3) sc_route_from.nd rfl (by first | exact Or.inl rfl | exact Or.inr rfl) (pe_callTy0 (set0K (w := w) rfl) (by rfl) B.set (by decide +kernel)))
      (pss_cons (ps_set (i := 4) sc_route_from.nd rfl (by first | exact Or.inl rfl | exact Or.inr rfl) (pv 1))
      (pss_cons (ps_while PassesOwn.never (PW.pt (pw_and (pt_cmpR op_notN (pv 4) pe_non (nomark _)) (pw_and1 (pt_cmpR (snotinK (w := w) rfl) (pv 4) (pv 3) (by rfl))))) (pss_cons (ps_expr (saddK (w := w) rfl (pe_sadd (pv 3) (pa_cons (pv 4) pa_nil))))
      (pss_cons (ps_expr (bmK (K := K) rfl (pe_bm PySem.F.plainAttrs_list PySem.F.slot_list_append PySem.F.type_list_append mt_append (pv 2) (pa_cons (pv 4) pa_nil))))
      (pss_one (ps_set (i := 4) sc_route_from.nd rfl (by first | exact Or.inl rfl | exact Or.inr rfl) (pe_ix (ixK (K := K) rfl) (pv 0) (pv 4) (fun _ _ => rfl)))))))
      (pss_one (ps_ret (pv 2))))))),
    (ss_seq (ss_set true (se_lst sa_nil))
      (ss_seq ss_set0
      (ss_seq (ss_set false se_var)
      (ss_seq (ss_while (st_and (st_test (se_op r2_notN se_var se_non)) (st_test (se_snotin se_var se_var))) (ss_seq (ss_sadd se_var)
      (ss_seq (ss_append se_var)
      (ss_set false (se_op r2_ix se_var se_var)))))
      (ss_ret se_var)))))⟩
abbrev s_turned : Stmt := topS 5
abbrev n_turned : List Str := ["members", "first", "at"]
theorem sc_turned : FnScope n_turned ["members", "first"] (defScope s_turned) := ⟨rfl, rfl, rfl, by decide +kernel, rfl, by decide +kernel, by decide +kernel⟩
theorem ok_turned {f : Addr} {fd : FuncData} (F : Fun K "turned" "turned" s_turned f fd) (B : Bi mg)     : FnOk P w K mg base CX0 1 f fd ["members", "first"] (spD 2 p_turned) := by
  refine okD (k := 0) F sc_turned rfl (fun cdv A outer s H E hr => ?_) m_turned
  exact ⟨_, (pss_cons (ps_set (i := 2) sc_turned.nd rfl (by first | exact Or.inl rfl | exact Or.inr rfl) (indexK (K := K) rfl (pe_index (pv 0) (pa_cons (pv 1) pa_nil))))
      (pss_one (ps_ret (pe_op (addK (K := K) rfl) (pe_slice (slK (K := K) rfl) (pv 0) (po_some (pv 2)) po_none) (pe_slice (slK (K := K) rfl) (pv 0) po_none (po_some (pv 2))))))),
    (ss_seq (ss_set false (se_index se_var se_var))
      (ss_ret (se_op r2_add (se_sl rs_sl se_var (so_some se_var) so_none) (se_sl rs_sl se_var so_none (so_some se_var)))))⟩
abbrev s_ring_begin : Stmt := topS 6
abbrev n_ring_begin : List Str := ["state", "route"]
theorem sc_ring_begin : FnScope n_ring_begin ["state", "route"] (defScope s_ring_begin) := ⟨rfl, rfl, rfl, by decide +kernel, rfl, by decide +kernel, by decide +kernel⟩
theorem ok_ring_begin {f : Addr} {fd : FuncData} (F : Fun K "ring_begin" "ring_begin" s_ring_begin f fd) (B : Bi mg)     : FnOk P w K mg base CX0 1 f fd ["state", "route"] (spD 2 p_ring_begin) := by
  refine okD (k := 0) F sc_ring_begin rfl (fun cdv A outer s H E hr => ?_) m_ring_begin
  exact ⟨_, (pss_one (ps_ret (indexK (K := K) rfl (pe_index (pv 1) (pa_cons (pe_ix (ixK (K := K) rfl) (pv 0) (pe_ix (ixK (K := K) rfl) (pv 1) (pe_un un_neg pe_int) (fun _ _ => rfl)) (fun _ _ => rfl)) pa_nil))))),
    (ss_ret (se_index se_var (se_op r2_ix se_var (se_op r2_ix se_var (se_un ru_neg se_int)))))⟩
abbrev s_person_after : Stmt := topS 7
abbrev n_person_after : List Str := ["state", "person", "steps", "route", "begin"]
theorem sc_person_after : FnScope n_person_after ["state", "person", "steps"] (defScope s_person_after) := ⟨rfl, rfl, rfl, by decide +kernel, rfl, by decide +kernel, by decide +kernel⟩
theorem ok_person_after {f : Addr} {fd : FuncData} (F : Fun K "person_after" "person_after" s_person_after f fd) (B : Bi mg) {f_check_person : Addr} {e_check_person : FuncData} (c_check_person : Cal P w K mg base "check_person" 1 ["state", "person"] (spD 2 p_check_person) f_check_person e_check_person) {f_route_from : Addr} {e_route_from : FuncData} (c_route_from : Cal P w K mg base "route_from" 1 ["pointers", "person"] (spD 2 p_route_from) f_route_from e_route_from) {f_ring_begin : Addr} {e_ring_begin : FuncData} (c_ring_begin : Cal P w K mg base "ring_begin" 1 ["state", "route"] (spD 2 p_ring_begin) f_ring_begin e_ring_begin)    : FnOk P w K mg base CX0 2 f fd ["state", "person", "steps"] (spD 3 p_person_after) := by
  refine okD (k := 1) F sc_person_after rfl (fun cdv A outer s H E hr => ?_) m_person_after
  exact ⟨_, (pss_cons (ps_expr (pe_call c_check_person.ok (hr.mono (by decide)) (by rfl) c_check_person.g c_check_person.kp c_check_person.bd .nil pass0 (pa_cons (pv 0) (pa_cons (pv 1) pa_nil))))
      (pss_cons (ps_set (i := 3) sc_person_after.nd rfl (by first | exact Or.inl rfl | exact Or.inr rfl) (pe_call c_route_from.ok (hr.mono (by decide)) (by rfl) c_route_from.g c_route_from.kp c_route_from.bd .nil pass0 (pa_cons (pv 0) (pa_cons (pv 1) pa_nil))))
      (pss_cons (ps_if (pt_cmpR op_lt (pv 2) (pe_callB (lenK (K := K) rfl) (by rfl) B.len (by decide +kernel) (pa_cons (pv 3) pa_nil)) (nomark _)) (pss_one (ps_ret (pe_ix (ixK (K := K) rfl) (pv 3) (pv 2) (fun _ _ => rfl)))) pss_nil)
      (pss_cons (ps_set (i := 4) sc_person_after.nd rfl (by first | exact Or.inl rfl | exact Or.inr rfl) (pe_call c_ring_begin.ok (hr.mono (by decide)) (by rfl) c_ring_begin.g c_ring_begin.kp c_ring_begin.bd .nil pass0 (pa_cons (pv 0) (pa_cons (pv 3) pa_nil))))
      (pss_one (ps_ret (pe_ix (ixK (K := K) rfl) (pv 3) (pe_op (addK (K := K) rfl) (pv 4) (pe_op op_mod (pe_op op_sub (pv 2) (pv 4)) (pe_op op_sub (pe_callB (lenK (K := K) rfl) (by rfl) B.len (by decide +kernel) (pa_cons (pv 3) pa_nil)) (pv 4)))) (fun _ _ => rfl)))))))),
    (ss_seq (ss_drop (se_call mon_check_person (sa_cons se_var (sa_cons se_var sa_nil))))
      (ss_seq (ss_set false (se_call mon_route_from (sa_cons se_var (sa_cons se_var sa_nil))))
      (ss_seq (ss_if (st_test (se_op r2_B se_var (se_cb rc_len (sa_cons se_var sa_nil)))) (ss_ret (se_op r2_ix se_var se_var)) ss_next)
      (ss_seq (ss_set false (se_call mon_ring_begin (sa_cons se_var (sa_cons se_var sa_nil))))
      (ss_ret (se_op r2_ix se_var (se_op r2_add se_var (se_op r2_C (se_op r2_I se_var se_var) (se_op r2_I (se_cb rc_len (sa_cons se_var sa_nil)) se_var)))))))))⟩
abbrev s_ring_of : Stmt := topS 8
abbrev n_ring_of : List Str := ["state", "person", "route", "members"]
theorem sc_ring_of : FnScope n_ring_of ["state", "person"] (defScope s_ring_of) := ⟨rfl, rfl, rfl, by decide +kernel, rfl, by decide +kernel, by decide +kernel⟩
theorem ok_ring_of {f : Addr} {fd : FuncData} (F : Fun K "ring_of" "ring_of" s_ring_of f fd) (B : Bi mg) {f_check_person : Addr} {e_check_person : FuncData} (c_check_person : Cal P w K mg base "check_person" 1 ["state", "person"] (spD 2 p_check_person) f_check_person e_check_person) {f_route_from : Addr} {e_route_from : FuncData} (c_route_from : Cal P w K mg base "route_from" 1 ["pointers", "person"] (spD 2 p_route_from) f_route_from e_route_from) {f_ring_begin : Addr} {e_ring_begin : FuncData} (c_ring_begin : Cal P w K mg base "ring_begin" 1 ["state", "route"] (spD 2 p_ring_begin) f_ring_begin e_ring_begin) {f_turned : Addr} {e_turned : FuncData} (c_turned : Cal P w K mg base "turned" 1 ["members", "first"] (spD 2 p_turned) f_turned e_turned)    : FnOk P w K mg base CX0 2 f fd ["state", "person"] (spD 2 p_ring_of) := by
  refine okD (k := 1) F sc_ring_of rfl (fun cdv A outer s H E hr => ?_) m_ring_of
  exact ⟨_, (pss_cons (ps_expr (pe_call c_check_person.ok (hr.mono (by decide)) (by rfl) c_check_person.g c_check_person.kp c_check_person.bd .nil pass0 (pa_cons (pv 0) (pa_cons (pv 1) pa_nil))))
      (pss_cons (ps_set (i := 2) sc_ring_of.nd rfl (by first | exact Or.inl rfl | exact Or.inr rfl) (pe_call c_route_from.ok (hr.mono (by decide)) (by rfl) c_route_from.g c_route_from.kp c_route_from.bd .nil pass0 (pa_cons (pv 0) (pa_cons (pv 1) pa_nil))))
      (pss_cons (ps_set (i := 3) sc_ring_of.nd rfl (by first | exact Or.inl rfl | exact Or.inr rfl) (pe_slice (slK (K := K) rfl) (pv 2) (po_some (pe_call c_ring_begin.ok (hr.mono (by decide)) (by rfl) c_ring_begin.g c_ring_begin.kp c_ring_begin.bd .nil pass0 (pa_cons (pv 0) (pa_cons (pv 2) pa_nil)))) po_none))
      (pss_one (ps_ret (pe_callTy (tupleK (K := K) rfl) (by rfl) B.tuple (by decide +kernel) (pa_cons (pe_call c_turned.ok (hr.mono (by decide)) (by rfl) c_turned.g c_turned.kp c_turned.bd .nil pass0 (pa_cons (pv 3) (pa_cons (pe_callB (minK (K := K) rfl rfl) (by rfl) B.min (by decide +kernel) (pa_cons (pv 3) pa_nil)) pa_nil))) pa_nil))))))),
    (ss_seq (ss_drop (se_call mon_check_person (sa_cons se_var (sa_cons se_var sa_nil))))
      (ss_seq (ss_set false (se_call mon_route_from (sa_cons se_var (sa_cons se_var sa_nil))))
      (ss_seq (ss_set false (se_sl rs_sl se_var (so_some (se_call mon_ring_begin (sa_cons se_var (sa_cons se_var sa_nil)))) so_none))
      (ss_ret (se_cb rc_tuple (sa_cons (se_call mon_turned (sa_cons se_var (sa_cons (se_cb rc_min (sa_cons se_var sa_nil)) sa_nil))) sa_nil))))))⟩
abbrev s_height : Stmt := topS 9
abbrev n_height : List Str := ["state", "person"]
theorem sc_height : FnScope n_height ["state", "person"] (defScope s_height) := ⟨rfl, rfl, rfl, by decide +kernel, rfl, by decide +kernel, by decide +kernel⟩
theorem ok_height {f : Addr} {fd : FuncData} (F : Fun K "height" "height" s_height f fd) (B : Bi mg) {f_check_person : Addr} {e_check_person : FuncData} (c_check_person : Cal P w K mg base "check_person" 1 ["state", "person"] (spD 2 p_check_person) f_check_person e_check_person) {f_ring_begin : Addr} {e_ring_begin : FuncData} (c_ring_begin : Cal P w K mg base "ring_begin" 1 ["state", "route"] (spD 2 p_ring_begin) f_ring_begin e_ring_begin) {f_route_from : Addr} {e_route_from : FuncData} (c_route_from : Cal P w K mg base "route_from" 1 ["pointers", "person"] (spD 2 p_route_from) f_route_from e_route_from)    : FnOk P w K mg base CX0 2 f fd ["state", "person"] (spD 2 p_height) := by
  refine okD (k := 1) F sc_height rfl (fun cdv A outer s H E hr => ?_) m_height
  exact ⟨_, (pss_cons (ps_expr (pe_call c_check_person.ok (hr.mono (by decide)) (by rfl) c_check_person.g c_check_person.kp c_check_person.bd .nil pass0 (pa_cons (pv 0) (pa_cons (pv 1) pa_nil))))
      (pss_one (ps_ret (pe_call c_ring_begin.ok (hr.mono (by decide)) (by rfl) c_ring_begin.g c_ring_begin.kp c_ring_begin.bd .nil pass0 (pa_cons (pv 0) (pa_cons (pe_call c_route_from.ok (hr.mono (by decide)) (by rfl) c_route_from.g c_route_from.kp c_route_from.bd .nil pass0 (pa_cons (pv 0) (pa_cons (pv 1) pa_nil))) pa_nil)))))),
    (ss_seq (ss_drop (se_call mon_check_person (sa_cons se_var (sa_cons se_var sa_nil))))
      (ss_ret (se_call mon_ring_begin (sa_cons se_var (sa_cons (se_call mon_route_from (sa_cons se_var (sa_cons se_var sa_nil))) sa_nil)))))⟩
abbrev s_check_word : Stmt := topS 11
abbrev n_check_word : List Str := ["state", "word", "person"]
theorem sc_check_word : FnScope n_check_word ["state", "word"] (defScope s_check_word) := ⟨rfl, rfl, rfl, by decide +kernel, rfl, by decide +kernel, by decide +kernel⟩
theorem ok_check_word {f : Addr} {fd : FuncData} (F : Fun K "check_word" "check_word" s_check_word f fd) (B : Bi mg) {f_check_person : Addr} {e_check_person : FuncData} (c_check_person : Cal P w K mg base "check_person" 1 ["state", "person"] (spD 2 p_check_person) f_check_person e_check_person)    : FnOk P w K mg base CX0 2 f fd ["state", "word"] (spD 2 p_check_word) := by
  refine okD (k := 1) F sc_check_word rfl (fun cdv A outer s H E hr => ?_) m_check_word
  exact ⟨_, (pss_one (ps_for PassesOwn.never rfl (seqK (K := K) rfl (pv 1)) (pg_name (i := 2) sc_check_word.nd rfl (by first | exact Or.inl rfl | exact Or.inr rfl)) (pss_one (ps_expr (pe_call c_check_person.ok (hr.mono (by decide)) (by rfl) c_check_person.g c_check_person.kp c_check_person.bd .nil pass0 (pa_cons (pv 0) (pa_cons (pv 2) pa_nil))))))),
    (ss_for (si_seq se_var) sg_name (ss_drop (se_call mon_check_person (sa_cons se_var (sa_cons se_var sa_nil)))))⟩
abbrev s_called_all : Stmt := topS 12
abbrev n_called_all : List Str := ["state", "word", "pointers", "person"]
theorem sc_called_all : FnScope n_called_all ["state", "word"] (defScope s_called_all) := ⟨rfl, rfl, rfl, by decide +kernel, rfl, by decide +kernel, by decide +kernel⟩
theorem ok_called_all {f : Addr} {fd : FuncData} (F : Fun K "called_all" "called_all" s_called_all f fd) (B : Bi mg) {f_check_word : Addr} {e_check_word : FuncData} (c_check_word : Cal P w K mg base "check_word" 2 ["state", "word"] (spD 2 p_check_word) f_check_word e_check_word)    : FnOk P w K mg base CX0 3 f fd ["state", "word"] (spD 2 p_called_all) := by
  refine okD (k := 2) F sc_called_all rfl (fun cdv A outer s H E hr => ?_) m_called_all
  exact ⟨_, (pss_cons (ps_expr (pe_call c_check_word.ok (hr.mono (by decide)) (by rfl) c_check_word.g c_check_word.kp c_check_word.bd .nil pass0 (pa_cons (pv 0) (pa_cons (pv 1) pa_nil))))
      (pss_cons (ps_set (i := 2) sc_called_all.nd rfl (by first | exact Or.inl rfl | exact Or.inr rfl) (pe_callTy (listK (K := K) rfl) (by rfl) B.list (by decide +kernel) (pa_cons (pv 0) pa_nil)))
      (pss_cons (ps_for PassesOwn.never rfl (seqK (K := K) rfl (pv 1)) (pg_name (i := 3) sc_called_all.nd rfl (by first | exact Or.inl rfl | exact Or.inr rfl)) (pss_one (ps_asg (pe_ix (ixK (K := K) rfl) (pv 2) (pe_ix (ixK (K := K) rfl) (pv 2) (pv 3) (fun _ _ => rfl)) (fun _ _ => rfl)) (pg_sub (pv 2) (pv 3) set_list))))
      (pss_one (ps_ret (pe_callTy (tupleK (K := K) rfl) (by rfl) B.tuple (by decide +kernel) (pa_cons (pv 2) pa_nil))))))),
    (ss_seq (ss_drop (se_call mon_check_word (sa_cons se_var (sa_cons se_var sa_nil))))
      (ss_seq (ss_set true (se_cb rc_list (sa_cons se_var sa_nil)))
      (ss_seq (ss_for (si_seq se_var) sg_name (ss_setIx (se_op r2_ix se_var (se_op r2_ix se_var se_var)) se_var))
      (ss_ret (se_cb rc_tuple (sa_cons se_var sa_nil))))))⟩
abbrev s_is_settled : Stmt := topS 14
abbrev n_is_settled : List Str := ["state", "word", "person"]
theorem sc_is_settled : FnScope n_is_settled ["state", "word"] (defScope s_is_settled) := ⟨rfl, rfl, rfl, by decide +kernel, rfl, by decide +kernel, by decide +kernel⟩
theorem ok_is_settled {f : Addr} {fd : FuncData} (F : Fun K "is_settled" "is_settled" s_is_settled f fd) (B : Bi mg) {f_height : Addr} {e_height : FuncData} (c_height : Cal P w K mg base "height" 2 ["state", "person"] (spD 2 p_height) f_height e_height)    : FnOk P w K mg base CX0 3 f fd ["state", "word"] (spD 2 p_is_settled) := by
  refine okD (k := 2) F sc_is_settled rfl (fun cdv A outer s H E hr => ?_) m_is_settled
  exact ⟨_, (pss_one (ps_ret (pe_callB (allK (K := K) rfl rfl) (by rfl) B.all (by decide +kernel) (pa_cons (pe_lc (own := [("person", 2)]) (by rfl) sc_is_settled.nd (seqK (K := K) rfl (pe_callB (sortSetK (w := w) rfl rfl) (by rfl) B.sorted (by decide +kernel) (pa_cons (pe_callTy (setIAK (K := K) (w := w) rfl rfl rfl) (by rfl) B.set (by decide +kernel) (pa_cons (pv 1) pa_nil)) pa_nil))) (blkOk_by (own := [("person", 2)]) (N := n_is_settled) (sc := (defScope s_is_settled)) (by decide +kernel)) (fun _ _ _ _ _ => (pg_name (i := 2) sc_is_settled.nd rfl (by first | exact Or.inl rfl | exact Or.inr rfl))) (fun _ _ _ _ _ => pts_nil) (fun _ _ _ _ _ => (pe_or (pe_cmpR (eqK (K := K) rfl hr.units) (pe_ix (ixK (K := K) rfl) (pv 0) (pv 2) (fun _ _ => rfl)) (pv 2) (nomark _)) (pe_one (pe_cmpR (eqK (K := K) rfl hr.units) (pe_call c_height.ok (hr.mono (by decide)) (by rfl) c_height.g c_height.kp c_height.bd .nil pass0 (pa_cons (pv 0) (pa_cons (pv 2) pa_nil))) pe_int (nomark _)))))) pa_nil)))),
    (ss_ret (se_cb rc_all (sa_cons (se_lc (si_seq (se_sortSetA se_var)) sg_name st_yes (se_orV (se_op r2_eq (se_op r2_ix se_var se_var) se_var) (se_op r2_eq (se_call mon_height (sa_cons se_var (sa_cons se_var sa_nil))) se_int))) sa_nil)))⟩
abbrev s_states_until_settled : Stmt := topS 15
abbrev n_states_until_settled : List Str := ["state", "word", "along"]
theorem sc_states_until_settled : FnScope n_states_until_settled ["state", "word"] (defScope s_states_until_settled) := ⟨rfl, rfl, rfl, by decide +kernel, rfl, by decide +kernel, by decide +kernel⟩
theorem ok_states_until_settled {f : Addr} {fd : FuncData} (F : Fun K "states_until_settled" "states_until_settled" s_states_until_settled f fd) (B : Bi mg) {f_check_word : Addr} {e_check_word : FuncData} (c_check_word : Cal P w K mg base "check_word" 2 ["state", "word"] (spD 2 p_check_word) f_check_word e_check_word) {f_is_settled : Addr} {e_is_settled : FuncData} (c_is_settled : Cal P w K mg base "is_settled" 3 ["state", "word"] (spD 2 p_is_settled) f_is_settled e_is_settled) {f_called_all : Addr} {e_called_all : FuncData} (c_called_all : Cal P w K mg base "called_all" 3 ["state", "word"] (spD 2 p_called_all) f_called_all e_called_all)    : FnOk P w K mg base CX0 4 f fd ["state", "word"] (spD 2 p_states_until_settled) := by
  refine okD (k := 3) F sc_states_until_settled rfl (fun cdv A outer s H E hr => ?_) m_states_until_settled
  exact ⟨_, (pss_cons (ps_expr (pe_call c_check_word.ok (hr.mono (by decide)) (by rfl) c_check_word.g c_check_word.kp c_check_word.bd .nil pass0 (pa_cons (pv 0) (pa_cons (pv 1) pa_nil))))
      (pss_cons (ps_set (i := 2) sc_states_until_settled.nd rfl (by first | exact Or.inl rfl | exact Or.inr rfl) (pe_lst (pa_cons (pe_callTy (tupleK (K := K) rfl) (by rfl) B.tuple (by decide +kernel) (pa_cons (pv 0) pa_nil)) pa_nil)))
      (pss_cons (ps_while PassesOwn.never (pt_not (pt_truth (pe_call c_is_settled.ok (hr.mono (by decide)) (by rfl) c_is_settled.g c_is_settled.kp c_is_settled.bd .nil pass0 (pa_cons (pe_ix (ixK (K := K) rfl) (pv 2) (pe_un un_neg pe_int) (fun _ _ => rfl)) (pa_cons (pv 1) pa_nil))) (by intro _; rfl))) (pss_one (ps_expr (bmK (K := K) rfl (pe_bm PySem.F.plainAttrs_list PySem.F.slot_list_append PySem.F.type_list_append mt_append (pv 2) (pa_cons (pe_call c_called_all.ok (hr.mono (by decide)) (by rfl) c_called_all.g c_called_all.kp c_called_all.bd .nil pass0 (pa_cons (pe_ix (ixK (K := K) rfl) (pv 2) (pe_un un_neg pe_int) (fun _ _ => rfl)) (pa_cons (pv 1) pa_nil))) pa_nil))))))
      (pss_one (ps_ret (pv 2)))))),
    (ss_seq (ss_drop (se_call mon_check_word (sa_cons se_var (sa_cons se_var sa_nil))))
      (ss_seq (ss_set true (se_lst (sa_cons (se_cb rc_tuple (sa_cons se_var sa_nil)) sa_nil)))
      (ss_seq (ss_while (st_not (st_truth (se_call mon_is_settled (sa_cons (se_op r2_ix se_var (se_un ru_neg se_int)) (sa_cons se_var sa_nil))))) (ss_append (se_call mon_called_all (sa_cons (se_op r2_ix se_var (se_un ru_neg se_int)) (sa_cons se_var sa_nil)))))
      (ss_ret se_var))))⟩
abbrev s_pointer_later : Stmt := topS 16
abbrev n_pointer_later : List Str := ["settled", "word", "person", "more"]
theorem sc_pointer_later : FnScope n_pointer_later ["settled", "word", "person", "more"] (defScope s_pointer_later) := ⟨rfl, rfl, rfl, by decide +kernel, rfl, by decide +kernel, by decide +kernel⟩
theorem ok_pointer_later {f : Addr} {fd : FuncData} (F : Fun K "pointer_later" "pointer_later" s_pointer_later f fd) (B : Bi mg) {f_person_after : Addr} {e_person_after : FuncData} (c_person_after : Cal P w K mg base "person_after" 2 ["state", "person", "steps"] (spD 3 p_person_after) f_person_after e_person_after)    : FnOk P w K mg base CX0 3 f fd ["settled", "word", "person", "more"] (spD 4 p_pointer_later) := by
  refine okD (k := 2) F sc_pointer_later rfl (fun cdv A outer s H E hr => ?_) m_pointer_later
  exact ⟨_, (pss_one (ps_ret (pe_call c_person_after.ok (hr.mono (by decide)) (by rfl) c_person_after.g c_person_after.kp c_person_after.bd .nil pass0 (pa_cons (pv 0) (pa_cons (pe_ix (ixK (K := K) rfl) (pv 0) (pv 2) (fun _ _ => rfl)) (pa_cons (pe_op op_mulA (countK (K := K) rfl (pe_count (pv 1) (pa_cons (pv 2) pa_nil))) (pv 3)) pa_nil)))))),
    (ss_ret (se_call mon_person_after (sa_cons se_var (sa_cons (se_op r2_ix se_var se_var) (sa_cons (se_op r2_mul (se_count se_var se_var) se_var) sa_nil)))))⟩
abbrev s_common_divisor : Stmt := topS 17
abbrev n_common_divisor : List Str := ["one", "other"]
theorem sc_common_divisor : FnScope n_common_divisor ["one", "other"] (defScope s_common_divisor) := ⟨rfl, rfl, rfl, by decide +kernel, rfl, by decide +kernel, by decide +kernel⟩
theorem ok_common_divisor {f : Addr} {fd : FuncData} (F : Fun K "common_divisor" "common_divisor" s_common_divisor f fd) (B : Bi mg)     : FnOk P w K mg base CX0 1 f fd ["one", "other"] (spD 2 p_common_divisor) := by
  refine okD (k := 0) F sc_common_divisor rfl (fun cdv A outer s H E hr => ?_) m_common_divisor
  exact ⟨_, (pss_cons (ps_while PassesOwn.never (pt_cmpR op_gt (pv 1) pe_int (nomark _)) (pss_one (ps_par (i := 0) (j := 1) (by rfl) sc_common_divisor.nd rfl rfl (by decide) rfl rfl (pa_cons (pv 1) (pa_cons (pe_op op_mod (pv 0) (pv 1)) pa_nil)) (by rfl))))
      (pss_one (ps_ret (pv 0)))),
    (ss_seq (ss_while (st_test (se_op r2_B se_var se_int)) (ss_par se_var (se_op r2_C se_var se_var)))
      (ss_ret se_var))⟩
abbrev s_turn_period : Stmt := topS 18
abbrev n_turn_period : List Str := ["settled", "word", "person", "length"]
theorem sc_turn_period : FnScope n_turn_period ["settled", "word", "person"] (defScope s_turn_period) := ⟨rfl, rfl, rfl, by decide +kernel, rfl, by decide +kernel, by decide +kernel⟩
theorem ok_turn_period {f : Addr} {fd : FuncData} (F : Fun K "turn_period" "turn_period" s_turn_period f fd) (B : Bi mg) {f_ring_of : Addr} {e_ring_of : FuncData} (c_ring_of : Cal P w K mg base "ring_of" 2 ["state", "person"] (spD 2 p_ring_of) f_ring_of e_ring_of) {f_common_divisor : Addr} {e_common_divisor : FuncData} (c_common_divisor : Cal P w K mg base "common_divisor" 1 ["one", "other"] (spD 2 p_common_divisor) f_common_divisor e_common_divisor)    : FnOk P w K mg base CX0 3 f fd ["settled", "word", "person"] (spD 3 p_turn_period) := by
  refine okD (k := 2) F sc_turn_period rfl (fun cdv A outer s H E hr => ?_) m_turn_period
  exact ⟨_, (pss_cons (ps_set (i := 3) sc_turn_period.nd rfl (by first | exact Or.inl rfl | exact Or.inr rfl) (pe_callB (lenK (K := K) rfl) (by rfl) B.len (by decide +kernel) (pa_cons (pe_call c_ring_of.ok (hr.mono (by decide)) (by rfl) c_ring_of.g c_ring_of.kp c_ring_of.bd .nil pass0 (pa_cons (pv 0) (pa_cons (pv 2) pa_nil))) pa_nil)))
      (pss_one (ps_ret (pe_op op_fdivW (pv 3) (pe_call c_common_divisor.ok (hr.mono (by decide)) (by rfl) c_common_divisor.g c_common_divisor.kp c_common_divisor.bd .nil pass0 (pa_cons (pv 3) (pa_cons (countK (K := K) rfl (pe_count (pv 1) (pa_cons (pv 2) pa_nil))) pa_nil))))))),
    (ss_seq (ss_set false (se_cb rc_len (sa_cons (se_call mon_ring_of (sa_cons se_var (sa_cons se_var sa_nil))) sa_nil)))
      (ss_ret (se_op r2_C se_var (se_call mon_common_divisor (sa_cons se_var (sa_cons (se_count se_var se_var) sa_nil))))))⟩
abbrev s_repeated : Stmt := topS 19
abbrev n_repeated : List Str := ["state", "word", "many", "along", "begin", "person"]
theorem sc_repeated : FnScope n_repeated ["state", "word", "many"] (defScope s_repeated) := ⟨rfl, rfl, rfl, by decide +kernel, rfl, by decide +kernel, by decide +kernel⟩
theorem ok_repeated {f : Addr} {fd : FuncData} (F : Fun K "repeated" "repeated" s_repeated f fd) (B : Bi mg) {f_states_until_settled : Addr} {e_states_until_settled : FuncData} (c_states_until_settled : Cal P w K mg base "states_until_settled" 4 ["state", "word"] (spD 2 p_states_until_settled) f_states_until_settled e_states_until_settled) {f_pointer_later : Addr} {e_pointer_later : FuncData} (c_pointer_later : Cal P w K mg base "pointer_later" 3 ["settled", "word", "person", "more"] (spD 4 p_pointer_later) f_pointer_later e_pointer_later)    : FnOk P w K mg base CX0 5 f fd ["state", "word", "many"] (spD 3 p_repeated) := by
  refine okD (k := 4) F sc_repeated rfl (fun cdv A outer s H E hr => ?_) m_repeated
  exact ⟨_, (pss_cons (ps_set (i := 3) sc_repeated.nd rfl (by first | exact Or.inl rfl | exact Or.inr rfl) (pe_call c_states_until_settled.ok (hr.mono (by decide)) (by rfl) c_states_until_settled.g c_states_until_settled.kp c_states_until_settled.bd .nil pass0 (pa_cons (pv 0) (pa_cons (pv 1) pa_nil))))
      (pss_cons (ps_set (i := 4) sc_repeated.nd rfl (by first | exact Or.inl rfl | exact Or.inr rfl) (pe_op op_sub (pe_callB (lenK (K := K) rfl) (by rfl) B.len (by decide +kernel) (pa_cons (pv 3) pa_nil)) pe_int))
      (pss_cons (ps_if (pt_cmpR op_le (pv 2) (pv 4) (nomark _)) (pss_one (ps_ret (pe_ix (ixK (K := K) rfl) (pv 3) (pv 2) (fun _ _ => rfl)))) pss_nil)
      (pss_one (ps_ret (pe_callTy (tupleK (K := K) rfl) (by rfl) B.tuple (by decide +kernel) (pa_cons (pe_lc (own := [("person", 5)]) (by rfl) sc_repeated.nd (pi_range1 (by rfl) B.range (pa_cons (pe_callB (lenK (K := K) rfl) (by rfl) B.len (by decide +kernel) (pa_cons (pv 0) pa_nil)) pa_nil)) (blkOk_by (own := [("person", 5)]) (N := n_repeated) (sc := (defScope s_repeated)) (by decide +kernel)) (fun _ _ _ _ _ => (pg_name (i := 5) sc_repeated.nd rfl (by first | exact Or.inl rfl | exact Or.inr rfl))) (fun _ _ _ _ _ => pts_nil) (fun _ _ _ _ _ => (pe_call c_pointer_later.ok (hr.mono (by decide)) (by rfl) c_pointer_later.g c_pointer_later.kp c_pointer_later.bd .nil pass0 (pa_cons (pe_ix (ixK (K := K) rfl) (pv 3) (pe_un un_neg pe_int) (fun _ _ => rfl)) (pa_cons (pv 1) (pa_cons (pv 5) (pa_cons (pe_op op_sub (pv 2) (pv 4)) pa_nil))))))) pa_nil))))))),
    (ss_seq (ss_set false (se_call mon_states_until_settled (sa_cons se_var (sa_cons se_var sa_nil))))
      (ss_seq (ss_set false (se_op r2_I (se_cb rc_len (sa_cons se_var sa_nil)) se_int))
      (ss_seq (ss_if (st_test (se_op r2_B se_var se_var)) (ss_ret (se_op r2_ix se_var se_var)) ss_next)
      (ss_ret (se_cb rc_tuple (sa_cons (se_lc (si_rng1 (sa_cons (se_cb rc_len (sa_cons se_var sa_nil)) sa_nil)) sg_name st_yes (se_call mon_pointer_later (sa_cons (se_op r2_ix se_var (se_un ru_neg se_int)) (sa_cons se_var (sa_cons se_var (sa_cons (se_op r2_I se_var se_var) sa_nil)))))) sa_nil))))))⟩
abbrev s_settles : Stmt := topS 20
abbrev n_settles : List Str := ["state", "word", "along", "period", "person", "own"]
theorem sc_settles : FnScope n_settles ["state", "word"] (defScope s_settles) := ⟨rfl, rfl, rfl, by decide +kernel, rfl, by decide +kernel, by decide +kernel⟩
theorem ok_settles {f : Addr} {fd : FuncData} (F : Fun K "settles" "settles" s_settles f fd) (B : Bi mg) {f_states_until_settled : Addr} {e_states_until_settled : FuncData} (c_states_until_settled : Cal P w K mg base "states_until_settled" 4 ["state", "word"] (spD 2 p_states_until_settled) f_states_until_settled e_states_until_settled) {f_turn_period : Addr} {e_turn_period : FuncData} (c_turn_period : Cal P w K mg base "turn_period" 3 ["settled", "word", "person"] (spD 3 p_turn_period) f_turn_period e_turn_period) {f_common_divisor : Addr} {e_common_divisor : FuncData} (c_common_divisor : Cal P w K mg base "common_divisor" 1 ["one", "other"] (spD 2 p_common_divisor) f_common_divisor e_common_divisor)    : FnOk P w K mg base CX0 5 f fd ["state", "word"] (spD 2 p_settles) := by
  refine okD (k := 4) F sc_settles rfl (fun cdv A outer s H E hr => ?_) m_settles
  exact ⟨_, (pss_cons (ps_set (i := 2) sc_settles.nd rfl (by first | exact Or.inl rfl | exact Or.inr rfl) (pe_call c_states_until_settled.ok (hr.mono (by decide)) (by rfl) c_states_until_settled.g c_states_until_settled.kp c_states_until_settled.bd .nil pass0 (pa_cons (pv 0) (pa_cons (pv 1) pa_nil))))
      (pss_cons (ps_set (i := 3) sc_settles.nd rfl (by first | exact Or.inl rfl | exact Or.inr rfl) pe_int)
      (pss_cons (ps_for PassesOwn.never rfl (pi_range1 (by rfl) B.range (pa_cons (pe_callB (lenK (K := K) rfl) (by rfl) B.len (by decide +kernel) (pa_cons (pv 0) pa_nil)) pa_nil)) (pg_name (i := 4) sc_settles.nd rfl (by first | exact Or.inl rfl | exact Or.inr rfl)) (pss_cons (ps_set (i := 5) sc_settles.nd rfl (by first | exact Or.inl rfl | exact Or.inr rfl) (pe_call c_turn_period.ok (hr.mono (by decide)) (by rfl) c_turn_period.g c_turn_period.kp c_turn_period.bd .nil pass0 (pa_cons (pe_ix (ixK (K := K) rfl) (pv 2) (pe_un un_neg pe_int) (fun _ _ => rfl)) (pa_cons (pv 1) (pa_cons (pv 4) pa_nil)))))
      (pss_one (ps_set (i := 3) sc_settles.nd rfl (by first | exact Or.inl rfl | exact Or.inr rfl) (pe_op op_fdivW (pe_op op_mulA (pv 3) (pv 5)) (pe_call c_common_divisor.ok (hr.mono (by decide)) (by rfl) c_common_divisor.g c_common_divisor.kp c_common_divisor.bd .nil pass0 (pa_cons (pv 3) (pa_cons (pv 5) pa_nil))))))))
      (pss_one (ps_ret (pe_tupS (pa_cons (pe_op op_sub (pe_callB (lenK (K := K) rfl) (by rfl) B.len (by decide +kernel) (pa_cons (pv 2) pa_nil)) pe_int) (pa_cons (pv 3) pa_nil)))))))),
    (ss_seq (ss_set false (se_call mon_states_until_settled (sa_cons se_var (sa_cons se_var sa_nil))))
      (ss_seq (ss_set false se_int)
      (ss_seq (ss_for (si_rng1 (sa_cons (se_cb rc_len (sa_cons se_var sa_nil)) sa_nil)) sg_name (ss_seq (ss_set false (se_call mon_turn_period (sa_cons (se_op r2_ix se_var (se_un ru_neg se_int)) (sa_cons se_var (sa_cons se_var sa_nil)))))
      (ss_set false (se_op r2_C (se_op r2_mul se_var se_var) (se_call mon_common_divisor (sa_cons se_var (sa_cons se_var sa_nil)))))))
      (ss_ret (se_tup (sa_cons (se_op r2_I (se_cb rc_len (sa_cons se_var sa_nil)) se_int) (sa_cons se_var sa_nil)))))))⟩
abbrev s_turning : Stmt := topS 21
abbrev n_turning : List Str := ["state", "word", "settled", "person"]
theorem sc_turning : FnScope n_turning ["state", "word"] (defScope s_turning) := ⟨rfl, rfl, rfl, by decide +kernel, rfl, by decide +kernel, by decide +kernel⟩
theorem ok_turning {f : Addr} {fd : FuncData} (F : Fun K "turning" "turning" s_turning f fd) (B : Bi mg) {f_states_until_settled : Addr} {e_states_until_settled : FuncData} (c_states_until_settled : Cal P w K mg base "states_until_settled" 4 ["state", "word"] (spD 2 p_states_until_settled) f_states_until_settled e_states_until_settled) {f_turn_period : Addr} {e_turn_period : FuncData} (c_turn_period : Cal P w K mg base "turn_period" 3 ["settled", "word", "person"] (spD 3 p_turn_period) f_turn_period e_turn_period)    : FnOk P w K mg base CX0 5 f fd ["state", "word"] (spD 2 p_turning) := by
  refine okD (k := 4) F sc_turning rfl (fun cdv A outer s H E hr => ?_) m_turning
  exact ⟨_, (pss_cons (ps_set (i := 2) sc_turning.nd rfl (by first | exact Or.inl rfl | exact Or.inr rfl) (pe_ix (ixK (K := K) rfl) (pe_call c_states_until_settled.ok (hr.mono (by decide)) (by rfl) c_states_until_settled.g c_states_until_settled.kp c_states_until_settled.bd .nil pass0 (pa_cons (pv 0) (pa_cons (pv 1) pa_nil))) (pe_un un_neg pe_int) (fun _ _ => rfl)))
      (pss_one (ps_ret (pe_lc (own := [("person", 3)]) (by rfl) sc_turning.nd (pi_range1 (by rfl) B.range (pa_cons (pe_callB (lenK (K := K) rfl) (by rfl) B.len (by decide +kernel) (pa_cons (pv 0) pa_nil)) pa_nil)) (blkOk_by (own := [("person", 3)]) (N := n_turning) (sc := (defScope s_turning)) (by decide +kernel)) (fun _ _ _ _ _ => (pg_name (i := 3) sc_turning.nd rfl (by first | exact Or.inl rfl | exact Or.inr rfl))) (fun _ _ _ _ _ => (pts_one (pt_cmpR op_gt (pe_call c_turn_period.ok (hr.mono (by decide)) (by rfl) c_turn_period.g c_turn_period.kp c_turn_period.bd .nil pass0 (pa_cons (pv 2) (pa_cons (pv 1) (pa_cons (pv 3) pa_nil)))) pe_int (nomark _)))) (fun _ _ _ _ _ => (pv 3)))))),
    (ss_seq (ss_set false (se_op r2_ix (se_call mon_states_until_settled (sa_cons se_var (sa_cons se_var sa_nil))) (se_un ru_neg se_int)))
      (ss_ret (se_lc (si_rng1 (sa_cons (se_cb rc_len (sa_cons se_var sa_nil)) sa_nil)) sg_name (st_test (se_op r2_B (se_call mon_turn_period (sa_cons se_var (sa_cons se_var (sa_cons se_var sa_nil)))) se_int)) se_var)))⟩
abbrev s_first_time : Stmt := topS 22
abbrev n_first_time : List Str := ["state", "word", "person", "target", "along", "pointers", "reached", "more"]
theorem sc_first_time : FnScope n_first_time ["state", "word", "person", "target"] (defScope s_first_time) := ⟨rfl, rfl, rfl, by decide +kernel, rfl, by decide +kernel, by decide +kernel⟩
theorem ok_first_time {f : Addr} {fd : FuncData} (F : Fun K "first_time" "first_time" s_first_time f fd) (B : Bi mg) {f_states_until_settled : Addr} {e_states_until_settled : FuncData} (c_states_until_settled : Cal P w K mg base "states_until_settled" 4 ["state", "word"] (spD 2 p_states_until_settled) f_states_until_settled e_states_until_settled) {f_check_person : Addr} {e_check_person : FuncData} (c_check_person : Cal P w K mg base "check_person" 1 ["state", "person"] (spD 2 p_check_person) f_check_person e_check_person) {f_turn_period : Addr} {e_turn_period : FuncData} (c_turn_period : Cal P w K mg base "turn_period" 3 ["settled", "word", "person"] (spD 3 p_turn_period) f_turn_period e_turn_period) {f_pointer_later : Addr} {e_pointer_later : FuncData} (c_pointer_later : Cal P w K mg base "pointer_later" 3 ["settled", "word", "person", "more"] (spD 4 p_pointer_later) f_pointer_later e_pointer_later)    : FnOk P w K mg base CX0 5 f fd ["state", "word", "person", "target"] (spD 4 p_first_time) := by
  refine okD (k := 4) F sc_first_time rfl (fun cdv A outer s H E hr => ?_) m_first_time
  exact ⟨_, (pss_cons (ps_set (i := 4) sc_first_time.nd rfl (by first | exact Or.inl rfl | exact Or.inr rfl) (pe_call c_states_until_settled.ok (hr.mono (by decide)) (by rfl) c_states_until_settled.g c_states_until_settled.kp c_states_until_settled.bd .nil pass0 (pa_cons (pv 0) (pa_cons (pv 1) pa_nil))))
      (pss_cons (ps_expr (pe_call c_check_person.ok (hr.mono (by decide)) (by rfl) c_check_person.g c_check_person.kp c_check_person.bd .nil pass0 (pa_cons (pv 0) (pa_cons (pv 2) pa_nil))))
      (pss_cons (ps_expr (pe_call c_check_person.ok (hr.mono (by decide)) (by rfl) c_check_person.g c_check_person.kp c_check_person.bd .nil pass0 (pa_cons (pv 0) (pa_cons (pv 3) pa_nil))))
      (pss_cons (ps_setLc (i := 5) (own := [("reached", 6)]) (by rfl) sc_first_time.nd rfl rfl (sw_true rfl rfl rfl (by decide +kernel)) (seqK (K := K) rfl (pv 4)) (blkOk_by (own := [("reached", 6)]) (N := n_first_time) (sc := (defScope s_first_time)) (by decide +kernel)) (fun _ _ _ _ _ => (pg_name (i := 6) sc_first_time.nd rfl (by first | exact Or.inl rfl | exact Or.inr rfl))) (fun _ _ _ _ _ => pts_nil) (fun _ _ _ _ _ => (pe_ix (ixK (K := K) rfl) (pv 6) (pv 2) (fun _ _ => rfl))))
      (pss_cons (ps_for PassesOwn.never rfl (pi_range2 (by rfl) B.range (pa_cons pe_int (pa_cons (pe_call c_turn_period.ok (hr.mono (by decide)) (by rfl) c_turn_period.g c_turn_period.kp c_turn_period.bd .nil pass0 (pa_cons (pe_ix (ixK (K := K) rfl) (pv 4) (pe_un un_neg pe_int) (fun _ _ => rfl)) (pa_cons (pv 1) (pa_cons (pv 2) pa_nil)))) pa_nil))) (pg_name (i := 7) sc_first_time.nd rfl (by first | exact Or.inl rfl | exact Or.inr rfl)) (pss_one (ps_expr (bmK (K := K) rfl (pe_bm PySem.F.plainAttrs_list PySem.F.slot_list_append PySem.F.type_list_append mt_append (pv 5) (pa_cons (pe_call c_pointer_later.ok (hr.mono (by decide)) (by rfl) c_pointer_later.g c_pointer_later.kp c_pointer_later.bd .nil pass0 (pa_cons (pe_ix (ixK (K := K) rfl) (pv 4) (pe_un un_neg pe_int) (fun _ _ => rfl)) (pa_cons (pv 1) (pa_cons (pv 2) (pa_cons (pv 7) pa_nil))))) pa_nil))))))
      (pss_one (ps_ret (pe_ifExp (pt_cmpR (inK (K := K) rfl (hu65 hr)) (pv 3) (pv 5) (by rfl)) (indexK (K := K) rfl (pe_index (pv 5) (pa_cons (pv 3) pa_nil))) pe_non)))))))),
    (ss_seq (ss_set false (se_call mon_states_until_settled (sa_cons se_var (sa_cons se_var sa_nil))))
      (ss_seq (ss_drop (se_call mon_check_person (sa_cons se_var (sa_cons se_var sa_nil))))
      (ss_seq (ss_drop (se_call mon_check_person (sa_cons se_var (sa_cons se_var sa_nil))))
      (ss_seq (ss_set true (se_lc (si_seq se_var) sg_name st_yes (se_op r2_ix se_var se_var)))
      (ss_seq (ss_for (si_rng2 (sa_cons se_int (sa_cons (se_call mon_turn_period (sa_cons (se_op r2_ix se_var (se_un ru_neg se_int)) (sa_cons se_var (sa_cons se_var sa_nil)))) sa_nil))) sg_name (ss_append (se_call mon_pointer_later (sa_cons (se_op r2_ix se_var (se_un ru_neg se_int)) (sa_cons se_var (sa_cons se_var (sa_cons se_var sa_nil)))))))
      (ss_ret (se_if (st_test (se_op r2_in se_var se_var)) (se_index se_var se_var) se_non)))))))⟩
abbrev s_law_same : Stmt := topS 27
abbrev n_law_same : List Str := ["_law_found", "_law_due", "_law_mine", "_law_its"]
theorem sc_law_same : FnScope n_law_same ["_law_found", "_law_due"] (defScope s_law_same) := ⟨rfl, rfl, rfl, by decide +kernel, rfl, by decide +kernel, by decide +kernel⟩
theorem ok_law_same {f : Addr} {fd : FuncData} (F : Fun K "_law_same" "_law_same" s_law_same f fd) (B : Bi mg) (g : mg "_law_same" = some (.ref f)) (bd : Binds K fd ["_law_found", "_law_due"] []) : ∀ d, FnOk P w K mg base CX0 (d + 1) f fd ["_law_found", "_law_due"] (spD 2 (p_law_same_3 d))
  | 0 => fn_none (spD_none fun args c Q ⟨a, b, _, _, h, _⟩ => by unfold dep at h; cases h)
  | d + 1 => by
    have c_law_same : Cal P w K mg base "_law_same" (d + 1) ["_law_found", "_law_due"] (spD 2 (p_law_same_3 d)) f fd := ⟨ok_law_same F B g bd d, g, F.kp, bd⟩
    refine okD (k := d + 1) F sc_law_same rfl (fun cdv A outer s H E hr => ?_) m_law_same_3
    exact ⟨_, (pss_cons (ps_if (pt_truth (pe_callB (isiTK (K := K) rfl) (by rfl) B.isinstance (by decide +kernel) (pa_cons (pv 1) (pa_cons (pe_tup (pa_cons (pe_bltn (v := .ty "list") (by rfl) B.list (by decide +kernel) rfl) (pa_cons (pe_bltn (v := .ty "tuple") (by rfl) B.tuple (by decide +kernel) rfl) pa_nil))) pa_nil))) (by intro _; rfl)) (pss_cons (ps_if (PW.pt (pw_or (pt_cmpR (neK (K := K) rfl hr.units) (pe_callB (isiK (K := K) rfl) (by rfl) B.isinstance (by decide +kernel) (pa_cons (pv 0) (pa_cons (pe_bltn (v := .ty "list") (by rfl) B.list (by decide +kernel) rfl) pa_nil))) (pe_callB (isiK (K := K) rfl) (by rfl) B.isinstance (by decide +kernel) (pa_cons (pv 1) (pa_cons (pe_bltn (v := .ty "list") (by rfl) B.list (by decide +kernel) rfl) pa_nil))) (nomark _)) (pw_or1 (pt_cmpR (neK (K := K) rfl hr.units) (pe_callB (isiK (K := K) rfl) (by rfl) B.isinstance (by decide +kernel) (pa_cons (pv 0) (pa_cons (pe_bltn (v := .ty "tuple") (by rfl) B.tuple (by decide +kernel) rfl) pa_nil))) (pe_callB (isiK (K := K) rfl) (by rfl) B.isinstance (by decide +kernel) (pa_cons (pv 1) (pa_cons (pe_bltn (v := .ty "tuple") (by rfl) B.tuple (by decide +kernel) rfl) pa_nil))) (nomark _))))) (pss_one (ps_ret pe_bl)) pss_nil)
      (pss_one (ps_ret (pe_and (pe_cmpR (eqK (K := K) rfl hr.units) (pe_callB (lenK (K := K) rfl) (by rfl) B.len (by decide +kernel) (pa_cons (pv 0) pa_nil)) (pe_callB (lenK (K := K) rfl) (by rfl) B.len (by decide +kernel) (pa_cons (pv 1) pa_nil)) (nomark _)) (pe_one (pe_callB (allK (K := K) rfl rfl) (by rfl) B.all (by decide +kernel) (pa_cons (pe_lc (own := [("_law_mine", 2), ("_law_its", 3)]) (by rfl) sc_law_same.nd (zipA (K := K) rfl (by rfl) B.zip (pa_cons (pv 0) (pa_cons (pv 1) pa_nil))) (blkOk_by (own := [("_law_mine", 2), ("_law_its", 3)]) (N := n_law_same) (sc := (defScope s_law_same)) (by decide +kernel)) (fun _ _ _ _ _ => (gtupK (K := K) rfl (pg_tup rfl (pgs_cons (pg_name (i := 2) sc_law_same.nd rfl (by first | exact Or.inl rfl | exact Or.inr rfl)) (pgs_cons (pg_name (i := 3) sc_law_same.nd rfl (by first | exact Or.inl rfl | exact Or.inr rfl)) pgs_nil))))) (fun _ _ _ _ _ => pts_nil) (fun _ _ _ _ _ => (pe_call c_law_same.ok hr (by rfl) c_law_same.g c_law_same.kp c_law_same.bd .nil pass0 (pa_cons (pv 2) (pa_cons (pv 3) pa_nil))))) pa_nil))))))) pss_nil)
      (pss_cons (ps_if (PW.pt (pw_or (pt_cmpR op_isN (pv 1) pe_non (nomark _)) (pw_or1 (pt_truth (pe_callB (isiTK (K := K) rfl) (by rfl) B.isinstance (by decide +kernel) (pa_cons (pv 1) (pa_cons (pe_tup (pa_cons (pe_bltn (v := .ty "bool") (by rfl) B.bool (by decide +kernel) rfl) (pa_cons (pe_bltn (v := .ty "str") (by rfl) B.str (by decide +kernel) rfl) pa_nil))) pa_nil))) (by intro _; rfl))))) (pss_one (ps_ret (pe_and (pe_cmpR (eqK (K := K) rfl hr.units) (pv 0) (pv 1) (nomark _)) (pe_and (pe_cmpR (eqK (K := K) rfl hr.units) (pe_callB (isiK (K := K) rfl) (by rfl) B.isinstance (by decide +kernel) (pa_cons (pv 0) (pa_cons (pe_bltn (v := .ty "bool") (by rfl) B.bool (by decide +kernel) rfl) pa_nil))) (pe_callB (isiK (K := K) rfl) (by rfl) B.isinstance (by decide +kernel) (pa_cons (pv 1) (pa_cons (pe_bltn (v := .ty "bool") (by rfl) B.bool (by decide +kernel) rfl) pa_nil))) (nomark _)) (pe_one (pe_cmpR (eqK (K := K) rfl hr.units) (pe_cmpR op_isN (pv 0) pe_non (nomark _)) (pe_cmpR op_isN (pv 1) pe_non (nomark _)) (nomark _))))))) pss_nil)
      (pss_one (ps_ret (pe_and (pe_callB (isiK (K := K) rfl) (by rfl) B.isinstance (by decide +kernel) (pa_cons (pv 0) (pa_cons (pe_bltn (v := .ty "int") (by rfl) B.int (by decide +kernel) rfl) pa_nil))) (pe_and (pe_not (pe_callB (isiK (K := K) rfl) (by rfl) B.isinstance (by decide +kernel) (pa_cons (pv 0) (pa_cons (pe_bltn (v := .ty "bool") (by rfl) B.bool (by decide +kernel) rfl) pa_nil)))) (pe_one (pe_cmpR (eqK (K := K) rfl hr.units) (pv 0) (pv 1) (nomark _))))))))),
      (ss_seq (ss_if (st_truth (se_isi2 (.inr (.inr (.inr (.inl rfl)))) (.inr (.inr (.inr (.inr rfl)))) se_var)) (ss_seq (ss_if (st_or (st_test (se_op r2_ne (se_isi (.inr (.inr (.inr (.inl rfl)))) se_var) (se_isi (.inr (.inr (.inr (.inl rfl)))) se_var))) (st_test (se_op r2_ne (se_isi (.inr (.inr (.inr (.inr rfl)))) se_var) (se_isi (.inr (.inr (.inr (.inr rfl)))) se_var)))) (ss_ret se_bl) ss_next)
      (ss_ret (se_andV (se_op r2_eq (se_cb rc_len (sa_cons se_var sa_nil)) (se_cb rc_len (sa_cons se_var sa_nil))) (se_cb rc_all (sa_cons (se_lc (si_zip (sa_cons se_var (sa_cons se_var sa_nil))) (sg_tup (sgs_cons sg_name (sgs_cons sg_name sgs_nil))) st_yes (se_call (mon_law_same_3 d) (sa_cons se_var (sa_cons se_var sa_nil)))) sa_nil))))) ss_next)
      (ss_seq (ss_if (st_or (st_test (se_op r2_isN se_var se_non)) (st_truth (se_isi2 (.inr (.inl rfl)) (.inr (.inr (.inl rfl))) se_var))) (ss_ret (se_andV (se_op r2_eq se_var se_var) (se_andV (se_op r2_eq (se_isi (.inr (.inl rfl)) se_var) (se_isi (.inr (.inl rfl)) se_var)) (se_op r2_eq (se_op r2_isN se_var se_non) (se_op r2_isN se_var se_non))))) ss_next)
      (ss_ret (se_andV (se_isi (.inl rfl) se_var) (se_andV (se_notV (se_isi (.inr (.inl rfl)) se_var)) (se_op r2_eq se_var se_var))))))⟩
abbrev s_law_shuffled : Stmt := topS 28
abbrev n_law_shuffled : List Str := ["_law_source", "_law_some", "_law_left", "_law_found"]
theorem sc_law_shuffled : FnScope n_law_shuffled ["_law_source", "_law_some"] (defScope s_law_shuffled) := ⟨rfl, rfl, rfl, by decide +kernel, rfl, by decide +kernel, by decide +kernel⟩
theorem ok_law_shuffled {f : Addr} {fd : FuncData} (F : Fun K "_law_shuffled" "_law_shuffled" s_law_shuffled f fd) (B : Bi mg) {f_law_draw : Addr} {e_law_draw : FuncData} (c_law_draw : Cal P w K mg base "_law_draw" 2 ["_law_source", "_law_bound"] (spD 2 p_law_take) f_law_draw e_law_draw)    : FnOk P w K mg base CX0 3 f fd ["_law_source", "_law_some"] (spD 2 p_law_strewn_2) := by
  refine okD (k := 2) F sc_law_shuffled rfl (fun cdv A outer s H E hr => ?_) m_law_strewn_2
  exact ⟨_, (pss_cons (ps_par (i := 2) (j := 3) (by rfl) sc_law_shuffled.nd rfl rfl (by decide) rfl rfl (pa_cons (pe_callTy (listK (K := K) rfl) (by rfl) B.list (by decide +kernel) (pa_cons (pv 1) pa_nil)) (pa_cons (pe_lst pa_nil) pa_nil)) (by rfl))
      (pss_cons (ps_while PassesOwn.never (pt_cmpR (neK (K := K) rfl hr.units) (pv 2) (pe_lst pa_nil) (nomark _)) (pss_one (ps_expr (bmK (K := K) rfl (pe_bm PySem.F.plainAttrs_list PySem.F.slot_list_append PySem.F.type_list_append mt_append (pv 3) (pa_cons (bmK (K := K) rfl (pe_bm PySem.F.plainAttrs_list PySem.F.slot_list_pop PySem.F.type_list_pop mt_popAt (pv 2) (pa_cons (pe_call c_law_draw.ok (hr.mono (by decide)) (by rfl) c_law_draw.g c_law_draw.kp c_law_draw.bd .nil pass0 (pa_cons (pv 0) (pa_cons (pe_callB (lenK (K := K) rfl) (by rfl) B.len (by decide +kernel) (pa_cons (pv 2) pa_nil)) pa_nil))) pa_nil))) pa_nil))))))
      (pss_one (ps_ret (pv 3))))),
    (ss_seq (ss_par (se_cb rc_list (sa_cons se_var sa_nil)) (se_lst sa_nil))
      (ss_seq (ss_while (st_test (se_op r2_ne se_var (se_lst sa_nil))) (ss_appPop (by decide) (se_call mon_law_take (sa_cons se_var (sa_cons (se_cb rc_len (sa_cons se_var sa_nil)) sa_nil)))))
      (ss_ret se_var)))⟩
abbrev s_law_divisor : Stmt := topS 29
abbrev n_law_divisor : List Str := ["_law_one", "_law_other"]
theorem sc_law_divisor : FnScope n_law_divisor ["_law_one", "_law_other"] (defScope s_law_divisor) := ⟨rfl, rfl, rfl, by decide +kernel, rfl, by decide +kernel, by decide +kernel⟩
theorem ok_law_divisor {f : Addr} {fd : FuncData} (F : Fun K "_law_divisor" "_law_divisor" s_law_divisor f fd) (B : Bi mg)     : FnOk P w K mg base CX0 1 f fd ["_law_one", "_law_other"] (spD 2 p_law_divisor) := by
  refine okD (k := 0) F sc_law_divisor rfl (fun cdv A outer s H E hr => ?_) m_law_divisor
  exact ⟨_, (pss_cons (ps_while PassesOwn.never (pt_cmpR (neK (K := K) rfl hr.units) (pv 1) pe_int (nomark _)) (pss_one (ps_par (i := 0) (j := 1) (by rfl) sc_law_divisor.nd rfl rfl (by decide) rfl rfl (pa_cons (pv 1) (pa_cons (pe_op op_mod (pv 0) (pv 1)) pa_nil)) (by rfl))))
      (pss_one (ps_ret (pv 0)))),
    (ss_seq (ss_while (st_test (se_op r2_ne se_var se_int)) (ss_par se_var (se_op r2_C se_var se_var)))
      (ss_ret se_var))⟩
abbrev s_law_ring_right : Stmt := topS 30
abbrev n_law_ring_right : List Str := ["_law_source", "_law_size", "_law_guests", "_law_spots", "_law_turn", "_law_calls", "_law_start", "_law_spot", "_law_tape", "_law_period", "_law_guest", "_law_often", "_law_part", "_law_due", "_law_many_now", "_law_moved", "_law_aim", "_law_turns"]
theorem sc_law_ring_right : FnScope n_law_ring_right ["_law_source"] (defScope s_law_ring_right) := ⟨rfl, rfl, rfl, by decide +kernel, rfl, by decide +kernel, by decide +kernel⟩
theorem ok_law_ring_right {f : Addr} {fd : FuncData} (F : Fun K "_law_ring_right" "_law_ring_right" s_law_ring_right f fd) (B : Bi mg) {f_law_draw : Addr} {e_law_draw : FuncData} (c_law_draw : Cal P w K mg base "_law_draw" 2 ["_law_source", "_law_bound"] (spD 2 p_law_take) f_law_draw e_law_draw) {f_law_divisor : Addr} {e_law_divisor : FuncData} (c_law_divisor : Cal P w K mg base "_law_divisor" 1 ["_law_one", "_law_other"] (spD 2 p_law_divisor) f_law_divisor e_law_divisor) {f_law_shuffled : Addr} {e_law_shuffled : FuncData} (c_law_shuffled : Cal P w K mg base "_law_shuffled" 3 ["_law_source", "_law_some"] (spD 2 p_law_strewn_2) f_law_shuffled e_law_shuffled) {f_law_same : Addr} {e_law_same : FuncData} (c_law_same : Cal P w K mg base "_law_same" 4 ["_law_found", "_law_due"] (spD 2 (p_law_same_3 3)) f_law_same e_law_same) {f_settles : Addr} {e_settles : FuncData} (c_settles : Cal P w K mg base "settles" 5 ["state", "word"] (spD 2 p_settles) f_settles e_settles) {f_turning : Addr} {e_turning : FuncData} (c_turning : Cal P w K mg base "turning" 5 ["state", "word"] (spD 2 p_turning) f_turning e_turning) {f_repeated : Addr} {e_repeated : FuncData} (c_repeated : Cal P w K mg base "repeated" 5 ["state", "word", "many"] (spD 3 p_repeated) f_repeated e_repeated) {f_first_time : Addr} {e_first_time : FuncData} (c_first_time : Cal P w K mg base "first_time" 5 ["state", "word", "person", "target"] (spD 4 p_first_time) f_first_time e_first_time)    : FnOk P w K mg base CX0 6 f fd ["_law_source"] (spD 1 p_law_ring_right_3) := by
  refine okD (k := 5) F sc_law_ring_right rfl (fun cdv A outer s H E hr => ?_) m_law_ring_right_3
  exact ⟨_, (pss_cons (ps_asg (pe_tupS (pa_cons (pe_op (addK (K := K) rfl) pe_int (pe_call c_law_draw.ok (hr.mono (by decide)) (by rfl) c_law_draw.g c_law_draw.kp c_law_draw.bd .nil pass0 (pa_cons (pv 0) (pa_cons pe_int pa_nil)))) (pa_cons (pe_call c_law_draw.ok (hr.mono (by decide)) (by rfl) c_law_draw.g c_law_draw.kp c_law_draw.bd .nil pass0 (pa_cons (pv 0) (pa_cons pe_int pa_nil))) pa_nil))) (gtupK (K := K) rfl (pg_tup rfl (pgs_cons (pg_name (i := 1) sc_law_ring_right.nd rfl (by first | exact Or.inl rfl | exact Or.inr rfl)) (pgs_cons (pg_name (i := 2) sc_law_ring_right.nd rfl (by first | exact Or.inl rfl | exact Or.inr rfl)) pgs_nil)))))
      (pss_cons (ps_set (i := 3) sc_law_ring_right.nd rfl (by first | exact Or.inl rfl | exact Or.inr rfl) (pe_lc (own := [("_law_turn", 4)]) (by rfl) sc_law_ring_right.nd (pi_range1 (by rfl) B.range (pa_cons (pv 2) pa_nil)) (blkOk_by (own := [("_law_turn", 4)]) (N := n_law_ring_right) (sc := (defScope s_law_ring_right)) (by decide +kernel)) (fun _ _ _ _ _ => (pg_name (i := 4) sc_law_ring_right.nd rfl (by first | exact Or.inl rfl | exact Or.inr rfl))) (fun _ _ _ _ _ => pts_nil) (fun _ _ _ _ _ => (pe_call c_law_draw.ok (hr.mono (by decide)) (by rfl) c_law_draw.g c_law_draw.kp c_law_draw.bd .nil pass0 (pa_cons (pv 0) (pa_cons (pv 1) pa_nil))))))
      (pss_cons (ps_setLc (i := 5) (own := [("_law_turn", 4)]) (by rfl) sc_law_ring_right.nd rfl rfl (sw_true rfl rfl rfl (by decide +kernel)) (pi_range1 (by rfl) B.range (pa_cons (pv 2) pa_nil)) (blkOk_by (own := [("_law_turn", 4)]) (N := n_law_ring_right) (sc := (defScope s_law_ring_right)) (by decide +kernel)) (fun _ _ _ _ _ => (pg_name (i := 4) sc_law_ring_right.nd rfl (by first | exact Or.inl rfl | exact Or.inr rfl))) (fun _ _ _ _ _ => pts_nil) (fun _ _ _ _ _ => (pe_call c_law_draw.ok (hr.mono (by decide)) (by rfl) c_law_draw.g c_law_draw.kp c_law_draw.bd .nil pass0 (pa_cons (pv 0) (pa_cons pe_int pa_nil)))))
      (pss_cons (ps_set (i := 6) sc_law_ring_right.nd rfl (by first | exact Or.inl rfl | exact Or.inr rfl) (pe_callTy (tupleK (K := K) rfl) (by rfl) B.tuple (by decide +kernel) (pa_cons (pe_op (addK (K := K) rfl) (pe_lc (own := [("_law_spot", 7)]) (by rfl) sc_law_ring_right.nd (pi_range1 (by rfl) B.range (pa_cons (pv 1) pa_nil)) (blkOk_by (own := [("_law_spot", 7)]) (N := n_law_ring_right) (sc := (defScope s_law_ring_right)) (by decide +kernel)) (fun _ _ _ _ _ => (pg_name (i := 7) sc_law_ring_right.nd rfl (by first | exact Or.inl rfl | exact Or.inr rfl))) (fun _ _ _ _ _ => pts_nil) (fun _ _ _ _ _ => (pe_op op_mod (pe_op (addK (K := K) rfl) (pv 7) pe_int) (pv 1)))) (pv 3)) pa_nil)))
      (pss_cons (ps_par (i := 8) (j := 9) (by rfl) sc_law_ring_right.nd rfl rfl (by decide) rfl rfl (pa_cons (pe_lst pa_nil) (pa_cons pe_int pa_nil)) (by rfl))
      (pss_cons (ps_for PassesOwn.never rfl (enumA2 (K := K) rfl (by rfl) B.enumerate (pa_cons (pv 5) pa_nil)) (gtupK (K := K) rfl (pg_tup rfl (pgs_cons (pg_name (i := 10) sc_law_ring_right.nd rfl (by first | exact Or.inl rfl | exact Or.inr rfl)) (pgs_cons (pg_name (i := 11) sc_law_ring_right.nd rfl (by first | exact Or.inl rfl | exact Or.inr rfl)) pgs_nil)))) (pss_cons (ps_set (i := 8) sc_law_ring_right.nd rfl (by first | exact Or.inl rfl | exact Or.inr rfl) (pe_op (addK (K := K) rfl) (pv 8) (pe_op op_mulA (pe_lst (pa_cons (pe_op (addK (K := K) rfl) (pv 1) (pv 10)) pa_nil)) (pv 11))))
      (pss_cons (ps_set (i := 12) sc_law_ring_right.nd rfl (by first | exact Or.inl rfl | exact Or.inr rfl) (pe_op op_fdivW (pv 1) (pe_call c_law_divisor.ok (hr.mono (by decide)) (by rfl) c_law_divisor.g c_law_divisor.kp c_law_divisor.bd .nil pass0 (pa_cons (pv 1) (pa_cons (pv 11) pa_nil)))))
      (pss_one (ps_set (i := 9) sc_law_ring_right.nd rfl (by first | exact Or.inl rfl | exact Or.inr rfl) (pe_op op_fdivW (pe_op op_mulA (pv 9) (pv 12)) (pe_call c_law_divisor.ok (hr.mono (by decide)) (by rfl) c_law_divisor.g c_law_divisor.kp c_law_divisor.bd .nil pass0 (pa_cons (pv 9) (pa_cons (pv 12) pa_nil)))))))))
      (pss_cons (ps_set (i := 8) sc_law_ring_right.nd rfl (by first | exact Or.inl rfl | exact Or.inr rfl) (pe_call c_law_shuffled.ok (hr.mono (by decide)) (by rfl) c_law_shuffled.g c_law_shuffled.kp c_law_shuffled.bd .nil pass0 (pa_cons (pv 0) (pa_cons (pv 8) pa_nil))))
      (pss_cons (ps_if (pt_not (pt_truth (pe_call c_law_same.ok (hr.mono (by decide)) (by rfl) c_law_same.g c_law_same.kp c_law_same.bd .nil pass0 (pa_cons (pe_call c_settles.ok (hr.mono (by decide)) (by rfl) c_settles.g c_settles.kp c_settles.bd .nil pass0 (pa_cons (pv 6) (pa_cons (pv 8) pa_nil))) (pa_cons (pe_tupS (pa_cons pe_int (pa_cons (pv 9) pa_nil))) pa_nil))) (by intro _; rfl))) (pss_one (ps_ret pe_bl)) pss_nil)
      (pss_cons (ps_setLc (i := 13) (own := [("_law_guest", 10), ("_law_often", 11)]) (by rfl) sc_law_ring_right.nd rfl rfl (sw_true rfl rfl rfl (by decide +kernel)) (enumA2 (K := K) rfl (by rfl) B.enumerate (pa_cons (pv 5) pa_nil)) (blkOk_by (own := [("_law_guest", 10), ("_law_often", 11)]) (N := n_law_ring_right) (sc := (defScope s_law_ring_right)) (by decide +kernel)) (fun _ _ _ _ _ => (gtupK (K := K) rfl (pg_tup rfl (pgs_cons (pg_name (i := 10) sc_law_ring_right.nd rfl (by first | exact Or.inl rfl | exact Or.inr rfl)) (pgs_cons (pg_name (i := 11) sc_law_ring_right.nd rfl (by first | exact Or.inl rfl | exact Or.inr rfl)) pgs_nil))))) (fun _ _ _ _ _ => (pts_one (pt_cmpR (neK (K := K) rfl hr.units) (pe_op op_mod (pv 11) (pv 1)) pe_int (nomark _)))) (fun _ _ _ _ _ => (pe_op (addK (K := K) rfl) (pv 1) (pv 10))))
      (pss_cons (ps_if (pt_not (pt_truth (pe_call c_law_same.ok (hr.mono (by decide)) (by rfl) c_law_same.g c_law_same.kp c_law_same.bd .nil pass0 (pa_cons (pe_call c_turning.ok (hr.mono (by decide)) (by rfl) c_turning.g c_turning.kp c_turning.bd .nil pass0 (pa_cons (pv 6) (pa_cons (pv 8) pa_nil))) (pa_cons (pv 13) pa_nil))) (by intro _; rfl))) (pss_one (ps_ret pe_bl)) pss_nil)
      (pss_cons (ps_for PassesOwn.never rfl (seqK (K := K) rfl (pe_tupS (pa_cons pe_int (pa_cons pe_int (pa_cons (pe_call c_law_draw.ok (hr.mono (by decide)) (by rfl) c_law_draw.g c_law_draw.kp c_law_draw.bd .nil pass0 (pa_cons (pv 0) (pa_cons pe_int pa_nil))) (pa_cons (pe_call c_law_draw.ok (hr.mono (by decide)) (by rfl) c_law_draw.g c_law_draw.kp c_law_draw.bd .nil pass0 (pa_cons (pv 0) (pa_cons (pe_op op_pow pe_int pe_int) pa_nil))) (pa_cons (pe_op op_pow pe_int pe_int) pa_nil))))))) (pg_name (i := 14) sc_law_ring_right.nd rfl (by first | exact Or.inl rfl | exact Or.inr rfl)) (pss_cons (ps_setLc (i := 15) (own := [("_law_spot", 7), ("_law_often", 11)]) (by rfl) sc_law_ring_right.nd rfl rfl (sw_true rfl rfl rfl (by decide +kernel)) (zipA (K := K) rfl (by rfl) B.zip (pa_cons (pv 3) (pa_cons (pv 5) pa_nil))) (blkOk_by (own := [("_law_spot", 7), ("_law_often", 11)]) (N := n_law_ring_right) (sc := (defScope s_law_ring_right)) (by decide +kernel)) (fun _ _ _ _ _ => (gtupK (K := K) rfl (pg_tup rfl (pgs_cons (pg_name (i := 7) sc_law_ring_right.nd rfl (by first | exact Or.inl rfl | exact Or.inr rfl)) (pgs_cons (pg_name (i := 11) sc_law_ring_right.nd rfl (by first | exact Or.inl rfl | exact Or.inr rfl)) pgs_nil))))) (fun _ _ _ _ _ => pts_nil) (fun _ _ _ _ _ => (pe_op op_mod (pe_op (addK (K := K) rfl) (pv 7) (pe_op op_mulA (pv 11) (pv 14))) (pv 1))))
      (pss_one (ps_if (pt_not (pt_truth (pe_call c_law_same.ok (hr.mono (by decide)) (by rfl) c_law_same.g c_law_same.kp c_law_same.bd .nil pass0 (pa_cons (pe_call c_repeated.ok (hr.mono (by decide)) (by rfl) c_repeated.g c_repeated.kp c_repeated.bd .nil pass0 (pa_cons (pv 6) (pa_cons (pv 8) (pa_cons (pv 14) pa_nil)))) (pa_cons (pe_op (addK (K := K) rfl) (pe_slice (slK (K := K) rfl) (pv 6) po_none (po_some (pv 1))) (pe_callTy (tupleK (K := K) rfl) (by rfl) B.tuple (by decide +kernel) (pa_cons (pv 15) pa_nil))) pa_nil))) (by intro _; rfl))) (pss_one (ps_ret pe_bl)) pss_nil))))
      (pss_cons (ps_for PassesOwn.never rfl (enumA2 (K := K) rfl (by rfl) B.enumerate (pa_cons (pe_slice (slK (K := K) rfl) (pv 5) po_none (po_some pe_int)) pa_nil)) (gtupK (K := K) rfl (pg_tup rfl (pgs_cons (pg_name (i := 10) sc_law_ring_right.nd rfl (by first | exact Or.inl rfl | exact Or.inr rfl)) (pgs_cons (pg_name (i := 11) sc_law_ring_right.nd rfl (by first | exact Or.inl rfl | exact Or.inr rfl)) pgs_nil)))) (pss_cons (ps_set (i := 16) sc_law_ring_right.nd rfl (by first | exact Or.inl rfl | exact Or.inr rfl) (pe_call c_law_draw.ok (hr.mono (by decide)) (by rfl) c_law_draw.g c_law_draw.kp c_law_draw.bd .nil pass0 (pa_cons (pv 0) (pa_cons (pv 1) pa_nil))))
      (pss_cons (ps_setLc (i := 17) (own := [("_law_turn", 4)]) (by rfl) sc_law_ring_right.nd rfl rfl (sw_true rfl rfl rfl (by decide +kernel)) (pi_range1 (by rfl) B.range (pa_cons (pv 1) pa_nil)) (blkOk_by (own := [("_law_turn", 4)]) (N := n_law_ring_right) (sc := (defScope s_law_ring_right)) (by decide +kernel)) (fun _ _ _ _ _ => (pg_name (i := 4) sc_law_ring_right.nd rfl (by first | exact Or.inl rfl | exact Or.inr rfl))) (fun _ _ _ _ _ => (pts_one (pt_cmpR (eqK (K := K) rfl hr.units) (pe_op op_mod (pe_op (addK (K := K) rfl) (pe_ix (ixK (K := K) rfl) (pv 3) (pv 10) (fun _ _ => rfl)) (pe_op op_mulA (pv 11) (pv 4))) (pv 1)) (pv 16) (nomark _)))) (fun _ _ _ _ _ => (pv 4)))
      (pss_one (ps_if (pt_not (pt_truth (pe_call c_law_same.ok (hr.mono (by decide)) (by rfl) c_law_same.g c_law_same.kp c_law_same.bd .nil pass0 (pa_cons (pe_call c_first_time.ok (hr.mono (by decide)) (by rfl) c_first_time.g c_first_time.kp c_first_time.bd .nil pass0 (pa_cons (pv 6) (pa_cons (pv 8) (pa_cons (pe_op (addK (K := K) rfl) (pv 1) (pv 10)) (pa_cons (pv 16) pa_nil))))) (pa_cons (pe_ifExp (pt_cmpR (neK (K := K) rfl hr.units) (pv 17) (pe_lst pa_nil) (nomark _)) (pe_ix (ixK (K := K) rfl) (pv 17) pe_int (fun _ _ => rfl)) pe_non) pa_nil))) (by intro _; rfl))) (pss_one (ps_ret pe_bl)) pss_nil)))))
      (pss_one (ps_ret (pe_call c_law_same.ok (hr.mono (by decide)) (by rfl) c_law_same.g c_law_same.kp c_law_same.bd .nil pass0 (pa_cons (pe_call c_first_time.ok (hr.mono (by decide)) (by rfl) c_first_time.g c_first_time.kp c_first_time.bd .nil pass0 (pa_cons (pv 6) (pa_cons (pv 8) (pa_cons pe_int (pa_cons (pe_op op_mod pe_int (pv 1)) pa_nil))))) (pa_cons pe_int pa_nil))))))))))))))))),
    (ss_seq (ss_parT (se_op r2_add se_int (se_call mon_law_take (sa_cons se_var (sa_cons se_int sa_nil)))) (se_call mon_law_take (sa_cons se_var (sa_cons se_int sa_nil))))
      (ss_seq (ss_set false (se_lc (si_rng1 (sa_cons se_var sa_nil)) sg_name st_yes (se_call mon_law_take (sa_cons se_var (sa_cons se_var sa_nil)))))
      (ss_seq (ss_set false (se_lc (si_rng1 (sa_cons se_var sa_nil)) sg_name st_yes (se_call mon_law_take (sa_cons se_var (sa_cons se_int sa_nil)))))
      (ss_seq (ss_set false (se_cb rc_tuple (sa_cons (se_op r2_add (se_lc (si_rng1 (sa_cons se_var sa_nil)) sg_name st_yes (se_op r2_C (se_op r2_add se_var se_int) se_var)) se_var) sa_nil)))
      (ss_seq (ss_par (se_lst sa_nil) se_int)
      (ss_seq (ss_for (si_enA (sa_cons se_var sa_nil)) (sg_tup (sgs_cons sg_name (sgs_cons sg_name sgs_nil))) (ss_seq (ss_set false (se_op r2_add se_var (se_op r2_mul (se_lst (sa_cons (se_op r2_add se_var se_var) sa_nil)) se_var)))
      (ss_seq (ss_set false (se_op r2_C se_var (se_call mon_law_divisor (sa_cons se_var (sa_cons se_var sa_nil)))))
      (ss_set false (se_op r2_C (se_op r2_mul se_var se_var) (se_call mon_law_divisor (sa_cons se_var (sa_cons se_var sa_nil))))))))
      (ss_seq (ss_set false (se_call mon_law_strewn_2 (sa_cons se_var (sa_cons se_var sa_nil))))
      (ss_seq (ss_if (st_not (st_truth (se_call (mon_law_same_3 3) (sa_cons (se_call mon_settles (sa_cons se_var (sa_cons se_var sa_nil))) (sa_cons (se_tup (sa_cons se_int (sa_cons se_var sa_nil))) sa_nil))))) (ss_ret se_bl) ss_next)
      (ss_seq (ss_set false (se_lc (si_enA (sa_cons se_var sa_nil)) (sg_tup (sgs_cons sg_name (sgs_cons sg_name sgs_nil))) (st_test (se_op r2_ne (se_op r2_C se_var se_var) se_int)) (se_op r2_add se_var se_var)))
      (ss_seq (ss_if (st_not (st_truth (se_call (mon_law_same_3 3) (sa_cons (se_call mon_turning (sa_cons se_var (sa_cons se_var sa_nil))) (sa_cons se_var sa_nil))))) (ss_ret se_bl) ss_next)
      (ss_seq (ss_for (si_seq (se_tup (sa_cons se_int (sa_cons se_int (sa_cons (se_call mon_law_take (sa_cons se_var (sa_cons se_int sa_nil))) (sa_cons (se_call mon_law_take (sa_cons se_var (sa_cons (se_op r2_C se_int se_int) sa_nil))) (sa_cons (se_op r2_C se_int se_int) sa_nil))))))) sg_name (ss_seq (ss_set false (se_lc (si_zip (sa_cons se_var (sa_cons se_var sa_nil))) (sg_tup (sgs_cons sg_name (sgs_cons sg_name sgs_nil))) st_yes (se_op r2_C (se_op r2_add se_var (se_op r2_mul se_var se_var)) se_var)))
      (ss_if (st_not (st_truth (se_call (mon_law_same_3 3) (sa_cons (se_call mon_repeated (sa_cons se_var (sa_cons se_var (sa_cons se_var sa_nil)))) (sa_cons (se_op r2_add (se_sl rs_sl se_var so_none (so_some se_var)) (se_cb rc_tuple (sa_cons se_var sa_nil))) sa_nil))))) (ss_ret se_bl) ss_next)))
      (ss_seq (ss_for (si_enA (sa_cons (se_sl rs_sl se_var so_none (so_some se_int)) sa_nil)) (sg_tup (sgs_cons sg_name (sgs_cons sg_name sgs_nil))) (ss_seq (ss_set false (se_call mon_law_take (sa_cons se_var (sa_cons se_var sa_nil))))
      (ss_seq (ss_set false (se_lc (si_rng1 (sa_cons se_var sa_nil)) sg_name (st_test (se_op r2_eq (se_op r2_C (se_op r2_add (se_op r2_ix se_var se_var) (se_op r2_mul se_var se_var)) se_var) se_var)) se_var))
      (ss_if (st_not (st_truth (se_call (mon_law_same_3 3) (sa_cons (se_call mon_first_time (sa_cons se_var (sa_cons se_var (sa_cons (se_op r2_add se_var se_var) (sa_cons se_var sa_nil))))) (sa_cons (se_if (st_test (se_op r2_ne se_var (se_lst sa_nil))) (se_op r2_ix se_var se_int) se_non) sa_nil))))) (ss_ret se_bl) ss_next))))
      (ss_ret (se_call (mon_law_same_3 3) (sa_cons (se_call mon_first_time (sa_cons se_var (sa_cons se_var (sa_cons se_int (sa_cons (se_op r2_C se_int se_var) sa_nil))))) (sa_cons se_int sa_nil))))))))))))))))⟩
abbrev s_law_line_right : Stmt := topS 31
abbrev n_law_line_right : List Str := ["_law_source", "_law_size", "_law_often", "_law_start", "_law_spot", "_law_tape", "_law_last", "_law_begin", "_law_turn", "_law_due"]
theorem sc_law_line_right : FnScope n_law_line_right ["_law_source"] (defScope s_law_line_right) := ⟨rfl, rfl, rfl, by decide +kernel, rfl, by decide +kernel, by decide +kernel⟩
theorem ok_law_line_right {f : Addr} {fd : FuncData} (F : Fun K "_law_line_right" "_law_line_right" s_law_line_right f fd) (B : Bi mg) {f_law_draw : Addr} {e_law_draw : FuncData} (c_law_draw : Cal P w K mg base "_law_draw" 2 ["_law_source", "_law_bound"] (spD 2 p_law_take) f_law_draw e_law_draw) {f_law_same : Addr} {e_law_same : FuncData} (c_law_same : Cal P w K mg base "_law_same" 4 ["_law_found", "_law_due"] (spD 2 (p_law_same_3 3)) f_law_same e_law_same) {f_turning : Addr} {e_turning : FuncData} (c_turning : Cal P w K mg base "turning" 5 ["state", "word"] (spD 2 p_turning) f_turning e_turning) {f_settles : Addr} {e_settles : FuncData} (c_settles : Cal P w K mg base "settles" 5 ["state", "word"] (spD 2 p_settles) f_settles e_settles) {f_repeated : Addr} {e_repeated : FuncData} (c_repeated : Cal P w K mg base "repeated" 5 ["state", "word", "many"] (spD 3 p_repeated) f_repeated e_repeated) {f_first_time : Addr} {e_first_time : FuncData} (c_first_time : Cal P w K mg base "first_time" 5 ["state", "word", "person", "target"] (spD 4 p_first_time) f_first_time e_first_time)    : FnOk P w K mg base CX0 6 f fd ["_law_source"] (spD 1 p_law_line_right_3) := by
  refine okD (k := 5) F sc_law_line_right rfl (fun cdv A outer s H E hr => ?_) m_law_line_right_3
  exact ⟨_, (pss_cons (ps_par (i := 1) (j := 2) (by rfl) sc_law_line_right.nd rfl rfl (by decide) rfl rfl (pa_cons (pe_op (addK (K := K) rfl) pe_int (pe_call c_law_draw.ok (hr.mono (by decide)) (by rfl) c_law_draw.g c_law_draw.kp c_law_draw.bd .nil pass0 (pa_cons (pv 0) (pa_cons pe_int pa_nil)))) (pa_cons (pe_op (addK (K := K) rfl) pe_int (pe_call c_law_draw.ok (hr.mono (by decide)) (by rfl) c_law_draw.g c_law_draw.kp c_law_draw.bd .nil pass0 (pa_cons (pv 0) (pa_cons pe_int pa_nil)))) pa_nil)) (by rfl))
      (pss_cons (ps_set (i := 3) sc_law_line_right.nd rfl (by first | exact Or.inl rfl | exact Or.inr rfl) (pe_callTy (tupleK (K := K) rfl) (by rfl) B.tuple (by decide +kernel) (pa_cons (pe_lc (own := [("_law_spot", 4)]) (by rfl) sc_law_line_right.nd (pi_range1 (by rfl) B.range (pa_cons (pv 1) pa_nil)) (blkOk_by (own := [("_law_spot", 4)]) (N := n_law_line_right) (sc := (defScope s_law_line_right)) (by decide +kernel)) (fun _ _ _ _ _ => (pg_name (i := 4) sc_law_line_right.nd rfl (by first | exact Or.inl rfl | exact Or.inr rfl))) (fun _ _ _ _ _ => pts_nil) (fun _ _ _ _ _ => (pe_callB (call_max2 rfl) (by rfl) B.max (by decide +kernel) (pa_cons pe_int (pa_cons (pe_op op_sub (pv 4) pe_int) pa_nil))))) pa_nil)))
      (pss_cons (ps_par (i := 5) (j := 6) (by rfl) sc_law_line_right.nd rfl rfl (by decide) rfl rfl (pa_cons (pe_op op_mulA (pe_lst (pa_cons (pe_op op_sub (pv 1) pe_int) pa_nil)) (pv 2)) (pa_cons (pe_op op_sub (pv 1) pe_int) pa_nil)) (by rfl))
      (pss_cons (ps_set (i := 7) sc_law_line_right.nd rfl (by first | exact Or.inl rfl | exact Or.inr rfl) (pe_op op_fdivW (pe_op op_sub (pe_op (addK (K := K) rfl) (pe_op op_sub (pv 1) pe_int) (pv 2)) pe_int) (pv 2)))
      (pss_cons (ps_if (pt_not (pt_truth (pe_call c_law_same.ok (hr.mono (by decide)) (by rfl) c_law_same.g c_law_same.kp c_law_same.bd .nil pass0 (pa_cons (pe_lst (pa_cons (pe_call c_settles.ok (hr.mono (by decide)) (by rfl) c_settles.g c_settles.kp c_settles.bd .nil pass0 (pa_cons (pv 3) (pa_cons (pv 5) pa_nil))) (pa_cons (pe_call c_turning.ok (hr.mono (by decide)) (by rfl) c_turning.g c_turning.kp c_turning.bd .nil pass0 (pa_cons (pv 3) (pa_cons (pv 5) pa_nil))) pa_nil))) (pa_cons (pe_lst (pa_cons (pe_tupS (pa_cons (pv 7) (pa_cons pe_int pa_nil))) (pa_cons (pe_lst pa_nil) pa_nil))) pa_nil))) (by intro _; rfl))) (pss_one (ps_ret pe_bl)) pss_nil)
      (pss_cons (ps_for PassesOwn.never rfl (pi_range2 (by rfl) B.range (pa_cons pe_int (pa_cons (pe_op (addK (K := K) rfl) (pv 7) pe_int) pa_nil))) (pg_name (i := 8) sc_law_line_right.nd rfl (by first | exact Or.inl rfl | exact Or.inr rfl)) (pss_cons (ps_set (i := 9) sc_law_line_right.nd rfl (by first | exact Or.inl rfl | exact Or.inr rfl) (pe_op (addK (K := K) rfl) (pe_slice (slK (K := K) rfl) (pv 3) po_none (po_some (pv 6))) (pe_tupS (pa_cons (pe_callB (call_max2 rfl) (by rfl) B.max (by decide +kernel) (pa_cons pe_int (pa_cons (pe_op op_sub (pe_op op_sub (pv 1) pe_int) (pe_op op_mulA (pv 2) (pv 8))) pa_nil))) pa_nil))))
      (pss_one (ps_if (pt_not (pt_truth (pe_call c_law_same.ok (hr.mono (by decide)) (by rfl) c_law_same.g c_law_same.kp c_law_same.bd .nil pass0 (pa_cons (pe_call c_repeated.ok (hr.mono (by decide)) (by rfl) c_repeated.g c_repeated.kp c_repeated.bd .nil pass0 (pa_cons (pv 3) (pa_cons (pv 5) (pa_cons (pv 8) pa_nil)))) (pa_cons (pv 9) pa_nil))) (by intro _; rfl))) (pss_one (ps_ret pe_bl)) pss_nil))))
      (pss_one (ps_ret (pe_call c_law_same.ok (hr.mono (by decide)) (by rfl) c_law_same.g c_law_same.kp c_law_same.bd .nil pass0 (pa_cons (pe_call c_first_time.ok (hr.mono (by decide)) (by rfl) c_first_time.g c_first_time.kp c_first_time.bd .nil pass0 (pa_cons (pv 3) (pa_cons (pv 5) (pa_cons (pv 6) (pa_cons pe_int pa_nil))))) (pa_cons (pv 7) pa_nil))))))))))),
    (ss_seq (ss_par (se_op r2_add se_int (se_call mon_law_take (sa_cons se_var (sa_cons se_int sa_nil)))) (se_op r2_add se_int (se_call mon_law_take (sa_cons se_var (sa_cons se_int sa_nil)))))
      (ss_seq (ss_set false (se_cb rc_tuple (sa_cons (se_lc (si_rng1 (sa_cons se_var sa_nil)) sg_name st_yes (se_cb rc_max (sa_cons se_int (sa_cons (se_op r2_I se_var se_int) sa_nil)))) sa_nil)))
      (ss_seq (ss_par (se_op r2_mul (se_lst (sa_cons (se_op r2_I se_var se_int) sa_nil)) se_var) (se_op r2_I se_var se_int))
      (ss_seq (ss_set false (se_op r2_C (se_op r2_I (se_op r2_add (se_op r2_I se_var se_int) se_var) se_int) se_var))
      (ss_seq (ss_if (st_not (st_truth (se_call (mon_law_same_3 3) (sa_cons (se_lst (sa_cons (se_call mon_settles (sa_cons se_var (sa_cons se_var sa_nil))) (sa_cons (se_call mon_turning (sa_cons se_var (sa_cons se_var sa_nil))) sa_nil))) (sa_cons (se_lst (sa_cons (se_tup (sa_cons se_var (sa_cons se_int sa_nil))) (sa_cons (se_lst sa_nil) sa_nil))) sa_nil))))) (ss_ret se_bl) ss_next)
      (ss_seq (ss_for (si_rng2 (sa_cons se_int (sa_cons (se_op r2_add se_var se_int) sa_nil))) sg_name (ss_seq (ss_set false (se_op r2_add (se_sl rs_sl se_var so_none (so_some se_var)) (se_tup (sa_cons (se_cb rc_max (sa_cons se_int (sa_cons (se_op r2_I (se_op r2_I se_var se_int) (se_op r2_mul se_var se_var)) sa_nil))) sa_nil))))
      (ss_if (st_not (st_truth (se_call (mon_law_same_3 3) (sa_cons (se_call mon_repeated (sa_cons se_var (sa_cons se_var (sa_cons se_var sa_nil)))) (sa_cons se_var sa_nil))))) (ss_ret se_bl) ss_next)))
      (ss_ret (se_call (mon_law_same_3 3) (sa_cons (se_call mon_first_time (sa_cons se_var (sa_cons se_var (sa_cons se_var (sa_cons se_int sa_nil))))) (sa_cons se_var sa_nil))))))))))⟩
abbrev s_law_rings_right : Stmt := topS 32
abbrev n_law_rings_right : List Str := ["_law_source", "_law_sizes", "_law_start", "_law_tape", "_law_calls", "_law_period", "_law_whole", "_law_at", "_law_size", "_law_first", "_law_spot", "_law_firsts", "_law_state_now", "_law_often", "_law_moved"]
theorem sc_law_rings_right : FnScope n_law_rings_right ["_law_source"] (defScope s_law_rings_right) := ⟨rfl, rfl, rfl, by decide +kernel, rfl, by decide +kernel, by decide +kernel⟩
theorem ok_law_rings_right {f : Addr} {fd : FuncData} (F : Fun K "_law_rings_right" "_law_rings_right" s_law_rings_right f fd) (B : Bi mg) {f_law_shuffled : Addr} {e_law_shuffled : FuncData} (c_law_shuffled : Cal P w K mg base "_law_shuffled" 3 ["_law_source", "_law_some"] (spD 2 p_law_strewn_2) f_law_shuffled e_law_shuffled) {f_law_draw : Addr} {e_law_draw : FuncData} (c_law_draw : Cal P w K mg base "_law_draw" 2 ["_law_source", "_law_bound"] (spD 2 p_law_take) f_law_draw e_law_draw) {f_law_same : Addr} {e_law_same : FuncData} (c_law_same : Cal P w K mg base "_law_same" 4 ["_law_found", "_law_due"] (spD 2 (p_law_same_3 3)) f_law_same e_law_same) {f_settles : Addr} {e_settles : FuncData} (c_settles : Cal P w K mg base "settles" 5 ["state", "word"] (spD 2 p_settles) f_settles e_settles) {f_turning : Addr} {e_turning : FuncData} (c_turning : Cal P w K mg base "turning" 5 ["state", "word"] (spD 2 p_turning) f_turning e_turning) {f_repeated : Addr} {e_repeated : FuncData} (c_repeated : Cal P w K mg base "repeated" 5 ["state", "word", "many"] (spD 3 p_repeated) f_repeated e_repeated)    : FnOk P w K mg base CX0 6 f fd ["_law_source"] (spD 1 p_law_rings_right) := by
  refine okD (k := 5) F sc_law_rings_right rfl (fun cdv A outer s H E hr => ?_) m_law_rings_right
  exact ⟨_, (pss_cons (ps_set (i := 1) sc_law_rings_right.nd rfl (by first | exact Or.inl rfl | exact Or.inr rfl) (pe_slice (slK (K := K) rfl) (pe_call c_law_shuffled.ok (hr.mono (by decide)) (by rfl) c_law_shuffled.g c_law_shuffled.kp c_law_shuffled.bd .nil pass0 (pa_cons (pv 0) (pa_cons (pe_lst (pa_cons pe_int (pa_cons pe_int (pa_cons pe_int (pa_cons pe_int (pa_cons pe_int pa_nil)))))) pa_nil))) po_none (po_some (pe_op (addK (K := K) rfl) pe_int (pe_call c_law_draw.ok (hr.mono (by decide)) (by rfl) c_law_draw.g c_law_draw.kp c_law_draw.bd .nil pass0 (pa_cons (pv 0) (pa_cons pe_int pa_nil)))))))
      (pss_cons (ps_set (i := 1) sc_law_rings_right.nd rfl (by first | exact Or.inl rfl | exact Or.inr rfl) (pe_ifExp (pt_cmpR (eqK (K := K) rfl hr.units) (pe_call c_law_draw.ok (hr.mono (by decide)) (by rfl) c_law_draw.g c_law_draw.kp c_law_draw.bd .nil pass0 (pa_cons (pv 0) (pa_cons pe_int pa_nil))) pe_int (nomark _)) (pv 1) (pe_lst (pa_cons pe_int (pa_cons pe_int (pa_cons pe_int (pa_cons pe_int (pa_cons pe_int pa_nil))))))))
      (pss_cons (ps_asg (pe_tupS (pa_cons (pe_lst pa_nil) (pa_cons (pe_lst pa_nil) (pa_cons (pe_lst pa_nil) (pa_cons pe_int (pa_cons (pe_callB (sumK (K := K) rfl rfl) (by rfl) B.sum (by decide +kernel) (pa_cons (pv 1) pa_nil)) pa_nil)))))) (gtupK (K := K) rfl (pg_tup rfl (pgs_cons (pg_name (i := 2) sc_law_rings_right.nd rfl (by first | exact Or.inl rfl | exact Or.inr rfl)) (pgs_cons (pg_name (i := 3) sc_law_rings_right.nd rfl (by first | exact Or.inl rfl | exact Or.inr rfl)) (pgs_cons (pg_name (i := 4) sc_law_rings_right.nd rfl (by first | exact Or.inl rfl | exact Or.inr rfl)) (pgs_cons (pg_name (i := 5) sc_law_rings_right.nd rfl (by first | exact Or.inl rfl | exact Or.inr rfl)) (pgs_cons (pg_name (i := 6) sc_law_rings_right.nd rfl (by first | exact Or.inl rfl | exact Or.inr rfl)) pgs_nil))))))))
      (pss_cons (ps_for PassesOwn.never rfl (enumA2 (K := K) rfl (by rfl) B.enumerate (pa_cons (pv 1) pa_nil)) (gtupK (K := K) rfl (pg_tup rfl (pgs_cons (pg_name (i := 7) sc_law_rings_right.nd rfl (by first | exact Or.inl rfl | exact Or.inr rfl)) (pgs_cons (pg_name (i := 8) sc_law_rings_right.nd rfl (by first | exact Or.inl rfl | exact Or.inr rfl)) pgs_nil)))) (pss_cons (ps_set (i := 9) sc_law_rings_right.nd rfl (by first | exact Or.inl rfl | exact Or.inr rfl) (pe_callB (lenK (K := K) rfl) (by rfl) B.len (by decide +kernel) (pa_cons (pv 2) pa_nil)))
      (pss_cons (ps_set (i := 2) sc_law_rings_right.nd rfl (by first | exact Or.inl rfl | exact Or.inr rfl) (pe_op (addK (K := K) rfl) (pv 2) (pe_lc (own := [("_law_spot", 10)]) (by rfl) sc_law_rings_right.nd (pi_range1 (by rfl) B.range (pa_cons (pv 8) pa_nil)) (blkOk_by (own := [("_law_spot", 10)]) (N := n_law_rings_right) (sc := (defScope s_law_rings_right)) (by decide +kernel)) (fun _ _ _ _ _ => (pg_name (i := 10) sc_law_rings_right.nd rfl (by first | exact Or.inl rfl | exact Or.inr rfl))) (fun _ _ _ _ _ => pts_nil) (fun _ _ _ _ _ => (pe_op (addK (K := K) rfl) (pv 9) (pe_op op_mod (pe_op (addK (K := K) rfl) (pv 10) pe_int) (pv 8)))))))
      (pss_cons (ps_expr (bmK (K := K) rfl (pe_bm PySem.F.plainAttrs_list PySem.F.slot_list_append PySem.F.type_list_append mt_append (pv 4) (pa_cons (pe_op (addK (K := K) rfl) pe_int (pe_call c_law_draw.ok (hr.mono (by decide)) (by rfl) c_law_draw.g c_law_draw.kp c_law_draw.bd .nil pass0 (pa_cons (pv 0) (pa_cons (pe_op op_sub (pv 8) pe_int) pa_nil)))) pa_nil))))
      (pss_one (ps_par (i := 3) (j := 5) (by rfl) sc_law_rings_right.nd rfl rfl (by decide) rfl rfl (pa_cons (pe_op (addK (K := K) rfl) (pv 3) (pe_op op_mulA (pe_lst (pa_cons (pe_op (addK (K := K) rfl) (pv 6) (pv 7)) pa_nil)) (pe_ix (ixK (K := K) rfl) (pv 4) (pv 7) (fun _ _ => rfl)))) (pa_cons (pe_op op_mulA (pv 5) (pv 8)) pa_nil)) (by rfl)))))))
      (pss_cons (ps_setLc (i := 11) (own := [("_law_at", 7)]) (by rfl) sc_law_rings_right.nd rfl rfl (sw_true rfl rfl rfl (by decide +kernel)) (pi_range1 (by rfl) B.range (pa_cons (pe_callB (lenK (K := K) rfl) (by rfl) B.len (by decide +kernel) (pa_cons (pv 1) pa_nil)) pa_nil)) (blkOk_by (own := [("_law_at", 7)]) (N := n_law_rings_right) (sc := (defScope s_law_rings_right)) (by decide +kernel)) (fun _ _ _ _ _ => (pg_name (i := 7) sc_law_rings_right.nd rfl (by first | exact Or.inl rfl | exact Or.inr rfl))) (fun _ _ _ _ _ => pts_nil) (fun _ _ _ _ _ => (pe_callB (sumK (K := K) rfl rfl) (by rfl) B.sum (by decide +kernel) (pa_cons (pe_slice (slK (K := K) rfl) (pv 1) po_none (po_some (pv 7))) pa_nil))))
      (pss_cons (ps_set (i := 12) sc_law_rings_right.nd rfl (by first | exact Or.inl rfl | exact Or.inr rfl) (pe_callTy (tupleK (K := K) rfl) (by rfl) B.tuple (by decide +kernel) (pa_cons (pe_op (addK (K := K) rfl) (pv 2) (pv 11)) pa_nil)))
      (pss_cons (ps_set (i := 3) sc_law_rings_right.nd rfl (by first | exact Or.inl rfl | exact Or.inr rfl) (pe_call c_law_shuffled.ok (hr.mono (by decide)) (by rfl) c_law_shuffled.g c_law_shuffled.kp c_law_shuffled.bd .nil pass0 (pa_cons (pv 0) (pa_cons (pv 3) pa_nil))))
      (pss_cons (ps_if (pt_not (pt_truth (pe_call c_law_same.ok (hr.mono (by decide)) (by rfl) c_law_same.g c_law_same.kp c_law_same.bd .nil pass0 (pa_cons (pe_call c_settles.ok (hr.mono (by decide)) (by rfl) c_settles.g c_settles.kp c_settles.bd .nil pass0 (pa_cons (pv 12) (pa_cons (pv 3) pa_nil))) (pa_cons (pe_tupS (pa_cons pe_int (pa_cons (pv 5) pa_nil))) pa_nil))) (by intro _; rfl))) (pss_one (ps_ret pe_bl)) pss_nil)
      (pss_cons (ps_if (pt_not (pt_truth (pe_call c_law_same.ok (hr.mono (by decide)) (by rfl) c_law_same.g c_law_same.kp c_law_same.bd .nil pass0 (pa_cons (pe_call c_turning.ok (hr.mono (by decide)) (by rfl) c_turning.g c_turning.kp c_turning.bd .nil pass0 (pa_cons (pv 12) (pa_cons (pv 3) pa_nil))) (pa_cons (pe_listRg rfl (by rfl) B.list (prg_2 (by rfl) B.range (pv 6) (pe_op (addK (K := K) rfl) (pv 6) (pe_callB (lenK (K := K) rfl) (by rfl) B.len (by decide +kernel) (pa_cons (pv 1) pa_nil))))) pa_nil))) (by intro _; rfl))) (pss_one (ps_ret pe_bl)) pss_nil)
      (pss_cons (ps_for PassesOwn.never rfl (seqK (K := K) rfl (pe_tupS (pa_cons (pe_op op_sub (pv 5) pe_int) (pa_cons (pv 5) (pa_cons (pe_op (addK (K := K) rfl) (pv 5) pe_int) (pa_cons (pe_op op_pow pe_int pe_int) (pa_cons (pe_call c_law_draw.ok (hr.mono (by decide)) (by rfl) c_law_draw.g c_law_draw.kp c_law_draw.bd .nil pass0 (pa_cons (pv 0) (pa_cons (pe_op op_pow pe_int pe_int) pa_nil))) (pa_cons (pe_call c_law_draw.ok (hr.mono (by decide)) (by rfl) c_law_draw.g c_law_draw.kp c_law_draw.bd .nil pass0 (pa_cons (pv 0) (pa_cons pe_int pa_nil))) pa_nil)))))))) (pg_name (i := 13) sc_law_rings_right.nd rfl (by first | exact Or.inl rfl | exact Or.inr rfl)) (pss_cons (ps_setLc (i := 14) (own := [("_law_at", 7), ("_law_first", 9)]) (by rfl) sc_law_rings_right.nd rfl rfl (sw_true rfl rfl rfl (by decide +kernel)) (enumA2 (K := K) rfl (by rfl) B.enumerate (pa_cons (pv 11) pa_nil)) (blkOk_by (own := [("_law_at", 7), ("_law_first", 9)]) (N := n_law_rings_right) (sc := (defScope s_law_rings_right)) (by decide +kernel)) (fun _ _ _ _ _ => (gtupK (K := K) rfl (pg_tup rfl (pgs_cons (pg_name (i := 7) sc_law_rings_right.nd rfl (by first | exact Or.inl rfl | exact Or.inr rfl)) (pgs_cons (pg_name (i := 9) sc_law_rings_right.nd rfl (by first | exact Or.inl rfl | exact Or.inr rfl)) pgs_nil))))) (fun _ _ _ _ _ => pts_nil) (fun _ _ _ _ _ => (pe_op (addK (K := K) rfl) (pv 9) (pe_op op_mod (pe_op op_mulA (pe_ix (ixK (K := K) rfl) (pv 4) (pv 7) (fun _ _ => rfl)) (pv 13)) (pe_ix (ixK (K := K) rfl) (pv 1) (pv 7) (fun _ _ => rfl))))))
      (pss_one (ps_if (pt_not (pt_truth (pe_call c_law_same.ok (hr.mono (by decide)) (by rfl) c_law_same.g c_law_same.kp c_law_same.bd .nil pass0 (pa_cons (pe_call c_repeated.ok (hr.mono (by decide)) (by rfl) c_repeated.g c_repeated.kp c_repeated.bd .nil pass0 (pa_cons (pv 12) (pa_cons (pv 3) (pa_cons (pv 13) pa_nil)))) (pa_cons (pe_callTy (tupleK (K := K) rfl) (by rfl) B.tuple (by decide +kernel) (pa_cons (pe_op (addK (K := K) rfl) (pv 2) (pv 14)) pa_nil)) pa_nil))) (by intro _; rfl))) (pss_one (ps_ret pe_bl)) pss_nil))))
      (pss_one (ps_ret pe_bl)))))))))))),
    (ss_seq (ss_set false (se_sl rs_sl (se_call mon_law_strewn_2 (sa_cons se_var (sa_cons (se_lst (sa_cons se_int (sa_cons se_int (sa_cons se_int (sa_cons se_int (sa_cons se_int sa_nil)))))) sa_nil))) so_none (so_some (se_op r2_add se_int (se_call mon_law_take (sa_cons se_var (sa_cons se_int sa_nil)))))))
      (ss_seq (ss_set false (se_if (st_test (se_op r2_eq (se_call mon_law_take (sa_cons se_var (sa_cons se_int sa_nil))) se_int)) se_var (se_lst (sa_cons se_int (sa_cons se_int (sa_cons se_int (sa_cons se_int (sa_cons se_int sa_nil))))))))
      (ss_seq (ss_parT5 (se_lst sa_nil) (se_lst sa_nil) (se_lst sa_nil) se_int (se_cb rc_sum (sa_cons se_var sa_nil)))
      (ss_seq (ss_for (si_enA (sa_cons se_var sa_nil)) (sg_tup (sgs_cons sg_name (sgs_cons sg_name sgs_nil))) (ss_seq (ss_set false (se_cb rc_len (sa_cons se_var sa_nil)))
      (ss_seq (ss_set false (se_op r2_add se_var (se_lc (si_rng1 (sa_cons se_var sa_nil)) sg_name st_yes (se_op r2_add se_var (se_op r2_C (se_op r2_add se_var se_int) se_var)))))
      (ss_seq (ss_append (se_op r2_add se_int (se_call mon_law_take (sa_cons se_var (sa_cons (se_op r2_I se_var se_int) sa_nil)))))
      (ss_par (se_op r2_add se_var (se_op r2_mul (se_lst (sa_cons (se_op r2_add se_var se_var) sa_nil)) (se_op r2_ix se_var se_var))) (se_op r2_mul se_var se_var))))))
      (ss_seq (ss_set false (se_lc (si_rng1 (sa_cons (se_cb rc_len (sa_cons se_var sa_nil)) sa_nil)) sg_name st_yes (se_cb rc_sum (sa_cons (se_sl rs_sl se_var so_none (so_some se_var)) sa_nil))))
      (ss_seq (ss_set false (se_cb rc_tuple (sa_cons (se_op r2_add se_var se_var) sa_nil)))
      (ss_seq (ss_set false (se_call mon_law_strewn_2 (sa_cons se_var (sa_cons se_var sa_nil))))
      (ss_seq (ss_if (st_not (st_truth (se_call (mon_law_same_3 3) (sa_cons (se_call mon_settles (sa_cons se_var (sa_cons se_var sa_nil))) (sa_cons (se_tup (sa_cons se_int (sa_cons se_var sa_nil))) sa_nil))))) (ss_ret se_bl) ss_next)
      (ss_seq (ss_if (st_not (st_truth (se_call (mon_law_same_3 3) (sa_cons (se_call mon_turning (sa_cons se_var (sa_cons se_var sa_nil))) (sa_cons (se_listRg2 se_var (se_op r2_add se_var (se_cb rc_len (sa_cons se_var sa_nil)))) sa_nil))))) (ss_ret se_bl) ss_next)
      (ss_seq (ss_for (si_seq (se_tup (sa_cons (se_op r2_I se_var se_int) (sa_cons se_var (sa_cons (se_op r2_add se_var se_int) (sa_cons (se_op r2_C se_int se_int) (sa_cons (se_call mon_law_take (sa_cons se_var (sa_cons (se_op r2_C se_int se_int) sa_nil))) (sa_cons (se_call mon_law_take (sa_cons se_var (sa_cons se_int sa_nil))) sa_nil)))))))) sg_name (ss_seq (ss_set false (se_lc (si_enA (sa_cons se_var sa_nil)) (sg_tup (sgs_cons sg_name (sgs_cons sg_name sgs_nil))) st_yes (se_op r2_add se_var (se_op r2_C (se_op r2_mul (se_op r2_ix se_var se_var) se_var) (se_op r2_ix se_var se_var)))))
      (ss_if (st_not (st_truth (se_call (mon_law_same_3 3) (sa_cons (se_call mon_repeated (sa_cons se_var (sa_cons se_var (sa_cons se_var sa_nil)))) (sa_cons (se_cb rc_tuple (sa_cons (se_op r2_add se_var se_var) sa_nil)) sa_nil))))) (ss_ret se_bl) ss_next)))
      (ss_ret se_bl)))))))))))⟩
abbrev s_law_right : Stmt := topS 33
abbrev n_law_right : List Str := ["_law_source"]
theorem sc_law_right : FnScope n_law_right ["_law_source"] (defScope s_law_right) := ⟨rfl, rfl, rfl, by decide +kernel, rfl, by decide +kernel, by decide +kernel⟩
theorem ok_law_right {f : Addr} {fd : FuncData} (F : Fun K "_law_right" "_law_right" s_law_right f fd) (B : Bi mg) {f_law_ring_right : Addr} {e_law_ring_right : FuncData} (c_law_ring_right : Cal P w K mg base "_law_ring_right" 6 ["_law_source"] (spD 1 p_law_ring_right_3) f_law_ring_right e_law_ring_right) {f_law_line_right : Addr} {e_law_line_right : FuncData} (c_law_line_right : Cal P w K mg base "_law_line_right" 6 ["_law_source"] (spD 1 p_law_line_right_3) f_law_line_right e_law_line_right) {f_law_rings_right : Addr} {e_law_rings_right : FuncData} (c_law_rings_right : Cal P w K mg base "_law_rings_right" 6 ["_law_source"] (spD 1 p_law_rings_right) f_law_rings_right e_law_rings_right)    : FnOk P w K mg base CX0 7 f fd ["_law_source"] (spD 1 p_k63_law_right) := by
  refine okD (k := 6) F sc_law_right rfl (fun cdv A outer s H E hr => ?_) m_k63_law_right
  exact ⟨_, (pss_one (ps_ret (pe_and (pe_call c_law_ring_right.ok (hr.mono (by decide)) (by rfl) c_law_ring_right.g c_law_ring_right.kp c_law_ring_right.bd .nil pass0 (pa_cons (pv 0) pa_nil)) (pe_and (pe_call c_law_line_right.ok (hr.mono (by decide)) (by rfl) c_law_line_right.g c_law_line_right.kp c_law_line_right.bd .nil pass0 (pa_cons (pv 0) pa_nil)) (pe_one (pe_call c_law_rings_right.ok (hr.mono (by decide)) (by rfl) c_law_rings_right.g c_law_rings_right.kp c_law_rings_right.bd .nil pass0 (pa_cons (pv 0) pa_nil))))))),
    (ss_ret (se_andV (se_call mon_law_ring_right_3 (sa_cons se_var sa_nil)) (se_andV (se_call mon_law_line_right_3 (sa_cons se_var sa_nil)) (se_call mon_law_rings_right (sa_cons se_var sa_nil)))))⟩
abbrev s_law : Stmt := topS 34
abbrev nLaw : List Str := ["_law_script", "_law_cells", "_law_k", "_law_source", "_law_turn"]
theorem scLaw : FnScope nLaw ["_law_script"] (defScope s_law) := ⟨rfl, rfl, rfl, by decide +kernel, rfl, by decide +kernel, by decide +kernel⟩
theorem ok_law {f fC fB fR : Addr} {fd fdC fdB fdR : FuncData} (F : Fun K "law" "law" s_law f fd) (B : Bi mg) (C : Cal P w K mg base "_law_folded" 1 ["_law_script", "_law_most"] (spCells K) fC fdC)
    (X : Cal P w K mg base "_law_stream" 1 ["_law_script", "_law_k"] (spBox K) fB fdB) (R : Cal P w K mg base "_law_right" 7 ["_law_source"] (spD 1 p_k63_law_right) fR fdR) : FnOk P w K mg base CX0 8 f fd ["_law_script"] (spLaw K) := by
  refine Fun.ok (k := 7) F scLaw (fun vs H Q E h => ?_) (fun cdv A outer s H vs Q E hr h => ?_)
  · obtain ⟨a, ns, rfl, _⟩ := h
    rfl
  · obtain ⟨a, ns, rfl, hS, hl, q⟩ := h
    refine ⟨_, pss_cons (ps_set (i := 1) scLaw.nd rfl (.inl rfl) (pe_call C.ok (hr.mono (by decide)) (by rfl) C.g C.kp C.bd .nil pass0 (pa_cons (pv 0) (pa_cons pe_int pa_nil))))
      (pss_cons (ps_for PassesOwn.never rfl (pi_range1 (by rfl) B.range (pa_cons (pe_callB call_len_seq (by rfl) B.len PySem.boot_len (pa_cons (pv 1) pa_nil)) pa_nil)) (pg_name (i := 2) scLaw.nd rfl (.inl rfl))
        (pss_cons (ps_set (i := 3) scLaw.nd rfl (.inr rfl) (pe_call X.ok (hr.mono (by decide)) (by rfl) X.g X.kp X.bd .nil pass0 (pa_cons (pv 1) (pa_cons (pv 2) pa_nil))))
        (pss_one (ps_if (pt_not (pt_val (pe_callB (cr_all rfl) (by rfl) B.all (by decide +kernel) (pa_cons (pe_lc (own := [("_law_turn", 4)]) (g := gName 4) (tt := tYes) (by rfl) scLaw.nd (pi_range1 (by rfl) B.range (pa_cons pe_int pa_nil)) (blkOk_by (own := [("_law_turn", 4)]) (N := nLaw) (sc := defScope s_law) (by decide +kernel))
          (fun _ _ _ _ _ => pg_name (i := 4) scLaw.nd rfl (Or.inl rfl)) (fun _ _ _ _ _ => pts_nil) (fun _ _ _ _ _ => pe_call R.ok hr (by rfl) R.g R.kp R.bd .nil pass0 (pa_cons (pv 3) pa_nil))) pa_nil)))) pss_never pss_nil))))
      (pss_one (ps_ret pe_bl))), ?_⟩
    refine ⟨.ref a, rfl, a, _, ns, rfl, hS, by decide, by decide, fun H1 cA ms s1 nc hc l1 l2 => ?_⟩
    refine ⟨.ref cA, rfl, cA, _, rfl, .inl (SqL.of hc), _, rfl, ?_, ?_, ?_⟩
    · rw [List.length_map]; omega
    · rw [List.length_map]; omega
    refine for_it (walk_range (lo := 0)) (fun _ σ H3 => ∃ y2 y3, σ = [some (.ref a), some (.ref cA), y2, y3, none] ∧ H3 cA = some (.lst (IL ms))) ?_ ?_ ?_ ?_
    · exact ⟨none, none, rfl, hc⟩
    · intros; trivial
    · rintro i x σ H0 G hi ⟨y2, y3, rfl, hcG⟩ ⟨rfl, rfl⟩
      rw [List.length_map] at hi
      refine ⟨.ref cA, rfl, .int (0 + i), rfl, cA, _, ms, rfl, SqL.of hcG, by omega, by omega, fun H4 b s4 nb hB => ?_⟩
      have hc4 := s4 _ _ hcG
      have cb : cA ≠ b := ne_of_none hcG nb
      refine ⟨_, rfl, by decide, by decide, fun D nD => ?_⟩
      have bD : b ≠ D := hB.ne nD
      have cD : cA ≠ D := ne_of_none hc4 nD
      refine lc_range (lo := 0) (fun j H5 => H5 D = some (.lst (List.replicate j (.bl true))) ∧ Box H5 b (1000000 * j) ∧ H5 cA = some (.lst (IL ms))) ⟨upd_same, (hB.new nD).le (by omega), upd_keep hc4 nD⟩ ?_ ?_
      · rintro j H5 hj ⟨hD, hB5, hc5⟩
        have hj' : j < 2 := hj
        refine ⟨rfl, yes_ok ⟨.ref b, rfl, right_do2 (E := fun _ _ _ => False) (N := 1000000) hB5 (fun Q hQ => ⟨rfl, by omega, hQ⟩) fun H6 sb6 hB6 => ?_⟩⟩
        have hD6 := sb6 D _ (Ne.symm bD) hD
        refine ⟨_, hD6, ?_, ?_, ?_, ?_⟩
        · rw [List.length_replicate]; exact szl (by omega)
        · rw [upd_same, rep_app]
        · exact (hB6.put bD).le (by omega)
        · rw [upd_ne cD]; exact sb6 cA _ cb hc5
      · rintro H5 ⟨hD, hB5, hc5⟩
        refine ⟨D, List.replicate 2 true, rfl, ?_, true, ?_, iteF ⟨_, _, rfl, hc5⟩⟩
        · rw [rep_bl]; exact SqL.of hD
        · rw [rep_all]
    · rintro σ H3 ⟨y2, y3, rfl, _⟩
      exact q _

end
theorem all_mk {l : PySem.W.OpenLaw} {w : World} {K : PySem.W.Frag} {h : Heap} {mg : Str → Option Value} {fa : Addr} (X : K.In h) (G : h.Ns mainGlobals mg) (hfa : mg "law" = some (.ref fa)) (Z : Zs K)
    (d3 : Dx K "check_person" s_check_person) (d4 : Dx K "route_from" s_route_from) (d5 : Dx K "turned" s_turned) (d6 : Dx K "ring_begin" s_ring_begin) (d7 : Dx K "person_after" s_person_after) (d8 : Dx K "ring_of" s_ring_of) (d9 : Dx K "height" s_height) (d11 : Dx K "check_word" s_check_word) (d12 : Dx K "called_all" s_called_all) (d14 : Dx K "is_settled" s_is_settled) (d15 : Dx K "states_until_settled" s_states_until_settled) (d16 : Dx K "pointer_later" s_pointer_later) (d17 : Dx K "common_divisor" s_common_divisor) (d18 : Dx K "turn_period" s_turn_period) (d19 : Dx K "repeated" s_repeated) (d20 : Dx K "settles" s_settles) (d21 : Dx K "turning" s_turning) (d22 : Dx K "first_time" s_first_time) (d24 : Dx K "_law_stream" sBox) (d25 : Dx K "_law_draw" sTake) (d26 : Dx K "_law_folded" sCells) (d27 : Dx K "_law_same" s_law_same) (d28 : Dx K "_law_shuffled" s_law_shuffled) (d29 : Dx K "_law_divisor" s_law_divisor) (d30 : Dx K "_law_ring_right" s_law_ring_right) (d31 : Dx K "_law_line_right" s_law_line_right) (d32 : Dx K "_law_rings_right" s_law_rings_right) (d33 : Dx K "_law_right" s_law_right) (d34 : Dx K "law" s_law)   :
    ∃ fd : FuncData, (∀ (s : Shared) (v : Value), BindsTo s fd ⟨[v], []⟩ [("_law_script", v)]) ∧ ∀ base : Heap, K.In base → base.Ns mainGlobals mg → FnOk l.prog w K mg base CX0 8 fa fd ["_law_script"] (spLaw K) := by
  have B := Z.bi X G
  obtain ⟨f3, e3, F3, g3⟩ := d3.fn X G
  obtain ⟨f4, e4, F4, g4⟩ := d4.fn X G
  obtain ⟨f5, e5, F5, g5⟩ := d5.fn X G
  obtain ⟨f6, e6, F6, g6⟩ := d6.fn X G
  obtain ⟨f7, e7, F7, g7⟩ := d7.fn X G
  obtain ⟨f8, e8, F8, g8⟩ := d8.fn X G
  obtain ⟨f9, e9, F9, g9⟩ := d9.fn X G
  obtain ⟨f11, e11, F11, g11⟩ := d11.fn X G
  obtain ⟨f12, e12, F12, g12⟩ := d12.fn X G
  obtain ⟨f14, e14, F14, g14⟩ := d14.fn X G
  obtain ⟨f15, e15, F15, g15⟩ := d15.fn X G
  obtain ⟨f16, e16, F16, g16⟩ := d16.fn X G
  obtain ⟨f17, e17, F17, g17⟩ := d17.fn X G
  obtain ⟨f18, e18, F18, g18⟩ := d18.fn X G
  obtain ⟨f19, e19, F19, g19⟩ := d19.fn X G
  obtain ⟨f20, e20, F20, g20⟩ := d20.fn X G
  obtain ⟨f21, e21, F21, g21⟩ := d21.fn X G
  obtain ⟨f22, e22, F22, g22⟩ := d22.fn X G
  obtain ⟨f24, e24, F24, g24⟩ := d24.fn X G
  obtain ⟨f25, e25, F25, g25⟩ := d25.fn X G
  obtain ⟨f26, e26, F26, g26⟩ := d26.fn X G
  obtain ⟨f27, e27, F27, g27⟩ := d27.fn X G
  obtain ⟨f28, e28, F28, g28⟩ := d28.fn X G
  obtain ⟨f29, e29, F29, g29⟩ := d29.fn X G
  obtain ⟨f30, e30, F30, g30⟩ := d30.fn X G
  obtain ⟨f31, e31, F31, g31⟩ := d31.fn X G
  obtain ⟨f32, e32, F32, g32⟩ := d32.fn X G
  obtain ⟨f33, e33, F33, g33⟩ := d33.fn X G
  obtain ⟨f34, e34, F34, g34⟩ := d34.fn X G
  cases hfa.symm.trans g34
  refine ⟨e34, fun s v => ?_, fun base _ _ => ?_⟩
  · obtain ⟨oc, od, kV, doc, pm, an, cdv, ct, osl, rfl, lk, hcd⟩ := F34.ex
    exact .of_eq rfl
  · have bd25 : Binds K e25 ["_law_source", "_law_bound"] [] := b2 F25 fun _ _ _ _ _ _ _ _ => rfl
    have u25 : Cal l.prog w K mg base "_law_draw" 1 ["_law_source", "_law_bound"] spTake f25 e25 := ⟨ok_take F25, g25, F25.kp, bd25⟩
    have t25 : Cal l.prog w K mg base "_law_draw" 2 ["_law_source", "_law_bound"] (spD 2 p_law_take) f25 e25 := ⟨FnOk.imp (ok_takeW F25 u25) fun _ _ _ _ h => take_imp h, g25, F25.kp, bd25⟩
    have bd24 : Binds K e24 ["_law_script", "_law_k"] [] := b2 F24 fun _ _ _ _ _ _ _ _ => rfl
    have t24 : Cal l.prog w K mg base "_law_stream" 1 ["_law_script", "_law_k"] (spBox K) f24 e24 := ⟨ok_box F24 B, g24, F24.kp, bd24⟩
    have bd3 : Binds K e3 ["state", "person"] [] := b2 F3 fun _ _ _ _ _ _ _ _ => rfl
    have t3 : Cal l.prog w K mg base "check_person" 1 ["state", "person"] (spD 2 p_check_person) f3 e3 := ⟨ok_check_person F3 B     , g3, F3.kp, bd3⟩
    have bd4 : Binds K e4 ["pointers", "person"] [] := b2 F4 fun _ _ _ _ _ _ _ _ => rfl
    have t4 : Cal l.prog w K mg base "route_from" 1 ["pointers", "person"] (spD 2 p_route_from) f4 e4 := ⟨ok_route_from F4 B     , g4, F4.kp, bd4⟩
    have bd5 : Binds K e5 ["members", "first"] [] := b2 F5 fun _ _ _ _ _ _ _ _ => rfl
    have t5 : Cal l.prog w K mg base "turned" 1 ["members", "first"] (spD 2 p_turned) f5 e5 := ⟨ok_turned F5 B     , g5, F5.kp, bd5⟩
    have bd6 : Binds K e6 ["state", "route"] [] := b2 F6 fun _ _ _ _ _ _ _ _ => rfl
    have t6 : Cal l.prog w K mg base "ring_begin" 1 ["state", "route"] (spD 2 p_ring_begin) f6 e6 := ⟨ok_ring_begin F6 B     , g6, F6.kp, bd6⟩
    have bd7 : Binds K e7 ["state", "person", "steps"] [] := b3 F7 fun _ _ _ _ _ _ _ _ _ => rfl
    have t7 : Cal l.prog w K mg base "person_after" 2 ["state", "person", "steps"] (spD 3 p_person_after) f7 e7 := ⟨ok_person_after F7 B t3 t4 t6    , g7, F7.kp, bd7⟩
    have bd8 : Binds K e8 ["state", "person"] [] := b2 F8 fun _ _ _ _ _ _ _ _ => rfl
    have t8 : Cal l.prog w K mg base "ring_of" 2 ["state", "person"] (spD 2 p_ring_of) f8 e8 := ⟨ok_ring_of F8 B t3 t4 t6 t5    , g8, F8.kp, bd8⟩
    have bd9 : Binds K e9 ["state", "person"] [] := b2 F9 fun _ _ _ _ _ _ _ _ => rfl
    have t9 : Cal l.prog w K mg base "height" 2 ["state", "person"] (spD 2 p_height) f9 e9 := ⟨ok_height F9 B t3 t6 t4    , g9, F9.kp, bd9⟩
    have bd11 : Binds K e11 ["state", "word"] [] := b2 F11 fun _ _ _ _ _ _ _ _ => rfl
    have t11 : Cal l.prog w K mg base "check_word" 2 ["state", "word"] (spD 2 p_check_word) f11 e11 := ⟨ok_check_word F11 B t3    , g11, F11.kp, bd11⟩
    have bd12 : Binds K e12 ["state", "word"] [] := b2 F12 fun _ _ _ _ _ _ _ _ => rfl
    have t12 : Cal l.prog w K mg base "called_all" 3 ["state", "word"] (spD 2 p_called_all) f12 e12 := ⟨ok_called_all F12 B t11    , g12, F12.kp, bd12⟩
    have bd14 : Binds K e14 ["state", "word"] [] := b2 F14 fun _ _ _ _ _ _ _ _ => rfl
    have t14 : Cal l.prog w K mg base "is_settled" 3 ["state", "word"] (spD 2 p_is_settled) f14 e14 := ⟨ok_is_settled F14 B t9    , g14, F14.kp, bd14⟩
    have bd15 : Binds K e15 ["state", "word"] [] := b2 F15 fun _ _ _ _ _ _ _ _ => rfl
    have t15 : Cal l.prog w K mg base "states_until_settled" 4 ["state", "word"] (spD 2 p_states_until_settled) f15 e15 := ⟨ok_states_until_settled F15 B t11 t14 t12    , g15, F15.kp, bd15⟩
    have bd16 : Binds K e16 ["settled", "word", "person", "more"] [] := b4 F16 fun _ _ _ _ _ _ _ _ _ _ => rfl
    have t16 : Cal l.prog w K mg base "pointer_later" 3 ["settled", "word", "person", "more"] (spD 4 p_pointer_later) f16 e16 := ⟨ok_pointer_later F16 B t7    , g16, F16.kp, bd16⟩
    have bd17 : Binds K e17 ["one", "other"] [] := b2 F17 fun _ _ _ _ _ _ _ _ => rfl
    have t17 : Cal l.prog w K mg base "common_divisor" 1 ["one", "other"] (spD 2 p_common_divisor) f17 e17 := ⟨ok_common_divisor F17 B     , g17, F17.kp, bd17⟩
    have bd18 : Binds K e18 ["settled", "word", "person"] [] := b3 F18 fun _ _ _ _ _ _ _ _ _ => rfl
    have t18 : Cal l.prog w K mg base "turn_period" 3 ["settled", "word", "person"] (spD 3 p_turn_period) f18 e18 := ⟨ok_turn_period F18 B t8 t17    , g18, F18.kp, bd18⟩
    have bd19 : Binds K e19 ["state", "word", "many"] [] := b3 F19 fun _ _ _ _ _ _ _ _ _ => rfl
    have t19 : Cal l.prog w K mg base "repeated" 5 ["state", "word", "many"] (spD 3 p_repeated) f19 e19 := ⟨ok_repeated F19 B t15 t16    , g19, F19.kp, bd19⟩
    have bd20 : Binds K e20 ["state", "word"] [] := b2 F20 fun _ _ _ _ _ _ _ _ => rfl
    have t20 : Cal l.prog w K mg base "settles" 5 ["state", "word"] (spD 2 p_settles) f20 e20 := ⟨ok_settles F20 B t15 t18 t17    , g20, F20.kp, bd20⟩
    have bd21 : Binds K e21 ["state", "word"] [] := b2 F21 fun _ _ _ _ _ _ _ _ => rfl
    have t21 : Cal l.prog w K mg base "turning" 5 ["state", "word"] (spD 2 p_turning) f21 e21 := ⟨ok_turning F21 B t15 t18    , g21, F21.kp, bd21⟩
    have bd22 : Binds K e22 ["state", "word", "person", "target"] [] := b4 F22 fun _ _ _ _ _ _ _ _ _ _ => rfl
    have t22 : Cal l.prog w K mg base "first_time" 5 ["state", "word", "person", "target"] (spD 4 p_first_time) f22 e22 := ⟨ok_first_time F22 B t15 t3 t18 t16    , g22, F22.kp, bd22⟩
    have bd27 : Binds K e27 ["_law_found", "_law_due"] [] := b2 F27 fun _ _ _ _ _ _ _ _ => rfl
    have t27 : Cal l.prog w K mg base "_law_same" 4 ["_law_found", "_law_due"] (spD 2 (p_law_same_3 3)) f27 e27 := ⟨ok_law_same F27 B g27 bd27 3, g27, F27.kp, bd27⟩
    have bd28 : Binds K e28 ["_law_source", "_law_some"] [] := b2 F28 fun _ _ _ _ _ _ _ _ => rfl
    have t28 : Cal l.prog w K mg base "_law_shuffled" 3 ["_law_source", "_law_some"] (spD 2 p_law_strewn_2) f28 e28 := ⟨ok_law_shuffled F28 B t25    , g28, F28.kp, bd28⟩
    have bd29 : Binds K e29 ["_law_one", "_law_other"] [] := b2 F29 fun _ _ _ _ _ _ _ _ => rfl
    have t29 : Cal l.prog w K mg base "_law_divisor" 1 ["_law_one", "_law_other"] (spD 2 p_law_divisor) f29 e29 := ⟨ok_law_divisor F29 B     , g29, F29.kp, bd29⟩
    have bd30 : Binds K e30 ["_law_source"] [] := b1 F30 fun _ _ _ _ _ _ _ => rfl
    have t30 : Cal l.prog w K mg base "_law_ring_right" 6 ["_law_source"] (spD 1 p_law_ring_right_3) f30 e30 := ⟨ok_law_ring_right F30 B t25 t29 t28 t27 t20 t21 t19 t22    , g30, F30.kp, bd30⟩
    have bd31 : Binds K e31 ["_law_source"] [] := b1 F31 fun _ _ _ _ _ _ _ => rfl
    have t31 : Cal l.prog w K mg base "_law_line_right" 6 ["_law_source"] (spD 1 p_law_line_right_3) f31 e31 := ⟨ok_law_line_right F31 B t25 t27 t21 t20 t19 t22    , g31, F31.kp, bd31⟩
    have bd32 : Binds K e32 ["_law_source"] [] := b1 F32 fun _ _ _ _ _ _ _ => rfl
    have t32 : Cal l.prog w K mg base "_law_rings_right" 6 ["_law_source"] (spD 1 p_law_rings_right) f32 e32 := ⟨ok_law_rings_right F32 B t28 t25 t27 t20 t21 t19    , g32, F32.kp, bd32⟩
    have bd33 : Binds K e33 ["_law_source"] [] := b1 F33 fun _ _ _ _ _ _ _ => rfl
    have t33 : Cal l.prog w K mg base "_law_right" 7 ["_law_source"] (spD 1 p_k63_law_right) f33 e33 := ⟨ok_law_right F33 B t30 t31 t32    , g33, F33.kp, bd33⟩
    have bd26 : Binds K e26 ["_law_script", "_law_most"] [] := b2 F26 fun _ _ _ _ _ _ _ _ => rfl
    have t26 : Cal l.prog w K mg base "_law_folded" 1 ["_law_script", "_law_most"] (spCells K) f26 e26 := ⟨ok_cells F26 B, g26, F26.kp, bd26⟩
    exact ok_law F34 B t26 t24 t33
end Lp

open PySem PySem.W PyProof.Rows
set_option maxHeartbeats 0 in
theorem PySem.Challenge.cw_lookpast_k63_known_repetitions_holds : PySem.Challenge.rw_lookpast_k63_known_repetitions.Holds := by
  w_on; o_law; k_head; (case hw => w_witness2)
  k_fill
  refine L2.walk_of (l := PySem.Challenge.rw_lookpast_k63_known_repetitions) (n := 63) (k := 8) (x := "_law_script") (CX := fun _ => L2.CX0) (sp := fun w => Lp.spLaw _) rfl (by decide) rfl ⟨rfl, by decide, by decide⟩ (fun w h Y => PySem.W.kIn_of Y) ?F (fun _ _ a ns hl _ hS => ⟨a, ns, rfl, hS, hl, fun _ => rfl⟩) (fun _ _ _ _ _ h => h)
  case F =>
    intro w mg fa h KX G hmg
    refine' Lp.all_mk KX G hmg ?z ?d3 ?d4 ?d5 ?d6 ?d7 ?d8 ?d9 ?d11 ?d12 ?d14 ?d15 ?d16 ?d17 ?d18 ?d19 ?d20 ?d21 ?d22 ?d24 ?d25 ?d26 ?d27 ?d28 ?d29 ?d30 ?d31 ?d32 ?d33 ?d34  
    (case z => refine' ⟨?_, ?_, ?_, ?_, ?_, ?_, ?_, ?_, ?_, ?_, ?_, ?_, ?_, ?_, ?_, ?_, ?_, ?_, ?_⟩ <;> k_is)
    (case d3 => refine' Lp.dx_mk ?a ?l ?c ?k; (case a => k_is); (case l => k_is); (case c => k_is); (case k => k_is))
    (case d4 => refine' Lp.dx_mk ?a ?l ?c ?k; (case a => k_is); (case l => k_is); (case c => k_is); (case k => k_is))
    (case d5 => refine' Lp.dx_mk ?a ?l ?c ?k; (case a => k_is); (case l => k_is); (case c => k_is); (case k => k_is))
    (case d6 => refine' Lp.dx_mk ?a ?l ?c ?k; (case a => k_is); (case l => k_is); (case c => k_is); (case k => k_is))
    (case d7 => refine' Lp.dx_mk ?a ?l ?c ?k; (case a => k_is); (case l => k_is); (case c => k_is); (case k => k_is))
    (case d8 => refine' Lp.dx_mk ?a ?l ?c ?k; (case a => k_is); (case l => k_is); (case c => k_is); (case k => k_is))
    (case d9 => refine' Lp.dx_mk ?a ?l ?c ?k; (case a => k_is); (case l => k_is); (case c => k_is); (case k => k_is))
    (case d11 => refine' Lp.dx_mk ?a ?l ?c ?k; (case a => k_is); (case l => k_is); (case c => k_is); (case k => k_is))
    (case d12 => refine' Lp.dx_mk ?a ?l ?c ?k; (case a => k_is); (case l => k_is); (case c => k_is); (case k => k_is))
    (case d14 => refine' Lp.dx_mk ?a ?l ?c ?k; (case a => k_is); (case l => k_is); (case c => k_is); (case k => k_is))
    (case d15 => refine' Lp.dx_mk ?a ?l ?c ?k; (case a => k_is); (case l => k_is); (case c => k_is); (case k => k_is))
    (case d16 => refine' Lp.dx_mk ?a ?l ?c ?k; (case a => k_is); (case l => k_is); (case c => k_is); (case k => k_is))
    (case d17 => refine' Lp.dx_mk ?a ?l ?c ?k; (case a => k_is); (case l => k_is); (case c => k_is); (case k => k_is))
    (case d18 => refine' Lp.dx_mk ?a ?l ?c ?k; (case a => k_is); (case l => k_is); (case c => k_is); (case k => k_is))
    (case d19 => refine' Lp.dx_mk ?a ?l ?c ?k; (case a => k_is); (case l => k_is); (case c => k_is); (case k => k_is))
    (case d20 => refine' Lp.dx_mk ?a ?l ?c ?k; (case a => k_is); (case l => k_is); (case c => k_is); (case k => k_is))
    (case d21 => refine' Lp.dx_mk ?a ?l ?c ?k; (case a => k_is); (case l => k_is); (case c => k_is); (case k => k_is))
    (case d22 => refine' Lp.dx_mk ?a ?l ?c ?k; (case a => k_is); (case l => k_is); (case c => k_is); (case k => k_is))
    (case d24 => refine' Lp.dx_mk ?a ?l ?c ?k; (case a => k_is); (case l => k_is); (case c => k_is); (case k => k_is))
    (case d25 => refine' Lp.dx_mk ?a ?l ?c ?k; (case a => k_is); (case l => k_is); (case c => k_is); (case k => k_is))
    (case d26 => refine' Lp.dx_mk ?a ?l ?c ?k; (case a => k_is); (case l => k_is); (case c => k_is); (case k => k_is))
    (case d27 => refine' Lp.dx_mk ?a ?l ?c ?k; (case a => k_is); (case l => k_is); (case c => k_is); (case k => k_is))
    (case d28 => refine' Lp.dx_mk ?a ?l ?c ?k; (case a => k_is); (case l => k_is); (case c => k_is); (case k => k_is))
    (case d29 => refine' Lp.dx_mk ?a ?l ?c ?k; (case a => k_is); (case l => k_is); (case c => k_is); (case k => k_is))
    (case d30 => refine' Lp.dx_mk ?a ?l ?c ?k; (case a => k_is); (case l => k_is); (case c => k_is); (case k => k_is))
    (case d31 => refine' Lp.dx_mk ?a ?l ?c ?k; (case a => k_is); (case l => k_is); (case c => k_is); (case k => k_is))
    (case d32 => refine' Lp.dx_mk ?a ?l ?c ?k; (case a => k_is); (case l => k_is); (case c => k_is); (case k => k_is))
    (case d33 => refine' Lp.dx_mk ?a ?l ?c ?k; (case a => k_is); (case l => k_is); (case c => k_is); (case k => k_is))
    (case d34 => refine' Lp.dx_mk ?a ?l ?c ?k; (case a => k_is); (case l => k_is); (case c => k_is); (case k => k_is))


