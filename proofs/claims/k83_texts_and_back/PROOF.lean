import PyProof.Rows.All
import Wide.All
import OpenK.AllK
import Wide.FinOn
import HandS.ForMost
import HandS.Walk
import HandS.IsInst
import HandS.Conv
import HandS.Zip
import HandS.Style
import HandS.Flow
import HandS.Strs
import HandS.Wide
import HandS.TupAny
import HandS.TupSets
import KE.KDictDisplayH
import HandS.DictComp
import HandS.SetBool
import HandS.Deep
import HandS.TupMul
import HandS.SortInts
import HandS.SortOrd
import PyProof.ReprRoads
import PyProof.Rows.RegFStrParts
import KE.GoesMore
import HandS.TupLe
import HandS.SetFor
import HandS.ExcInit
import KE.KExcInit
import HandS.ExcOwn
import HandS.WordsExc
import KE.KTryMore
import KE.KExcIs
import HandS.ExcField
import HandS.ExcIs
import HandS.Iter
import KE.KDictCopyH
import HandS.DictTup
import HandS.More
import PySem.Challenge.RW_lookpast_k83_texts_and_back
set_option Elab.async false
set_option linter.all false
set_option maxRecDepth 100000
set_option maxHeartbeats 4000000
namespace Lp
open PySem PySem.Spec PyProof.Rows L2
def Sol (H : Hp) (a : Addr) (xs : List V) : Prop := ∃ o : Obj, o.dict = none ∧ H a = some (.frz o (.tup xs))
theorem Sol.seq {K : PySem.W.Frag} {H : Hp} {a : Addr} {xs : List V} (h : Sol H a xs) : SqT K H a xs := by
  obtain ⟨o, _, e⟩ := h
  exact .inl (.inr ⟨o, e⟩)
theorem Sol.to {H H' : Hp} {a : Addr} {xs : List V} (h : Sol H a xs) (s : Same H H') : Sol H' a xs := by
  obtain ⟨o, d, e⟩ := h
  exact ⟨o, d, s _ _ e⟩
theorem Sol.there {H : Hp} {a : Addr} {xs : List V} (h : Sol H a xs) : H a ≠ none := by
  obtain ⟨o, d, e⟩ := h
  rw [e]; exact fun z => nomatch z
theorem Sol.inj {H : Hp} {a : Addr} {xs ys : List V} (h : Sol H a xs) (k : Sol H a ys) : xs = ys := by
  obtain ⟨o, d, e⟩ := h
  obtain ⟨o', d', e'⟩ := k
  rw [e] at e'
  cases e'; rfl
abbrev objT (us : List Value) : Obj := { cls := .type "tuple", data := .seq us.toArray }
section
variable {X : Cx} {pins : List (Addr × Obj)} {σ : L2.St} {H : Hp} {s : Shared}
/-- a new tuple -/
theorem laidT {xs : List V} {us : List Value} (J : Inv X pins σ H s) (rel : Vals xs us) (few : xs.length ≤ sizeLine) : Inv X pins σ (upd H s.heap.objs.size (.frz (objT us) (.tup xs))) { s with heap := s.heap.push (objT us) } := by
  refine J.laid (t' := s.toks) (fun _ _ q => Heap.get?_push_of_some _ q) (Nat.le_refl _) ⟨Heap.get?_push_size _ rfl, few, us, rel, IsTup.new _ _⟩
theorem newT {xs : List V} {us : List Value} {Q : VK} (J : Inv X pins σ H s) (rel : Vals xs us) (few : xs.length ≤ sizeLine) (q : ∀ p o, H p = none → o.dict = none → Q (.ref p) (upd H p (.frz o (.tup xs)))) : EP X pins σ Q (.ref s.heap.objs.size) { s with heap := s.heap.push (objT us) } :=
  ⟨.ref s.heap.objs.size, _, laidT J rel few, rfl, q _ _ (J.hok.fresh (Nat.le_refl _)) rfl⟩
end
section
variable {X : Cx}
/-- (a, b, ..) -/
def tTupS (t : TA) : TE := fun σ H Q => t σ H fun xs H1 => xs.length ≤ sizeLine ∧ ∀ p o, H1 p = none → o.dict = none → Q (.ref p) (upd H1 p (.frz o (.tup xs)))
theorem pe_tupS {es : List Expr} {t : TA} {k : Nat} {pos : Pos} (args : PA X es t) : PE X (.Tuple es k pos) (tTupS t) := by
  constructor
  intro pins s σ H Q J want
  refine wpAny_Tuple_spliced (thn (args.run pos pins s σ H _ J want) ?_)
  rintro us s' ⟨xs, H', J', rel, few, q⟩
  exact ⟨by rw [← rel.length]; exact few, newT J' rel few q⟩
/-- tuple(xs) -/
def rTuple (K : PySem.W.Frag) : List V → Hp → VK → Prop := fun xs H Q => ∃ p ys, xs = [.ref p] ∧ ((SqL K H p ys ∧ ∀ l o, H l = none → o.dict = none → Q (.ref l) (upd H l (.frz o (.tup ys)))) ∨ (SqT K H p ys ∧ Q (.ref p) H))
theorem call_tupleS : CallR X (.type "tuple") (rTuple X.K) := by
  rintro pins s σ H xs us Q J rel ⟨p, ys, rfl, ways⟩
  obtain ⟨u, rfl, ru⟩ := vals1 rel
  cases ru
  rcases ways with ⟨at_p, q⟩ | ⟨at_p, q⟩
  · obtain ⟨its, rv, pl, few⟩ := J.list at_p
    have many := rv.length
    refine call_tuple_list pl.isList (fun h' keep => ?_) (by simp only [List.size_toArray]; omega)
    have J' : Inv X pins σ H { s with heap := h' } := J.kept (t' := s.toks) keep
    exact newT J' rv few q
  · obtain ⟨its, rv, pl, few⟩ := J.tuple at_p
    exact call_tuple_same pl ⟨.ref p, H, J, rfl, q⟩
/-- t + u -/
def rCatS (K : PySem.W.Frag) : R2 := fun x y H Q => ∃ a b xs ys, x = .ref a ∧ y = .ref b ∧ SqT K H a xs ∧ SqT K H b ys ∧ xs.length + ys.length ≤ sizeLine ∧
  (xs = [] → Q (.ref b) H) ∧ (ys = [] → Q (.ref a) H) ∧ ∀ p o, H p = none → o.dict = none → Q (.ref p) (upd H p (.frz o (.tup (xs ++ ys))))
theorem op_catS : OpR X (binaryOp .Add) (rCatS X.K) := by
  rintro pins s σ H x y v u Q J rx ry ⟨a, b, xs, ys, rfl, rfl, at_a, at_b, few, q0, q1, q2⟩
  cases rx
  cases ry
  obtain ⟨its, r1, p1, _⟩ := J.tuple at_a
  obtain ⟨jts, r2, p2, _⟩ := J.tuple at_b
  by_cases none_ : xs = []
  · subst none_
    cases r1
    exact cat_tup0 p1 p2 ⟨.ref b, H, J, rfl, q0 rfl⟩
  · refine HT.cat_tup p1 p2 (fun z => none_ (r1.nil_iff.mp z)) (fun z => ⟨.ref a, H, J, rfl, q1 (r2.nil_iff.mp z)⟩) (fun _ => ?_) (by rw [← r1.length, ← r2.length]; exact few)
    exact newT J (r1.append r2) (by rw [List.length_append]; exact few) q2
end
end Lp

namespace Lp
open PySem PySem.Spec PyProof.Rows L2
/-- a row of a dict: its key, the key's address, its value, the value as data -/
structure DRow where
  k : List Int
  b : Addr
  v : V
  d : PyData
abbrev tHash (k : List Int) : Int := reduceHash (Builtin.Tuple.tupleHashOf (k.map hashInt))
def dEnt (y : List Int × Addr × Value) : DictEntry := ⟨tHash y.1, .ref y.2.1, y.2.2⟩
def DRel (x : DRow) (y : List Int × Addr × Value) : Prop := x.k = y.1 ∧ x.b = y.2.1 ∧ RelV x.v y.2.2
def DT0 (h : Heap) (a : Addr) (xs : List DRow) : Prop := xs.length ≤ sizeLine ∧ (a == sysModules) = false ∧ (xs.map DRow.k).Nodup ∧ ∃ ys, Paired DRel xs ys ∧ ∃ o es ep, h.get? a = some o ∧ o.ExactDict ∧ o.data = .dict es ep ∧ es.toList = ys.map dEnt
/-- ob is the dict itself -/
def DctO (ob : Obj) (a : Addr) (xs : List DRow) : HO := .ext fun h => h.get? a = some ob ∧ DT0 h a xs
/-- there is such a dict at a -/
def IsDct (H : Hp) (a : Addr) (xs : List DRow) : Prop := ∃ ob, H a = some (DctO ob a xs)
theorem IsDct.ne {H : Hp} {a : Addr} {xs : List DRow} (x : IsDct H a xs) : H a ≠ none := by
  obtain ⟨ob, h⟩ := x
  rw [h]; exact fun z => nomatch z
theorem DRel.keys : ∀ {xs : List DRow} {ys : List (List Int × Addr × Value)}, Paired DRel xs ys → xs.map DRow.k = ys.map (·.1)
  | _, _, .nil => rfl
  | _, _, .cons r t => by rw [List.map_cons, List.map_cons, r.1, DRel.keys t]
theorem DRel.mem : ∀ {xs : List DRow} {ys : List (List Int × Addr × Value)}, Paired DRel xs ys → ∀ y ∈ ys, ∃ x ∈ xs, DRel x y
  | _, _, .nil, y, h => nomatch h
  | _, _, .cons (a := x) r t, y, h => by
    rcases List.mem_cons.mp h with e | e
    · exact ⟨x, List.mem_cons_self, e ▸ r⟩
    · obtain ⟨z, hz, q⟩ := DRel.mem t y e
      exact ⟨z, List.mem_cons_of_mem _ hz, q⟩
theorem DT0.of {P : Program} {w : World} {h : Heap} {a : Addr} {xs : List DRow} {ys : List (List Int × Addr × Value)} (dd : h.DictOfH (tupleKind (intKind P w)) a ys) (r : Paired DRel xs ys) (hl : xs.length ≤ sizeLine) (hd : (a == sysModules) = false) : DT0 h a xs := by
  obtain ⟨o, es, ep, ho, hx, hd', he, _, nd⟩ := dd
  exact ⟨hl, hd, by rw [DRel.keys r]; exact nd, ys, r, o, es, ep, ho, hx, hd', he⟩
/-- at a: a dict with the rows xs -/
def DAtH (K : PySem.W.Frag) (H : Hp) (a : Addr) (xs : List DRow) : Prop := IsDct H a xs ∧ ∀ x ∈ xs, SqT K H x.b (x.k.map V.int)
section
variable {X : Cx} {pins : List (Addr × Obj)} {σ : L2.St} {H : Hp} {s : Shared} {a : Addr} {xs : List DRow}
end
end Lp

namespace Lp
open PySem PySem.Spec PyProof.Rows L2
section
variable {P : Program} {w : World} {A : Around} {E : Value → Shared → Prop} {s : Shared} {a : Addr} {L : List (Addr × List Int)} {es : Array (Int × Value)} {ep : Nat} {t : SetTable}
end
/-- the set at a, as the world sees it -/
def SetTI (w : World) (a : Addr) (M : List (Addr × List Int)) : HO := .ext fun h => ∃ P, SetT0 P w h a M
section
variable {X : Cx} {pins : List (Addr × Obj)} {σ : L2.St} {H : Hp} {s : Shared} {a : Addr} {M : List (Addr × List Int)}
end
section
variable {X : Cx}
end
end Lp

namespace Lp
open PySem PySem.Spec PyProof.Rows L2
/-- the drawing box: its three numbers; c: at most so many draws so far -/
def Box (H : Hp) (b : Addr) (c : Nat) : Prop := ∃ x0 x1 x2 : Int, H b = some (.lst [.int x0, .int x1, .int x2]) ∧ 0 ≤ x0 ∧ 0 ≤ x1 ∧ x1 < 4611686018427387904 ∧ 0 ≤ x2 ∧ x2 ≤ (c : Int)
theorem Box.le {H : Hp} {b : Addr} {c d : Nat} (x : Box H b c) (h : c ≤ d) : Box H b d := by
  obtain ⟨x0, x1, x2, e, h0, h1, h2, h3, h4⟩ := x
  exact ⟨x0, x1, x2, e, h0, h1, h2, h3, by omega⟩
theorem Box.there {H : Hp} {b : Addr} {c : Nat} (x : Box H b c) : H b ≠ none := by
  obtain ⟨x0, x1, x2, e, _⟩ := x
  rw [e]; exact fun h => nomatch h
theorem Box.keep {H H' : Hp} {b : Addr} {c : Nat} (x : Box H b c) (h : H' b = H b) : Box H' b c := by
  obtain ⟨x0, x1, x2, e, r⟩ := x
  exact ⟨x0, x1, x2, h.trans e, r⟩
/-- the rows of a dict as data -/
def kvT (xs : List DRow) : List (PyData × PyData) := xs.map fun x => (.tuple (x.k.map PyData.int), x.d)
def kvI (ks : List Int) (ds : List PyData) : List (PyData × PyData) := (ks.zip ds).map fun p => (.int p.1, p.2)
def dkI (ks : List Int) (vs : List V) : List (Key × V) := (ks.zip vs).map fun p => (.inl p.1, p.2)
mutual
inductive DV (H : Hp) : V → PyData → Prop
  | non : DV H .non .none
  | bl (b : Bool) : DV H (.bl b) (.bool b)
  | int (i : Int) : DV H (.int i) (.int i)
  | str (x : Str) : DV H (.str x) (.str x)
  | lst {a : Addr} {xs : List V} {ds : List PyData} : H a = some (.lst xs) → DVs H xs ds → DV H (.ref a) (.list ds)
  | tup {a : Addr} {xs : List V} {ds : List PyData} : Sol H a xs → DVs H xs ds → DV H (.ref a) (.tuple ds)
  | dct {a : Addr} {xs : List DRow} : IsDct H a xs → (∀ x ∈ xs, Sol H x.b (x.k.map V.int)) → DVs H (xs.map DRow.v) (xs.map DRow.d) → DV H (.ref a) (.dict (kvT xs))
  | dci {a : Addr} {o : Obj} {ks : List Int} {vs : List V} {ds : List PyData} : H a = some (.frz o (.dK (dkI ks vs))) → ks.length = vs.length → ks.Nodup → DVs H vs ds → DV H (.ref a) (.dict ((.none, .none) :: kvI ks ds))
inductive DVs (H : Hp) : List V → List PyData → Prop
  | nil : DVs H [] []
  | cons {v : V} {vs : List V} {d : PyData} {ds : List PyData} : DV H v d → DVs H vs ds → DVs H (v :: vs) (d :: ds)
end
theorem IsDct.to {H H' : Hp} {a : Addr} {xs : List DRow} (s : Same H H') (h : IsDct H a xs) : IsDct H' a xs := by
  obtain ⟨ob, h⟩ := h
  exact ⟨ob, s _ _ h⟩
theorem DV.mono {H H' : Hp} (s : Same H H') (d : PyData) (v : V) (h : DV H v d) : DV H' v d :=
  DV.rec (motive_1 := fun v d _ => DV H' v d) (motive_2 := fun vs ds _ => DVs H' vs ds) .non (fun b => .bl b) (fun i => .int i) (fun x => .str x)
    (fun e _ r => .lst (s _ _ e) r) (fun e _ r => .tup (e.to s) r) (fun e k _ r => .dct (e.to s) (fun x hx => (k x hx).to s) r) (fun e l n _ r => .dci (s _ _ e) l n r) .nil (fun _ _ a r => .cons a r) h
theorem DVs.mono {H H' : Hp} (s : Same H H') (ds : List PyData) (vs : List V) (h : DVs H vs ds) : DVs H' vs ds :=
  DVs.rec (motive_1 := fun v d _ => DV H' v d) (motive_2 := fun vs ds _ => DVs H' vs ds) .non (fun b => .bl b) (fun i => .int i) (fun x => .str x)
    (fun e _ r => .lst (s _ _ e) r) (fun e _ r => .tup (e.to s) r) (fun e k _ r => .dct (e.to s) (fun x hx => (k x hx).to s) r) (fun e l n _ r => .dci (s _ _ e) l n r) .nil (fun _ _ a r => .cons a r) h
mutual
theorem DV.dp {K : PySem.W.Frag} {H : Hp} : ∀ (d : PyData) (v : V), d.hasDict = false → DV H v d → Dp K H v d
  | .none, _, _, h => by cases h; exact .non
  | .bool b, _, _, h => by cases h; exact .bl b
  | .int i, _, _, h => by cases h; exact .int i
  | .str x, _, _, h => by cases h; exact .str x
  | .list ds, _, n, h => by
    cases h with
    | lst e r => exact .lst (SqL.of e) (DVs.dp ds _ (by unfold PyData.hasDict at n; exact n) r)
  | .tuple ds, _, n, h => by
    cases h with
    | tup e r => exact .tup e.seq (DVs.dp ds _ (by unfold PyData.hasDict at n; exact n) r)
  | .dict _, _, n, h => by unfold PyData.hasDict at n; cases n
theorem DVs.dp {K : PySem.W.Frag} {H : Hp} : ∀ (ds : List PyData) (vs : List V), PyData.hasDictAll ds = false → DVs H vs ds → DpAll K H vs ds
  | [], _, _, h => by cases h; exact .nil
  | d :: ds, _, n, h => by
    unfold PyData.hasDictAll at n
    rw [Bool.or_eq_false_iff] at n
    cases h with
    | cons a r => exact .cons (DV.dp d _ n.1 a) (DVs.dp ds _ n.2 r)
end
/-- what can be told apart holds no dict -/
theorem sh_nd {d : PyData} (h : SeqAt.shaped d = true) : d.hasDict = false := PyData.hasDict_of_canLay d (SeqAt.canLay_of_shaped h)
theorem DV.to {H H' : Hp} {v : V} {d : PyData} (h : DV H v d) (s : Same H H') : DV H' v d := DV.mono s d v h
theorem DVs.to {H H' : Hp} {v : List V} {d : List PyData} (h : DVs H v d) (s : Same H H') : DVs H' v d := DVs.mono s d v h
theorem DVs.len {H : Hp} : ∀ {vs : List V} {ds : List PyData}, DVs H vs ds → vs.length = ds.length
  | _, _, .nil => rfl
  | _, _, .cons _ r => by rw [List.length_cons, List.length_cons, r.len]
theorem DVs.get {H : Hp} : ∀ {vs : List V} {ds : List PyData} {i : Nat} {d : PyData}, DVs H vs ds → ds[i]? = some d → ∃ v, vs[i]? = some v ∧ DV H v d
  | _, _, _, _, .nil, e => by simp at e
  | _, _, 0, _, .cons a _, e => by simp at e; subst e; exact ⟨_, rfl, a⟩
  | _, _, i + 1, d, .cons _ r, e => by
    obtain ⟨v, h1, h2⟩ := DVs.get (i := i) (d := d) r (by simpa using e)
    exact ⟨v, by simpa using h1, h2⟩
theorem DVs.app {H : Hp} : ∀ {vs us : List V} {ds es : List PyData}, DVs H vs ds → DVs H us es → DVs H (vs ++ us) (ds ++ es)
  | _, _, _, _, .nil, s => s
  | _, _, _, _, .cons a r, s => .cons a (r.app s)
theorem DVs.take {H : Hp} : ∀ {vs : List V} {ds : List PyData} (n : Nat), DVs H vs ds → DVs H (vs.take n) (ds.take n)
  | _, _, 0, _ => by rw [List.take_zero, List.take_zero]; exact .nil
  | _, _, _ + 1, .nil => .nil
  | _, _, n + 1, .cons a r => .cons a (r.take n)
theorem DVs.drop {H : Hp} : ∀ {vs : List V} {ds : List PyData} (n : Nat), DVs H vs ds → DVs H (vs.drop n) (ds.drop n)
  | _, _, 0, r => by rw [List.drop_zero, List.drop_zero]; exact r
  | _, _, _ + 1, .nil => .nil
  | _, _, n + 1, .cons a r => r.drop n
theorem DVs.set {H : Hp} {v : V} {d : PyData} (h : DV H v d) : ∀ {vs : List V} {ds : List PyData} (n : Nat), DVs H vs ds → DVs H (vs.set n v) (ds.set n d)
  | _, _, _, .nil => .nil
  | _, _, 0, .cons _ r => .cons h r
  | _, _, n + 1, .cons a r => .cons a (DVs.set h n r)
theorem DVs.one {H : Hp} {v : V} {d : PyData} (h : DV H v d) : DVs H [v] [d] := .cons h .nil
mutual
def imm : PyData → Bool
  | .list _ => false
  | .dict _ => false
  | .tuple ds => imms ds
  | _ => true
def imms : List PyData → Bool
  | [] => true
  | d :: ds => imm d && imms ds
end
mutual
theorem DV.imm {H H' : Hp} (s : ∀ a xs, Sol H a xs → Sol H' a xs) : ∀ (d : PyData) (v : V), imm d = true → DV H v d → DV H' v d
  | .none, _, _, h => by cases h; exact .non
  | .bool b, _, _, h => by cases h; exact .bl b
  | .int i, _, _, h => by cases h; exact .int i
  | .str x, _, _, h => by cases h; exact .str x
  | .list ds, _, i, h => by unfold Lp.imm at i; cases i
  | .tuple ds, _, i, h => by
    unfold Lp.imm at i
    cases h with
    | tup e r => exact .tup (s _ _ e) (DVs.imm s ds _ i r)
  | .dict _, _, i, h => by unfold Lp.imm at i; cases i
theorem DVs.imm {H H' : Hp} (s : ∀ a xs, Sol H a xs → Sol H' a xs) : ∀ (ds : List PyData) (vs : List V), imms ds = true → DVs H vs ds → DVs H' vs ds
  | [], _, _, h => by cases h; exact .nil
  | d :: ds, _, i, h => by
    unfold Lp.imms at i
    rw [Bool.and_eq_true] at i
    cases h with
    | cons a r => exact .cons (DV.imm s d _ i.1 a) (DVs.imm s ds _ i.2 r)
end
theorem ne_at {H : Hp} {a p : Addr} (h : H a ≠ none) (n : H p = none) : a ≠ p := fun z => h (by rw [z]; exact n)

/-- L: what stands still; from (L, H) to (L', H'): nothing that stood still moves, what is (but the box b) stays, and what was there and not of L stays out of L -/
structure Ext (b : Option Addr) (L H L' H' : Hp) : Prop where
  ll : Same L L'
  hh : ∀ a o, H a = some o → b ≠ some a → H' a = some o
  dom : ∀ a, H a ≠ none → H' a ≠ none
  fr : ∀ a, L a = none → H a ≠ none → L' a = none
theorem Ext.refl (b : Option Addr) (L H : Hp) : Ext b L H L H := ⟨Same.refl L, fun _ _ h _ => h, fun _ h => h, fun _ h _ => h⟩
theorem Ext.trans {b : Option Addr} {L H L1 H1 L2 H2 : Hp} (x : Ext b L H L1 H1) (y : Ext b L1 H1 L2 H2) : Ext b L H L2 H2 :=
  ⟨x.ll.trans y.ll, fun a o h n => y.hh a o (x.hh a o h n) n, fun a h => y.dom a (x.dom a h), fun a h n => y.fr a (x.fr a h n) (x.dom a n)⟩
theorem Ext.free {b : Option Addr} {L H L' H' : Hp} (x : Ext b L H L' H') {a : Addr} (h : H' a = none) : H a = none := by
  cases q : H a with
  | none => rfl
  | some o => exact absurd h (x.dom a (by rw [q]; exact fun z => nomatch z))
theorem Ext.any {b : Option Addr} {L H L' H' : Hp} (x : Ext none L H L' H') : Ext b L H L' H' := ⟨x.ll, fun a o h _ => x.hh a o h (fun z => nomatch z), x.dom, x.fr⟩
theorem Same.dom {H H' : Hp} (s : Same H H') (a : Addr) (h : H a ≠ none) : H' a ≠ none := by
  cases q : H a with
  | none => exact absurd q h
  | some o => rw [s a o q]; exact fun z => nomatch z
/-- a new object that stands still -/
theorem Ext.new {b : Option Addr} {L H : Hp} {p : Addr} {o : HO} (s : Same L H) (n : H p = none) : Ext b L H (upd L p o) (upd H p o) := by
  refine ⟨fun a u h => ?_, fun a u h _ => ?_, fun a h => ?_, fun a h d => ?_⟩
  · rw [upd_ne (ne_of_none h (s.free n))]; exact h
  · rw [upd_ne (ne_of_none h n)]; exact h
  · rw [upd_ne (ne_at h n)]; exact h
  · rw [upd_ne (ne_at d n)]; exact h
/-- a new object beside -/
theorem Ext.own {b : Option Addr} {L H : Hp} {p : Addr} {o : HO} (n : H p = none) : Ext b L H L (upd H p o) := by
  refine ⟨Same.refl L, fun a u h _ => ?_, fun a h => ?_, fun a h _ => h⟩
  · rw [upd_ne (ne_of_none h n)]; exact h
  · rw [upd_ne (ne_at h n)]; exact h
theorem same_own {L H : Hp} {p : Addr} {o : HO} (s : Same L H) (n : L p = none) : Same L (upd H p o) := fun a u h => by
  rw [upd_ne (ne_of_none h n)]; exact s a u h
theorem same_both {L H : Hp} {p : Addr} {o : HO} (s : Same L H) : Same (upd L p o) (upd H p o) := fun a u h => by
  by_cases e : a = p
  · subst e; rw [upd_same] at h ⊢; exact h
  · rw [upd_ne e] at h ⊢; exact s a u h
/-- what is published -/
theorem same_pub {L H : Hp} {p : Addr} {o : HO} (s : Same L H) (e : H p = some o) : Same (upd L p o) H := fun a u h => by
  by_cases q : a = p
  · subst q; rw [upd_same] at h; rw [e]; exact h
  · rw [upd_ne q] at h; exact s a u h
theorem same_upd {L : Hp} {p : Addr} {o : HO} (n : L p = none) : Same L (upd L p o) := fun a u h => by
  rw [upd_ne (ne_of_none h n)]; exact h
/-- what a body knows of its caller -/
structure Zx where
  b : Option Addr
  L0 : Hp
  H0 : Hp
  P : Hp
/-- an exception: the name of its class, its fields -/
structure Xn where
  cls : Str
  fs : List (Str × PyData)
/-- what is taken for granted: the world, the classes of exceptions by name, what is known of the caller -/
structure Wx where
  w : World
  cl : Str → Option Addr
  Φ : Zx → Prop
  up : ∀ (Z : Zx) (P : Hp), Same Z.P P → Φ Z → Φ { Z with P := P }
  hp : ∀ (Z : Zx) (a : Addr) (o : HO), Z.H0 a = none → Z.b ≠ some a → Φ Z → Φ { Z with H0 := upd Z.H0 a o }
instance : Coe Wx World := ⟨Wx.w⟩
abbrev W0 (w : World) : Wx := ⟨w, fun _ => none, fun _ => True, fun _ _ _ _ => trivial, fun _ _ _ _ _ _ => trivial⟩
/-- at a: an exception of the class at C that was caught, its dict at d -/
def exc (a : Addr) (c : Value) (d : Option Addr) : HO := .ext fun h => ∃ oe vs, h.get? a = some oe ∧ oe.cls = c ∧ oe.dict = d ∧ oe.data = .fields vs
inductive FVs (H : Hp) : List (Str × V) → List (Str × PyData) → Prop
  | nil : FVs H [] []
  | cons {f : Str} {v : V} {d : PyData} {vs : List (Str × V)} {ds : List (Str × PyData)} : DV H v d → FVs H vs ds → FVs H ((f, v) :: vs) ((f, d) :: ds)
theorem FVs.to {H H' : Hp} (s : Same H H') : ∀ {vs : List (Str × V)} {ds : List (Str × PyData)}, FVs H vs ds → FVs H' vs ds
  | _, _, .nil => .nil
  | _, _, .cons a r => .cons (DV.to a s) (FVs.to s r)
/-- the fields of an exception -/
def XF (H : Hp) (d : Option Addr) (fs : List (Str × PyData)) : Prop := match d with
  | none => fs = []
  | some dx => ∃ vs, H dx = some (.xd vs) ∧ FVs H vs fs
theorem XF.to {H H' : Hp} (s : Same H H') {d : Option Addr} {fs : List (Str × PyData)} (x : XF H d fs) : XF H' d fs := by
  cases d with
  | none => exact x
  | some dx =>
    obtain ⟨vs, h1, h2⟩ := x
    exact ⟨vs, s _ _ h1, h2.to s⟩
def XV (w : Wx) (H : Hp) (v : V) (x : Xn) : Prop := ∃ a C d, v = .ref a ∧ w.cl x.cls = some C ∧ H a = some (exc a (.ref C) d) ∧ XF H d x.fs
theorem XV.to {w : Wx} {H H' : Hp} {v : V} {x : Xn} (h : XV w H v x) (s : Same H H') : XV w H' v x := by
  obtain ⟨a, C, d, h1, h2, h3, h4⟩ := h
  exact ⟨a, C, d, h1, h2, s _ _ h3, h4.to s⟩
/-- the rows of a dict stand still -/
def KD (L : Hp) (xs : List DRow) : Prop := ∀ x ∈ xs, Sol L x.b (x.k.map V.int) ∧ DV L x.v x.d
theorem KD.to {L L' : Hp} {xs : List DRow} (s : Same L L') (h : KD L xs) : KD L' xs := fun x hx => ⟨(h x hx).1.to s, (h x hx).2.to s⟩
/-- the members of a set of tuples stand still; M: the members, some perhaps more than once -/
def TSM (L : Hp) (A : List (Addr × List Int)) (M : List (List Int)) : Prop := (∀ p ∈ A, Sol L p.1 (p.2.map V.int)) ∧ A.length ≤ M.length ∧ ∀ k, k ∈ A.map (·.2) ↔ k ∈ M
theorem TSM.to {L L' : Hp} {A : List (Addr × List Int)} {M : List (List Int)} (h : TSM L A M) (s : Same L L') : TSM L' A M := ⟨fun p hp => (h.1 p hp).to s, h.2⟩
def DVd (L : Hp) (v : V) (xs : List DRow) : Prop := ∃ a, v = .ref a ∧ IsDct L a xs ∧ KD L xs
theorem DVd.to {L L' : Hp} {v : V} {xs : List DRow} (s : Same L L') (h : DVd L v xs) : DVd L' v xs := by
  obtain ⟨a, h1, h2, h3⟩ := h
  obtain ⟨ob, h2⟩ := h2
  exact ⟨a, h1, ⟨ob, s _ _ h2⟩, h3.to s⟩
/-- a shared thing of any kind: what it is, in the heap that stands still -/
structure Gn where
  ok : Hp → V → Prop
  mono : ∀ {H H' : Hp} {v : V}, Same H H' → ok H v → ok H' v
inductive SV where
  | un | sh (d : PyData) | ow (ds : List PyData) | bx | st (S : Int → Bool) (n : Nat) | raw (v : V) | exn (x : Xn) | dco (xs : List DRow) | dsh (xs : List DRow) | sto (M : List (List Int)) | gen (g : Gn)
structure Env where
  s : List SV
  c : Nat
def Env.set (ε : Env) (i : Nat) (x : SV) : Env := ⟨ε.s.set i x, ε.c⟩
def Own : SV → Bool
  | .ow _ => true
  | .st _ _ => true
  | .dco _ => true
  | .sto _ => true
  | _ => false
def SlotR (w : Wx) (Z : Zx) (O : Addr → Prop) (L H : Hp) (o : Option V) : SV → Prop
  | .un => True
  | .sh d => ∃ v, o = some v ∧ DV L v d
  | .ow ds => ∃ a xs, o = some (.ref a) ∧ O a ∧ L a = none ∧ Z.H0 a = none ∧ H a = some (.lst xs) ∧ DVs L xs ds
  | .bx => ∃ b, Z.b = some b ∧ o = some (.ref b)
  | .st S n => ∃ a, o = some (.ref a) ∧ O a ∧ L a = none ∧ Z.H0 a = none ∧ H a = some (SetO w a S n)
  | .raw v => o = some v
  | .exn x => ∃ v, o = some v ∧ XV w L v x
  | .dco xs => ∃ a, o = some (.ref a) ∧ O a ∧ L a = none ∧ Z.H0 a = none ∧ IsDct H a xs ∧ KD L xs
  | .dsh xs => ∃ v, o = some v ∧ DVd L v xs
  | .gen g => ∃ v, o = some v ∧ g.ok L v
  | .sto M => ∃ a A, o = some (.ref a) ∧ O a ∧ L a = none ∧ Z.H0 a = none ∧ H a = some (SetTI w.w a A) ∧ TSM L A M
structure Rep (w : Wx) (Z : Zx) (O : Addr → Prop) (L H : Hp) (σ : L2.St) (ε : Env) : Prop where
  lh : Same L H
  pn : Same Z.P L
  ex : Ext Z.b Z.L0 Z.H0 L H
  bo : ∀ b, Z.b = some b → L b = none ∧ Box H b ε.c ∧ Z.H0 b ≠ none
  oh : ∀ a, O a → H a ≠ none ∧ Z.H0 a = none
  len : σ.length = ε.s.length
  sl : ∀ (i : Nat) (x : SV), ε.s[i]? = some x → ∃ o, σ[i]? = some o ∧ SlotR w Z O L H o x
  di : ∀ (i j : Nat) (x y : SV) (a : Addr), i ≠ j → ε.s[i]? = some x → ε.s[j]? = some y → Own x = true → Own y = true → σ[i]? = some (some (.ref a)) → σ[j]? ≠ some (some (.ref a))
  ph : w.Φ Z
inductive R where
  | sh (d : PyData) | nw (ds : List PyData) | br (i : Nat) (ds : List PyData) | bx | raw (v : V) | sr (i : Nat) (S : Int → Bool) (n : Nat) | exn (x : Xn) | dnw (xs : List DRow) | dbr (i : Nat) (xs : List DRow) | dsh (xs : List DRow) | srt (i : Nat) (M : List (List Int)) | gen (g : Gn)
def VR (w : Wx) (Z : Zx) (O : Addr → Prop) (σ : L2.St) (Hs L H : Hp) (v : V) : R → Prop
  | .sh d => DV L v d
  | .nw ds => ∃ a xs, v = .ref a ∧ Hs a = none ∧ ¬ O a ∧ Z.H0 a = none ∧ L a = none ∧ H a = some (.lst xs) ∧ DVs L xs ds
  | .br i ds => ∃ a xs, v = .ref a ∧ σ[i]? = some (some (.ref a)) ∧ O a ∧ Z.H0 a = none ∧ L a = none ∧ H a = some (.lst xs) ∧ DVs L xs ds
  | .bx => ∃ b, Z.b = some b ∧ v = .ref b
  | .raw u => v = u
  | .sr i S n => ∃ a, v = .ref a ∧ σ[i]? = some (some (.ref a)) ∧ O a ∧ Z.H0 a = none ∧ L a = none ∧ H a = some (SetO w a S n)
  | .exn x => XV w L v x
  | .dnw xs => ∃ a, v = .ref a ∧ Hs a = none ∧ ¬ O a ∧ Z.H0 a = none ∧ L a = none ∧ IsDct H a xs ∧ KD L xs
  | .dbr i xs => ∃ a, v = .ref a ∧ σ[i]? = some (some (.ref a)) ∧ O a ∧ Z.H0 a = none ∧ L a = none ∧ IsDct H a xs ∧ KD L xs
  | .dsh xs => DVd L v xs
  | .gen g => g.ok L v
  | .srt i M => ∃ a A, v = .ref a ∧ σ[i]? = some (some (.ref a)) ∧ O a ∧ Z.H0 a = none ∧ L a = none ∧ H a = some (SetTI w.w a A) ∧ TSM L A M
/-- as VR, for what operations give: nothing of the slots -/
def VR0 (Hs L H : Hp) (v : V) : R → Prop
  | .sh d => DV L v d
  | .nw ds => ∃ a xs, v = .ref a ∧ Hs a = none ∧ L a = none ∧ H a = some (.lst xs) ∧ DVs L xs ds
  | .dnw xs => ∃ a, v = .ref a ∧ Hs a = none ∧ L a = none ∧ IsDct H a xs ∧ KD L xs
  | .dsh xs => DVd L v xs
  | .gen g => g.ok L v
  | _ => False
section
variable {w : Wx} {Z : Zx} {O : Addr → Prop} {σ : L2.St} {ε : Env} {Hs L H L' H' : Hp} {v : V} {r : R}
theorem Rep.nob (x : Rep w Z O L H σ ε) {a : Addr} (h : Z.H0 a = none) : Z.b ≠ some a := fun e => (x.bo a e).2.2 h
theorem VR.mono (x : VR w Z O σ Hs L H v r) (y : Rep w Z O L H σ ε) (e : Ext Z.b L H L' H') : VR w Z O σ Hs L' H' v r := by
  cases r with
  | sh d => exact DV.to x e.ll
  | nw ds =>
    obtain ⟨a, xs, rfl, h1, h2, h3, h4, h5, h6⟩ := x
    exact ⟨a, xs, rfl, h1, h2, h3, e.fr a h4 (by rw [h5]; exact fun z => nomatch z), e.hh a _ h5 (y.nob h3), h6.to e.ll⟩
  | br i ds =>
    obtain ⟨a, xs, rfl, h1, h2, h3, h4, h5, h6⟩ := x
    exact ⟨a, xs, rfl, h1, h2, h3, e.fr a h4 (by rw [h5]; exact fun z => nomatch z), e.hh a _ h5 (y.nob h3), h6.to e.ll⟩
  | bx => exact x
  | raw u => exact x
  | exn y => exact XV.to x e.ll
  | sr i S n =>
    obtain ⟨a, rfl, h1, h2, h3, h4, h5⟩ := x
    exact ⟨a, rfl, h1, h2, h3, e.fr a h4 (by rw [h5]; exact fun z => nomatch z), e.hh a _ h5 (y.nob h3)⟩
  | dnw xs =>
    obtain ⟨a, rfl, h1, h2, h3, h4, ⟨ob, h5⟩, h6⟩ := x
    exact ⟨a, rfl, h1, h2, h3, e.fr a h4 (by rw [h5]; exact fun z => nomatch z), ⟨ob, e.hh a _ h5 (y.nob h3)⟩, h6.to e.ll⟩
  | dbr i xs =>
    obtain ⟨a, rfl, h1, h2, h3, h4, ⟨ob, h5⟩, h6⟩ := x
    exact ⟨a, rfl, h1, h2, h3, e.fr a h4 (by rw [h5]; exact fun z => nomatch z), ⟨ob, e.hh a _ h5 (y.nob h3)⟩, h6.to e.ll⟩
  | srt i M =>
    obtain ⟨a, A, rfl, h1, h2, h3, h4, h5, h6⟩ := x
    exact ⟨a, A, rfl, h1, h2, h3, e.fr a h4 (by rw [h5]; exact fun z => nomatch z), e.hh a _ h5 (y.nob h3), h6.to e.ll⟩
  | dsh xs => exact DVd.to e.ll x
  | gen g => exact g.mono e.ll x
theorem VR.back (x : VR w Z O σ Hs L H v r) {Hr Lr : Hp} (e : Ext Z.b Lr Hr L' Hs) : VR w Z O σ Hr L H v r := by
  cases r with
  | nw ds =>
    obtain ⟨a, xs, rfl, h1, h2, h3, h4, h5, h6⟩ := x
    exact ⟨a, xs, rfl, e.free h1, h2, h3, h4, h5, h6⟩
  | dnw xs =>
    obtain ⟨a, rfl, h1, h2, h3, h4, h5, h6⟩ := x
    exact ⟨a, rfl, e.free h1, h2, h3, h4, h5, h6⟩
  | _ => exact x
theorem VR0.vr (x : VR0 Hs L H v r) (y : Rep w Z O L' Hs σ ε) : VR w Z O σ Hs L H v r := by
  cases r with
  | sh d => exact x
  | nw ds =>
    obtain ⟨a, xs, rfl, h1, h4, h5, h6⟩ := x
    exact ⟨a, xs, rfl, h1, fun o => (y.oh a o).1 h1, y.ex.free h1, h4, h5, h6⟩
  | br i ds => exact x.elim
  | bx => exact x.elim
  | raw u => exact x.elim
  | sr i S n => exact x.elim
  | exn y => exact x.elim
  | dnw xs =>
    obtain ⟨a, rfl, h1, h4, h5, h6⟩ := x
    exact ⟨a, rfl, h1, fun o => (y.oh a o).1 h1, y.ex.free h1, h4, h5, h6⟩
  | dbr i xs => exact x.elim
  | srt i M => exact x.elim
  | dsh xs => exact x
  | gen g => exact x
/-- what an operation leaves, the slots hold -/
theorem Rep.step (x : Rep w Z O L H σ ε) (e : Ext none L H L' H') (s : Same L' H') : Rep w Z O L' H' σ ε := by
  have hh : ∀ a o, H a = some o → H' a = some o := fun a o h => e.hh a o h fun z => nomatch z
  refine ⟨s, x.pn.trans e.ll, x.ex.trans e.any, fun b hb => ?_, fun a h => ⟨e.dom a (x.oh a h).1, (x.oh a h).2⟩, x.len, fun i y hy => ?_, x.di, x.ph⟩
  · obtain ⟨h1, h2, h3⟩ := x.bo b hb
    refine ⟨e.fr b h1 h2.there, ?_, h3⟩
    obtain ⟨x0, x1, x2, q, r⟩ := h2
    exact ⟨x0, x1, x2, hh _ _ q, r⟩
  · obtain ⟨o, h1, h2⟩ := x.sl i y hy
    refine ⟨o, h1, ?_⟩
    cases y with
    | un => trivial
    | sh d =>
      obtain ⟨v, e1, e2⟩ := h2
      exact ⟨v, e1, e2.to e.ll⟩
    | ow ds =>
      obtain ⟨a, xs, e1, e2, e3, e4, e5, e6⟩ := h2
      exact ⟨a, xs, e1, e2, e.fr a e3 (by rw [e5]; exact fun z => nomatch z), e4, hh _ _ e5, e6.to e.ll⟩
    | bx => exact h2
    | st S n =>
      obtain ⟨a, e1, e2, e3, e4, e5⟩ := h2
      exact ⟨a, e1, e2, e.fr a e3 (by rw [e5]; exact fun z => nomatch z), e4, hh _ _ e5⟩
    | raw u => exact h2
    | exn x => obtain ⟨v, e1, e2⟩ := h2; exact ⟨v, e1, e2.to e.ll⟩
    | dco xs =>
      obtain ⟨a, e1, e2, e3, e4, ⟨ob, e5⟩, e6⟩ := h2
      exact ⟨a, e1, e2, e.fr a e3 (by rw [e5]; exact fun z => nomatch z), e4, ⟨ob, hh _ _ e5⟩, e6.to e.ll⟩
    | sto M =>
      obtain ⟨a, A, e1, e2, e3, e4, e5, e6⟩ := h2
      exact ⟨a, A, e1, e2, e.fr a e3 (by rw [e5]; exact fun z => nomatch z), e4, hh _ _ e5, e6.to e.ll⟩
    | dsh xs => obtain ⟨v, e1, e2⟩ := h2; exact ⟨v, e1, e2.to e.ll⟩
    | gen g => obtain ⟨v, e1, e2⟩ := h2; exact ⟨v, e1, g.mono e.ll e2⟩
/-- a new list that nobody holds is published -/
theorem pub (x : Rep w Z O L' H' σ ε) (e : Ext Z.b L H L' H') {ds : List PyData} (h : VR w Z O σ H L' H' v (.nw ds)) : ∃ L2, Rep w Z O L2 H' σ ε ∧ Ext Z.b L H L2 H' ∧ DV L2 v (.list ds) := by
  obtain ⟨a, xs, rfl, h1, h2, h3, h4, h5, h6⟩ := h
  have s1 : Same L' (upd L' a (.lst xs)) := same_upd h4
  refine ⟨upd L' a (.lst xs), ⟨same_pub x.lh h5, x.pn.trans s1, ⟨x.ex.ll.trans s1, x.ex.hh, x.ex.dom, fun b hb hd => ?_⟩, fun b hb => ?_, x.oh, x.len, fun i y hy => ?_, x.di, x.ph⟩, ⟨e.ll.trans s1, e.hh, e.dom, fun b hb hd => ?_⟩, .lst upd_same (h6.to s1)⟩
  · rw [upd_ne (ne_at hd h3)]; exact x.ex.fr b hb hd
  · obtain ⟨q1, q2, q3⟩ := x.bo b hb
    exact ⟨by rw [upd_ne (ne_at q3 h3)]; exact q1, q2, q3⟩
  · obtain ⟨o, q1, q2⟩ := x.sl i y hy
    refine ⟨o, q1, ?_⟩
    cases y with
    | un => trivial
    | sh d =>
      obtain ⟨v, e1, e2⟩ := q2
      exact ⟨v, e1, e2.to s1⟩
    | ow ds =>
      obtain ⟨b, ys, e1, e2, e3, e4, e5, e6⟩ := q2
      exact ⟨b, ys, e1, e2, by rw [upd_ne (fun z => h2 (by rw [← z]; exact e2))]; exact e3, e4, e5, e6.to s1⟩
    | bx => exact q2
    | st S n =>
      obtain ⟨b, e1, e2, e3, e4, e5⟩ := q2
      exact ⟨b, e1, e2, by rw [upd_ne (fun z => h2 (by rw [← z]; exact e2))]; exact e3, e4, e5⟩
    | raw u => exact q2
    | exn x => obtain ⟨v, e1, e2⟩ := q2; exact ⟨v, e1, e2.to s1⟩
    | dco xs =>
      obtain ⟨b, e1, e2, e3, e4, e5, e6⟩ := q2
      exact ⟨b, e1, e2, by rw [upd_ne (fun z => h2 (by rw [← z]; exact e2))]; exact e3, e4, e5, e6.to s1⟩
    | sto M =>
      obtain ⟨b, A, e1, e2, e3, e4, e5, e6⟩ := q2
      exact ⟨b, A, e1, e2, by rw [upd_ne (fun z => h2 (by rw [← z]; exact e2))]; exact e3, e4, e5, e6.to s1⟩
    | dsh xs => obtain ⟨v, e1, e2⟩ := q2; exact ⟨v, e1, e2.to s1⟩
    | gen g => obtain ⟨v, e1, e2⟩ := q2; exact ⟨v, e1, g.mono s1 e2⟩
  · rw [upd_ne (ne_at hd h1)]; exact e.fr b hb hd
end
/-- a value as data, its own list (if it is one) as it stands in H -/
def VL (L H : Hp) (v : V) (d : PyData) : Prop := DV L v d ∨ ∃ a xs ds, d = .list ds ∧ v = .ref a ∧ H a = some (.lst xs) ∧ DVs L xs ds
section
variable {L H : Hp} {v : V}
theorem VL.dv {d : PyData} (x : VL L H v d) (s : Same L H) : DV H v d := by
  rcases x with x | ⟨a, xs, ds, rfl, rfl, h, r⟩
  · exact x.to s
  · exact .lst h (r.to s)
theorem VL.lst {ds : List PyData} (x : VL L H v (.list ds)) (s : Same L H) : ∃ a xs, v = .ref a ∧ H a = some (.lst xs) ∧ DVs L xs ds := by
  rcases x with x | ⟨a, xs, es, e, rfl, h, r⟩
  · cases x with
    | lst h r => exact ⟨_, _, rfl, s _ _ h, r⟩
  · cases e; exact ⟨a, xs, rfl, h, r⟩
theorem VL.tup {ds : List PyData} (x : VL L H v (.tuple ds)) : ∃ a xs, v = .ref a ∧ Sol L a xs ∧ DVs L xs ds := by
  rcases x with x | ⟨a, xs, es, e, rfl, h, r⟩
  · cases x with
    | tup h r => exact ⟨_, _, rfl, h, r⟩
  · cases e
theorem VL.int {i : Int} (x : VL L H v (.int i)) : v = .int i := by
  rcases x with x | ⟨a, xs, es, e, _⟩
  · cases x; rfl
  · cases e
theorem VL.bl {i : Bool} (x : VL L H v (.bool i)) : v = .bl i := by
  rcases x with x | ⟨a, xs, es, e, _⟩
  · cases x; rfl
  · cases e
theorem VL.str {i : Str} (x : VL L H v (.str i)) : v = .str i := by
  rcases x with x | ⟨a, xs, es, e, _⟩
  · cases x; rfl
  · cases e
theorem VL.non (x : VL L H v .none) : v = .non := by
  rcases x with x | ⟨a, xs, es, e, _⟩
  · cases x; rfl
  · cases e
end
/-- as data, a pair just made by a walk taken as it stands -/
def VT (L H : Hp) (v : V) (d : PyData) : Prop := DV L v d ∨ ∃ a xs ds, d = .tuple ds ∧ v = .ref a ∧ H a = some (.tup xs) ∧ DVs L xs ds
def VI (pk : Bool) (L H : Hp) (v : V) (d : PyData) : Prop := match pk with
  | true => VT L H v d
  | false => DV L v d
theorem VI.of {pk : Bool} {L H : Hp} {v : V} {d : PyData} (h : DV L v d) : VI pk L H v d := by
  cases pk with
  | true => exact .inl h
  | false => exact h
def R.dat : R → Option PyData
  | .sh d => some d
  | .nw ds => some (.list ds)
  | .br _ ds => some (.list ds)
  | _ => none
theorem VR.vl {w : Wx} {Z : Zx} {O : Addr → Prop} {σ : L2.St} {Hs L H : Hp} {v : V} {r : R} {d : PyData} (x : VR w Z O σ Hs L H v r) (e : r.dat = some d) : VL L H v d := by
  cases r with
  | sh d => cases e; exact .inl x
  | nw ds =>
    cases e
    obtain ⟨a, xs, rfl, h1, h2, h3, h4, h5, h6⟩ := x
    exact .inr ⟨a, xs, ds, rfl, rfl, h5, h6⟩
  | br i ds =>
    cases e
    obtain ⟨a, xs, rfl, h1, h2, h3, h4, h5, h6⟩ := x
    exact .inr ⟨a, xs, ds, rfl, rfl, h5, h6⟩
  | bx => cases e
  | raw u => cases e
  | sr i S n => cases e
  | exn y => cases e
  | dnw xs => cases e
  | dbr i xs => cases e
  | srt i M => cases e
  | dsh xs => cases e
  | gen g => cases e
end Lp

namespace Lp
open PySem PySem.Spec PyProof.Rows L2
abbrev DTE := Env → (R → Env → Prop) → Prop
abbrev DTT := Env → (Bool → Env → Prop) → Prop
abbrev DTA := Env → (List R → Env → Prop) → Prop
structure SE (w : Wx) (t : TE) (f : DTE) : Prop where
  mono : ∀ ε (A B : R → Env → Prop), (∀ r ε', A r ε' → B r ε') → f ε A → f ε B
  run : ∀ (Z : Zx) (O : Addr → Prop) (σ : L2.St) (ε : Env) (L H : Hp) (Q : VK), Rep w Z O L H σ ε → f ε (fun r ε' => ∀ v L' H', Rep w Z O L' H' σ ε' → Ext Z.b L H L' H' → VR w Z O σ H L' H' v r → Q v H') → t σ H Q
structure ST (w : Wx) (t : TT) (f : DTT) : Prop where
  mono : ∀ ε (A B : Bool → Env → Prop), (∀ r ε', A r ε' → B r ε') → f ε A → f ε B
  run : ∀ (Z : Zx) (O : Addr → Prop) (σ : L2.St) (ε : Env) (L H : Hp) (Q : Bool → Hp → Prop), Rep w Z O L H σ ε → f ε (fun b ε' => ∀ L' H', Rep w Z O L' H' σ ε' → Ext Z.b L H L' H' → Q b H') → t σ H Q
inductive VRs (w : Wx) (Z : Zx) (O : Addr → Prop) (σ : L2.St) (Hs L H : Hp) : List V → List R → Prop
  | nil : VRs w Z O σ Hs L H [] []
  | cons {v : V} {vs : List V} {r : R} {rs : List R} : VR w Z O σ Hs L H v r → VRs w Z O σ Hs L H vs rs → VRs w Z O σ Hs L H (v :: vs) (r :: rs)
/-- n arguments, each published -/
structure SA (w : Wx) (n : Nat) (t : TA) (f : DTA) : Prop where
  mono : ∀ ε (A B : List R → Env → Prop), (∀ r ε', A r ε' → B r ε') → f ε A → f ε B
  run : ∀ (Z : Zx) (O : Addr → Prop) (σ : L2.St) (ε : Env) (L H : Hp) (Q : List V → Hp → Prop), Rep w Z O L H σ ε → f ε (fun rs ε' => ∀ vs L' H', Rep w Z O L' H' σ ε' → Ext Z.b L H L' H' → VRs w Z O σ H L' H' vs rs → rs.length = n → (∀ r ∈ rs, ∀ ds, r ≠ .nw ds) → Q vs H') → t σ H Q
section
variable {w : Wx} {ta tb tc : TE} {f g h : DTE}
theorem VRs.mono {Z : Zx} {O : Addr → Prop} {σ : L2.St} {ε : Env} {Hs L H L' H' : Hp} (y : Rep w Z O L H σ ε) (e : Ext Z.b L H L' H') : ∀ {vs : List V} {rs : List R}, VRs w Z O σ Hs L H vs rs → VRs w Z O σ Hs L' H' vs rs
  | _, _, .nil => .nil
  | _, _, .cons a r => .cons (a.mono y e) (VRs.mono y e r)
theorem VRs.back {Z : Zx} {O : Addr → Prop} {σ : L2.St} {Hs L H L' Hr Lr : Hp} (e : Ext Z.b Lr Hr L' Hs) : ∀ {vs : List V} {rs : List R}, VRs w Z O σ Hs L H vs rs → VRs w Z O σ Hr L H vs rs
  | _, _, .nil => .nil
  | _, _, .cons a r => .cons (a.back e) (VRs.back e r)
theorem VRs.len {Z : Zx} {O : Addr → Prop} {σ : L2.St} {Hs L H : Hp} : ∀ {vs : List V} {rs : List R}, VRs w Z O σ Hs L H vs rs → vs.length = rs.length
  | _, _, .nil => rfl
  | _, _, .cons _ r => by rw [List.length_cons, List.length_cons, r.len]
def dVar (i : Nat)  (ε : Env) (Q : R → Env → Prop) : Prop := match ε.s[i]? with
  | some (.sh d) => Q (.sh d) ε
  | some (.ow ds) => Q (.br i ds) ε
  | some .bx => Q .bx ε
  | some (.raw v) => Q (.raw v) ε
  | some (.st S n) => Q (.sr i S n) ε
  | some (.exn x) => Q (.exn x) ε
  | some (.dco xs) => Q (.dbr i xs) ε
  | some (.sto M) => Q (.srt i M) ε
  | some (.dsh xs) => Q (.dsh xs) ε
  | some (.gen g) => Q (.gen g) ε
  | _ => False
theorem se_var {i : Nat} : SE w (tVar i) (dVar i) := by
  constructor
  · intro ε A B h q
    unfold dVar at q ⊢
    split at q
    all_goals first | exact h _ _ q | exact q.elim
  · intro Z O σ ε L H Q x q
    unfold dVar at q
    have e0 := Ext.refl Z.b L H
    split at q
    · rename_i d hd
      obtain ⟨o, h1, v, h2, h3⟩ := x.sl i _ hd
      subst h2
      exact ⟨v, h1, q v L H x e0 h3⟩
    · rename_i ds hd
      obtain ⟨o, h1, a, xs, h2, h3, h4, h5, h6, h7⟩ := x.sl i _ hd
      subst h2
      exact ⟨.ref a, h1, q _ L H x e0 ⟨a, xs, rfl, h1, h3, h5, h4, h6, h7⟩⟩
    · rename_i hd
      obtain ⟨o, h1, b, h2, h3⟩ := x.sl i _ hd
      subst h3
      exact ⟨.ref b, h1, q _ L H x e0 ⟨b, h2, rfl⟩⟩
    · rename_i v hd
      obtain ⟨o, h1, h2⟩ := x.sl i _ hd
      have h2' : o = some v := h2
      subst h2'
      exact ⟨v, h1, q _ L H x e0 rfl⟩
    · rename_i S n hd
      obtain ⟨o, h1, a, h2, h3, h4, h5, h6⟩ := x.sl i _ hd
      subst h2
      exact ⟨.ref a, h1, q _ L H x e0 ⟨a, rfl, h1, h3, h5, h4, h6⟩⟩
    · rename_i y hd
      obtain ⟨o, h1, v, h2, h3⟩ := x.sl i _ hd
      subst h2
      exact ⟨v, h1, q v L H x e0 h3⟩
    · rename_i xs hd
      obtain ⟨o, h1, a, h2, h3, h4, h5, h6, h7⟩ := x.sl i _ hd
      subst h2
      exact ⟨.ref a, h1, q _ L H x e0 ⟨a, rfl, h1, h3, h5, h4, h6, h7⟩⟩
    · rename_i M hd
      obtain ⟨o, h1, a, A, h2, h3, h4, h5, h6, h7⟩ := x.sl i _ hd
      subst h2
      exact ⟨.ref a, h1, q _ L H x e0 ⟨a, A, rfl, h1, h3, h5, h4, h6, h7⟩⟩
    · rename_i xs hd
      obtain ⟨o, h1, v, h2, h3⟩ := x.sl i _ hd
      subst h2
      exact ⟨v, h1, q v L H x e0 h3⟩
    · rename_i g hd
      obtain ⟨o, h1, v, h2, h3⟩ := x.sl i _ hd
      subst h2
      exact ⟨v, h1, q v L H x e0 h3⟩
    · exact q.elim
def dC (d : PyData)  (ε : Env) (Q : R → Env → Prop) : Prop := Q (.sh d) ε
theorem se_int {i : Int} : SE w (tC (.int i)) (dC (.int i)) := ⟨fun ε A B h q => h _ _ q, fun Z O σ ε L H Q x q => q _ L H x (Ext.refl _ _ _) (.int i)⟩
theorem se_bl {i : Bool} : SE w (tC (.bl i)) (dC (.bool i)) := ⟨fun ε A B h q => h _ _ q, fun Z O σ ε L H Q x q => q _ L H x (Ext.refl _ _ _) (.bl i)⟩
theorem se_str {i : Str} : SE w (tC (.str i)) (dC (.str i)) := ⟨fun ε A B h q => h _ _ q, fun Z O σ ε L H Q x q => q _ L H x (Ext.refl _ _ _) (.str i)⟩
theorem se_non : SE w (tC .non) (dC .none) := ⟨fun ε A B h q => h _ _ q, fun Z O σ ε L H Q x q => q _ L H x (Ext.refl _ _ _) .non⟩
def dRaw (v : V)  (ε : Env) (Q : R → Env → Prop) : Prop := Q (.raw v) ε
structure R2K (r : R2) (φ : PyData → PyData → (R → Prop) → Prop) : Prop where
  mono : ∀ x y (A B : R → Prop), (∀ r, A r → B r) → φ x y A → φ x y B
  run : ∀ (L H : Hp) (x y : V) (dx dy : PyData) (Q : VK), Same L H → VL L H x dx → VL L H y dy → φ dx dy (fun r => ∀ v L' H', Ext none L H L' H' → Same L' H' → VR0 H L' H' v r → Q v H') → r x y H Q
def dOp (φ : PyData → PyData → (R → Prop) → Prop) (f g : DTE)  (ε : Env) (Q : R → Env → Prop) : Prop := f ε fun x ε1 => g ε1 fun y ε2 => match x.dat, y.dat with
  | some dx, some dy => φ dx dy fun r => Q r ε2
  | _, _ => False
theorem se_op {r : R2} {φ : PyData → PyData → (R → Prop) → Prop} (k : R2K r φ) (hf : SE w ta f) (hg : SE w tb g) : SE w (tOp r ta tb) (dOp φ f g) := by
  constructor
  · intro ε A B h q
    refine hf.mono _ _ _ (fun x ε1 q => hg.mono _ _ _ (fun y ε2 q => ?_) q) q
    show match x.dat, y.dat with
      | some dx, some dy => φ dx dy fun r => B r ε2
      | _, _ => False
    split at q
    · exact k.mono _ _ _ _ (fun r q => h _ _ q) q
    · exact q.elim
  · intro Z O σ ε L H Q X q
    refine hf.run Z O σ ε L H _ X (hf.mono _ _ _ (fun x ε1 q => ?_) q)
    intro v L1 H1 X1 e1 r1
    refine hg.run Z O σ ε1 L1 H1 _ X1 (hg.mono _ _ _ (fun y ε2 q => ?_) q)
    intro u L2 H2 X2 e2 r2
    have r1' := r1.mono X1 e2
    split at q
    · rename_i dx dy ex ey
      refine k.run L2 H2 v u dx dy Q X2.lh (r1'.vl ex) (r2.vl ey) (k.mono _ _ _ _ (fun r q => ?_) q)
      intro z L3 H3 e3 s3 r3
      exact q z L3 H3 (X2.step e3 s3) ((e1.trans e2).trans e3.any) ((r3.vr X2).back (e1.trans e2))
    · exact q.elim
def dUn (φ : PyData → (R → Prop) → Prop) (f : DTE)  (ε : Env) (Q : R → Env → Prop) : Prop := f ε fun x ε1 => match x.dat with
  | some dx => φ dx fun r => Q r ε1
  | _ => False
def dTest (f : DTE)  (ε : Env) (Q : Bool → Env → Prop) : Prop := f ε fun r ε1 => match r.dat with
  | some (.bool k) => Q k ε1
  | _ => False
theorem st_test (hf : SE w ta f) : ST w (tTest ta) (dTest f) := by
  constructor
  · intro ε A B h q
    refine hf.mono _ _ _ (fun r ε1 q => ?_) q
    show match r.dat with
      | some (.bool k) => B k ε1
      | _ => False
    split at q
    · exact h _ _ q
    · exact q.elim
  · intro Z O σ ε L H Q X q
    refine hf.run Z O σ ε L H _ X (hf.mono _ _ _ (fun r ε1 q => ?_) q)
    intro v L1 H1 X1 e1 r1
    split at q
    · rename_i k ek
      exact ⟨k, (r1.vl ek).bl, q L1 H1 X1 e1⟩
    · exact q.elim
def truD : PyData → Option Bool
  | .none => some false
  | .bool b => some b
  | .int i => some (i != 0)
  | .list ds => some (!ds.isEmpty)
  | .tuple ds => some (!ds.isEmpty)
  | _ => none
theorem isE {H : Hp} {xs : List V} {ds : List PyData} (h : DVs H xs ds) : xs.isEmpty = ds.isEmpty := by cases h <;> rfl
def dTruth (f : DTE)  (ε : Env) (Q : Bool → Env → Prop) : Prop := f ε fun r ε1 => match r.dat.bind truD with
  | some k => Q k ε1
  | _ => False
theorem tru_of {K : PySem.W.Frag} {L H : Hp} {v : V} {d : PyData} {k : Bool} (x : VL L H v d) (s : Same L H) (e : truD d = some k) : TruV K v H k := by
  cases d with
  | none => rw [x.non]; cases e; rfl
  | bool b => rw [x.bl]; cases e; rfl
  | int i => rw [x.int]; cases e; rfl
  | list ds =>
    obtain ⟨a, xs, rfl, h1, h2⟩ := x.lst s
    cases e
    exact .inl ⟨xs, SqL.of h1, by rw [isE h2]⟩
  | tuple ds =>
    obtain ⟨a, xs, rfl, h1, h2⟩ := x.tup
    cases e
    exact .inr (.inl ⟨xs, (h1.to s).seq, by rw [isE h2]⟩)
  | str _ => cases e
  | dict _ => cases e
theorem st_truth {K : PySem.W.Frag} (hf : SE w ta f) : ST w (fun σ H Q => ta σ H fun x H1 => ∃ k, TruV K x H1 k ∧ Q k H1) (dTruth f) := by
  constructor
  · intro ε A B h q
    refine hf.mono _ _ _ (fun r ε1 q => ?_) q
    show match r.dat.bind truD with
      | some k => B k ε1
      | _ => False
    split at q
    · exact h _ _ q
    · exact q.elim
  · intro Z O σ ε L H Q X q
    refine hf.run Z O σ ε L H _ X (hf.mono _ _ _ (fun r ε1 q => ?_) q)
    intro v L1 H1 X1 e1 r1
    split at q
    · rename_i k ek
      cases ed : r.dat with
      | none => rw [ed] at ek; cases ek
      | some d =>
        rw [ed] at ek
        exact ⟨k, tru_of (r1.vl ed) X1.lh ek, q L1 H1 X1 e1⟩
    · exact q.elim
def dAnd (f g : DTT)  (ε : Env) (Q : Bool → Env → Prop) : Prop := f ε fun c ε1 => if c = true then g ε1 Q else Q false ε1
def dOr (f g : DTT)  (ε : Env) (Q : Bool → Env → Prop) : Prop := f ε fun c ε1 => if c = true then Q true ε1 else g ε1 Q
def dNot (f : DTT)  (ε : Env) (Q : Bool → Env → Prop) : Prop := f ε fun c ε1 => Q (!c) ε1
variable {t u : TT} {p q : DTT}
theorem st_or (hf : ST w t p) (hg : ST w u q) : ST w (tOr t u) (dOr p q) := by
  constructor
  · intro ε A B h z
    refine hf.mono _ _ _ (fun c ε1 z => ?_) z
    cases c with
    | false => exact iteF (hg.mono _ _ _ h (by rw [if_neg Bool.false_ne_true] at z; exact z))
    | true => exact iteT (h _ _ (by rw [if_pos rfl] at z; exact z))
  · intro Z O σ ε L H Q X z
    refine hf.run Z O σ ε L H _ X (hf.mono _ _ _ (fun c ε1 z => ?_) z)
    intro L1 H1 X1 e1
    cases c with
    | false =>
      rw [if_neg Bool.false_ne_true] at z
      exact iteF (hg.run Z O σ ε1 L1 H1 _ X1 (hg.mono _ _ _ (fun b ε2 z L2 H2 X2 e2 => z L2 H2 X2 (e1.trans e2)) z))
    | true =>
      rw [if_pos rfl] at z
      exact iteT (z L1 H1 X1 e1)
theorem st_not (hf : ST w t p) : ST w (tNot t) (dNot p) := by
  constructor
  · intro ε A B h z
    exact hf.mono _ _ _ (fun c ε1 z => h _ _ z) z
  · intro Z O σ ε L H Q X z
    exact hf.run Z O σ ε L H _ X z
def dYes  (ε : Env) (Q : Bool → Env → Prop) : Prop := Q true ε
theorem st_yes : ST w tYes dYes := ⟨fun ε A B h q => h _ _ q, fun Z O σ ε L H Q X z => z L H X (Ext.refl _ _ _)⟩
def dIf (c : DTT) (f g : DTE)  (ε : Env) (Q : R → Env → Prop) : Prop := c ε fun b ε1 => if b = true then f ε1 Q else g ε1 Q
theorem se_if (hc : ST w t p) (hf : SE w ta f) (hg : SE w tb g) : SE w (tIf t ta tb) (dIf p f g) := by
  constructor
  · intro ε A B h z
    refine hc.mono _ _ _ (fun c ε1 z => ?_) z
    cases c with
    | false => exact iteF (hg.mono _ _ _ h (by rw [if_neg Bool.false_ne_true] at z; exact z))
    | true => exact iteT (hf.mono _ _ _ h (by rw [if_pos rfl] at z; exact z))
  · intro Z O σ ε L H Q X z
    refine hc.run Z O σ ε L H _ X (hc.mono _ _ _ (fun c ε1 z => ?_) z)
    intro L1 H1 X1 e1
    cases c with
    | false =>
      rw [if_neg Bool.false_ne_true] at z
      exact iteF (hg.run Z O σ ε1 L1 H1 _ X1 (hg.mono _ _ _ (fun b ε2 z v L2 H2 X2 e2 r => z v L2 H2 X2 (e1.trans e2) (r.back e1)) z))
    | true =>
      rw [if_pos rfl] at z
      exact iteT (hf.run Z O σ ε1 L1 H1 _ X1 (hf.mono _ _ _ (fun b ε2 z v L2 H2 X2 e2 r => z v L2 H2 X2 (e1.trans e2) (r.back e1)) z))
def dAndV (f g : DTE)  (ε : Env) (Q : R → Env → Prop) : Prop := f ε fun r ε1 => match r.dat with
  | some (.bool k) => if k = true then g ε1 Q else Q (.sh (.bool false)) ε1
  | _ => False
def dOrV (f g : DTE)  (ε : Env) (Q : R → Env → Prop) : Prop := f ε fun r ε1 => match r.dat with
  | some (.bool k) => if k = true then Q (.sh (.bool true)) ε1 else g ε1 Q
  | _ => False
def dNotV (f : DTE)  (ε : Env) (Q : R → Env → Prop) : Prop := f ε fun r ε1 => match r.dat with
  | some (.bool b) => Q (.sh (.bool (!b))) ε1
  | _ => False
theorem se_andV (hf : SE w ta f) (hg : SE w tb g) : SE w (tAndV ta tb) (dAndV f g) := by
  constructor
  · intro ε A B h z
    refine hf.mono _ _ _ (fun r ε1 z => ?_) z
    split at z
    · rename_i k _
      cases k with
      | true => exact iteT (hg.mono _ _ _ h (by rw [if_pos rfl] at z; exact z))
      | false => exact iteF (h _ _ (by rw [if_neg Bool.false_ne_true] at z; exact z))
    · exact z.elim
  · intro Z O σ ε L H Q X z
    refine hf.run Z O σ ε L H _ X (hf.mono _ _ _ (fun r ε1 z => ?_) z)
    intro v L1 H1 X1 e1 r1
    split at z
    · rename_i k ek
      cases k with
      | true =>
        rw [if_pos rfl] at z
        exact ⟨true, (r1.vl ek).bl, iteT (hg.run Z O σ ε1 L1 H1 _ X1 (hg.mono _ _ _ (fun b ε2 z v L2 H2 X2 e2 r => z v L2 H2 X2 (e1.trans e2) (r.back e1)) z))⟩
      | false =>
        rw [if_neg Bool.false_ne_true] at z
        exact ⟨false, (r1.vl ek).bl, iteF (z _ L1 H1 X1 e1 (.bl false))⟩
    · exact z.elim
theorem se_orV (hf : SE w ta f) (hg : SE w tb g) : SE w (tOrV ta tb) (dOrV f g) := by
  constructor
  · intro ε A B h z
    refine hf.mono _ _ _ (fun r ε1 z => ?_) z
    split at z
    · rename_i k _
      cases k with
      | false => exact iteF (hg.mono _ _ _ h (by rw [if_neg Bool.false_ne_true] at z; exact z))
      | true => exact iteT (h _ _ (by rw [if_pos rfl] at z; exact z))
    · exact z.elim
  · intro Z O σ ε L H Q X z
    refine hf.run Z O σ ε L H _ X (hf.mono _ _ _ (fun r ε1 z => ?_) z)
    intro v L1 H1 X1 e1 r1
    split at z
    · rename_i k ek
      cases k with
      | false =>
        rw [if_neg Bool.false_ne_true] at z
        exact ⟨false, (r1.vl ek).bl, iteF (hg.run Z O σ ε1 L1 H1 _ X1 (hg.mono _ _ _ (fun b ε2 z v L2 H2 X2 e2 r => z v L2 H2 X2 (e1.trans e2) (r.back e1)) z))⟩
      | true =>
        rw [if_pos rfl] at z
        exact ⟨true, (r1.vl ek).bl, iteT (z _ L1 H1 X1 e1 (.bl true))⟩
    · exact z.elim
theorem se_notV (hf : SE w ta f) : SE w (tNotV ta) (dNotV f) := by
  constructor
  · intro ε A B h z
    refine hf.mono _ _ _ (fun r ε1 z => ?_) z
    show match r.dat with
      | some (.bool b) => B (.sh (.bool (!b))) ε1
      | _ => False
    split at z
    · exact h _ _ z
    · exact z.elim
  · intro Z O σ ε L H Q X z
    refine hf.run Z O σ ε L H _ X (hf.mono _ _ _ (fun r ε1 z => ?_) z)
    intro v L1 H1 X1 e1 r1
    split at z
    · rename_i b ek
      exact ⟨b, (r1.vl ek).bl, z _ L1 H1 X1 e1 (.bl (!b))⟩
    · exact z.elim
/-- a op b op' c -/
def dChain (φ ψ : PyData → PyData → (R → Prop) → Prop) (f g h : DTE)  (ε : Env) (Q : R → Env → Prop) : Prop := f ε fun x ε1 => g ε1 fun y ε2 => match x.dat, y.dat with
  | some dx, some dy => φ dx dy fun r => match r with
    | .sh (.bool k) => if k = true then (h ε2 fun z ε3 => match z.dat with
      | some dz => ψ dy dz fun r => Q r ε3
      | _ => False) else Q (.sh (.bool false)) ε2
    | _ => False
  | _, _ => False
theorem se_chain {r s : R2} {φ ψ : PyData → PyData → (R → Prop) → Prop} (k : R2K r φ) (l : R2K s ψ) (hf : SE w ta f) (hg : SE w tb g) (hh : SE w tc h) : SE w (tChain r s ta tb tc) (dChain φ ψ f g h) := by
  constructor
  · intro ε A B hAB q
    refine hf.mono _ _ _ (fun x ε1 q => hg.mono _ _ _ (fun y ε2 q => ?_) q) q
    split at q
    · refine k.mono _ _ _ _ (fun r q => ?_) q
      split at q
      · rename_i k0
        cases k0 with
        | true =>
          rw [if_pos rfl] at q
          refine iteT (hh.mono _ _ _ (fun z ε3 q => ?_) q)
          split at q
          · exact l.mono _ _ _ _ (fun r q => hAB _ _ q) q
          · exact q.elim
        | false =>
          rw [if_neg Bool.false_ne_true] at q
          exact iteF (hAB _ _ q)
      · exact q.elim
    · exact q.elim
  · intro Z O σ ε L H Q X q
    refine hf.run Z O σ ε L H _ X (hf.mono _ _ _ (fun x ε1 q => ?_) q)
    intro v L1 H1 X1 e1 r1
    refine hg.run Z O σ ε1 L1 H1 _ X1 (hg.mono _ _ _ (fun y ε2 q => ?_) q)
    intro u L2 H2 X2 e2 r2
    have r1' := r1.mono X1 e2
    split at q
    · rename_i dx dy ex ey
      refine k.run L2 H2 v u dx dy _ X2.lh (r1'.vl ex) (r2.vl ey) (k.mono _ _ _ _ (fun r q => ?_) q)
      intro z L3 H3 e3 s3 r3
      have X3 := X2.step e3 s3
      have r2' := r2.mono X2 e3.any
      split at q
      · rename_i k0
        cases (show DV L3 z (.bool k0) from r3)
        cases k0 with
        | true =>
          rw [if_pos rfl] at q
          refine ⟨true, rfl, iteT ?_⟩
          refine hh.run Z O σ ε2 L3 H3 _ X3 (hh.mono _ _ _ (fun c ε3 q => ?_) q)
          intro z' L4 H4 X4 e4 r4
          split at q
          · rename_i dz ez
            refine l.run L4 H4 u z' dy dz Q X4.lh ((r2'.mono X3 e4).vl ey) (r4.vl ez) (l.mono _ _ _ _ (fun r q => ?_) q)
            intro o L5 H5 e5 s5 r5
            have et := ((e1.trans e2).trans e3.any).trans e4
            exact q o L5 H5 (X4.step e5 s5) (et.trans e5.any) ((r5.vr X4).back et)
          · exact q.elim
        | false =>
          rw [if_neg Bool.false_ne_true] at q
          exact ⟨false, rfl, iteF (q _ L3 H3 X3 ((e1.trans e2).trans e3.any) (.bl false))⟩
      · exact q.elim
    · exact q.elim
def R.pub : R → R
  | .nw ds => .sh (.list ds)
  | r => r
theorem R.pub_nw (r : R) (ds : List PyData) : r.pub ≠ .nw ds := by
  cases r <;> exact fun h => nomatch h
theorem publ {Z : Zx} {O : Addr → Prop} {σ : L2.St} {ε : Env} {L H L' H' : Hp} {v : V} {r : R} (x : Rep w Z O L' H' σ ε) (e : Ext Z.b L H L' H') (h : VR w Z O σ H L' H' v r) : ∃ L2, Rep w Z O L2 H' σ ε ∧ Ext Z.b L H L2 H' ∧ VR w Z O σ H L2 H' v r.pub := by
  cases r with
  | nw ds =>
    obtain ⟨L2, h1, h2, h3⟩ := Lp.pub x e h
    exact ⟨L2, h1, h2, h3⟩
  | _ => exact ⟨L', x, e, h⟩
def dNil  (ε : Env) (Q : List R → Env → Prop) : Prop := Q [] ε
def dCons (f : DTE) (g : DTA)  (ε : Env) (Q : List R → Env → Prop) : Prop := f ε fun r ε1 => g ε1 fun rs ε2 => Q (r.pub :: rs) ε2
theorem sa_nil : SA w 0 tNil dNil := ⟨fun ε A B h q => h _ _ q, fun Z O σ ε L H Q X z => z _ L H X (Ext.refl _ _ _) .nil rfl (fun _ h => nomatch h)⟩
theorem sa_cons {n : Nat} {tr : TA} {g : DTA} (hf : SE w ta f) (hg : SA w n tr g) : SA w (n + 1) (tCons ta tr) (dCons f g) := by
  constructor
  · intro ε A B h z
    exact hf.mono _ _ _ (fun r ε1 z => hg.mono _ _ _ (fun rs ε2 z => h _ _ z) z) z
  · intro Z O σ ε L H Q X z
    refine hf.run Z O σ ε L H _ X (hf.mono _ _ _ (fun r ε1 z => ?_) z)
    intro v L1 H1 X1 e1 r1
    obtain ⟨L1', X1', e1', r1'⟩ := publ X1 e1 r1
    refine hg.run Z O σ ε1 L1' H1 _ X1' (hg.mono _ _ _ (fun rs ε2 z => ?_) z)
    intro vs L2 H2 X2 e2 rs2 hl np
    refine z (v :: vs) L2 H2 X2 (e1'.trans e2) (.cons (r1'.mono X1' e2) (rs2.back e1')) (by rw [List.length_cons, hl]) (fun x hx ds => ?_)
    rcases List.mem_cons.mp hx with rfl | hx
    · exact R.pub_nw r ds
    · exact np x hx ds
/-- all of them data that stands still -/
def shs : List R → Option (List PyData)
  | [] => some []
  | .sh d :: rs => match shs rs with
    | some ds => some (d :: ds)
    | none => none
  | _ => none
theorem shs_ok {Z : Zx} {O : Addr → Prop} {σ : L2.St} {Hs L H : Hp} : ∀ {rs : List R} {vs : List V} {ds : List PyData}, VRs w Z O σ Hs L H vs rs → shs rs = some ds → DVs L vs ds
  | [], _, _, .nil, e => by cases e; exact .nil
  | .sh d :: rs, _, ds, .cons a r, e => by
    unfold shs at e
    split at e
    · rename_i es h
      cases e
      exact .cons a (shs_ok r h)
    · cases e
  | .nw _ :: _, _, _, .cons _ _, e => by cases e
  | .br _ _ :: _, _, _, .cons _ _, e => by cases e
  | .bx :: _, _, _, .cons _ _, e => by cases e
  | .raw _ :: _, _, _, .cons _ _, e => by cases e
  | .sr _ _ _ :: _, _, _, .cons _ _, e => by cases e
  | .exn _ :: _, _, _, .cons _ _, e => by cases e
  | .dnw _ :: _, _, _, .cons _ _, e => by cases e
  | .dbr _ _ :: _, _, _, .cons _ _, e => by cases e
  | .srt _ _ :: _, _, _, .cons _ _, e => by cases e
  | .dsh _ :: _, _, _, .cons _ _, e => by cases e
  | .gen _ :: _, _, _, .cons _ _, e => by cases e
def dTup (f : DTA)  (ε : Env) (Q : R → Env → Prop) : Prop := f ε fun rs ε1 => match shs rs with
  | some ds => Q (.sh (.tuple ds)) ε1
  | none => False
def dLst (f : DTA)  (ε : Env) (Q : R → Env → Prop) : Prop := f ε fun rs ε1 => match shs rs with
  | some ds => Q (.nw ds) ε1
  | none => False
theorem se_tup {n : Nat} {t : TA} {f : DTA} (hf : SA w n t f) (hn : n ≤ sizeLine := by decide) : SE w (tTupS t) (dTup f) := by
  constructor
  · intro ε A B h z
    refine hf.mono _ _ _ (fun rs ε1 z => ?_) z
    split at z
    · exact h _ _ z
    · exact z.elim
  · intro Z O σ ε L H Q X z
    refine hf.run Z O σ ε L H _ X (hf.mono _ _ _ (fun rs ε1 z => ?_) z)
    intro vs L1 H1 X1 e1 r1 hl np
    split at z
    · rename_i ds hd
      refine ⟨by rw [r1.len, hl]; exact hn, fun p o np no => ?_⟩
      have e2 : Ext none L1 H1 (upd L1 p (.frz o (.tup vs))) (upd H1 p (.frz o (.tup vs))) := Ext.new X1.lh np
      exact z _ _ _ (X1.step e2 (same_both X1.lh)) (e1.trans e2.any) (.tup ⟨o, no, upd_same⟩ ((shs_ok r1 hd).to e2.ll))
    · exact z.elim
theorem se_lst {n : Nat} {t : TA} {f : DTA} (hf : SA w n t f) (hn : n ≤ sizeLine := by decide) : SE w (tLst t) (dLst f) := by
  constructor
  · intro ε A B h z
    refine hf.mono _ _ _ (fun rs ε1 z => ?_) z
    split at z
    · exact h _ _ z
    · exact z.elim
  · intro Z O σ ε L H Q X z
    refine hf.run Z O σ ε L H _ X (hf.mono _ _ _ (fun rs ε1 z => ?_) z)
    intro vs L1 H1 X1 e1 r1 hl np
    split at z
    · rename_i ds hd
      refine ⟨by rw [r1.len, hl]; exact hn, fun p np => ?_⟩
      have e2 : Ext none L1 H1 L1 (upd H1 p (.lst vs)) := Ext.own np
      refine z _ _ _ (X1.step e2 (same_own X1.lh (X1.lh.free np))) (e1.trans e2.any) (VR.back (VR0.vr (r := .nw ds) ⟨p, vs, rfl, np, X1.lh.free np, upd_same, shs_ok r1 hd⟩ X1) e1)
    · exact z.elim
def dats : List R → Option (List PyData)
  | [] => some []
  | r :: rs => match r.dat, dats rs with
    | some d, some ds => some (d :: ds)
    | _, _ => none
inductive VLs (L H : Hp) : List V → List PyData → Prop
  | nil : VLs L H [] []
  | cons {v : V} {vs : List V} {d : PyData} {ds : List PyData} : VL L H v d → VLs L H vs ds → VLs L H (v :: vs) (d :: ds)
theorem dats_ok {Z : Zx} {O : Addr → Prop} {σ : L2.St} {Hs L H : Hp} : ∀ {rs : List R} {vs : List V} {ds : List PyData}, VRs w Z O σ Hs L H vs rs → dats rs = some ds → VLs L H vs ds
  | [], _, _, .nil, e => by cases e; exact .nil
  | r :: rs, _, ds, .cons a b, e => by
    unfold dats at e
    split at e
    · rename_i d es h1 h2
      cases e
      exact .cons (a.vl h1) (dats_ok b h2)
    · cases e
structure RCK (r : List V → Hp → VK → Prop) (φ : List PyData → (R → Prop) → Prop) : Prop where
  mono : ∀ x (A B : R → Prop), (∀ r, A r → B r) → φ x A → φ x B
  run : ∀ (L H : Hp) (xs : List V) (ds : List PyData) (Q : VK), Same L H → VLs L H xs ds → φ ds (fun r => ∀ v L' H', Ext none L H L' H' → Same L' H' → VR0 H L' H' v r → Q v H') → r xs H Q
def dCB (φ : List PyData → (R → Prop) → Prop) (f : DTA)  (ε : Env) (Q : R → Env → Prop) : Prop := f ε fun rs ε1 => match dats rs with
  | some ds => φ ds fun r => Q r ε1
  | _ => False
theorem se_cb {n : Nat} {t : TA} {f : DTA} {r : List V → Hp → VK → Prop} {φ : List PyData → (R → Prop) → Prop} (k : RCK r φ) (hf : SA w n t f) : SE w (tCB r t) (dCB φ f) := by
  constructor
  · intro ε A B h z
    refine hf.mono _ _ _ (fun rs ε1 z => ?_) z
    split at z
    · exact k.mono _ _ _ (fun r q => h _ _ q) z
    · exact z.elim
  · intro Z O σ ε L H Q X z
    refine hf.run Z O σ ε L H _ X (hf.mono _ _ _ (fun rs ε1 z => ?_) z)
    intro vs L1 H1 X1 e1 r1 hl np
    split at z
    · rename_i ds hd
      refine k.run L1 H1 vs ds Q X1.lh (dats_ok r1 hd) (k.mono _ _ _ (fun r q => ?_) z)
      intro z L3 H3 e3 s3 r3
      exact q z L3 H3 (X1.step e3 s3) (e1.trans e3.any) ((r3.vr X1).back e1)
    · exact z.elim
abbrev DTO := Env → (Option Int → Env → Prop) → Prop
def dNoP  (ε : Env) (Q : Option Int → Env → Prop) : Prop := Q none ε
def dPart (f : DTE)  (ε : Env) (Q : Option Int → Env → Prop) : Prop := f ε fun r ε1 => match r.dat with
  | some (.int i) => Q (some i) ε1
  | _ => False
def dSl (φ : PyData → Option Int → Option Int → (R → Prop) → Prop) (f : DTE) (l h : DTO)  (ε : Env) (Q : R → Env → Prop) : Prop := f ε fun r ε1 => l ε1 fun i ε2 => h ε2 fun j ε3 => match r.dat with
  | some d => φ d i j fun r => Q r ε3
  | _ => False
end
end Lp

namespace Lp
open PySem PySem.Spec PyProof.Rows L2
structure DEnds where
  nx : Env → Prop
  rt : R → Env → Prop
  bk : Env → Prop := fun _ => False
  ct : Env → Prop := fun _ => False
structure DEnds.le (A B : DEnds) : Prop where
  nx : ∀ ε, A.nx ε → B.nx ε
  rt : ∀ r ε, A.rt r ε → B.rt r ε
  bk : ∀ ε, A.bk ε → B.bk ε
  ct : ∀ ε, A.ct ε → B.ct ε
theorem DEnds.le.refl (A : DEnds) : A.le A := ⟨fun _ h => h, fun _ _ h => h, fun _ h => h, fun _ h => h⟩
abbrev DTS := DEnds → Env → Prop
structure EndsOk (w : Wx) (Z : Zx) (D : Ends) (Δ : DEnds) : Prop where
  nx : ∀ (O : Addr → Prop) (σ : L2.St) (ε : Env) (L H : Hp), Rep w Z O L H σ ε → Δ.nx ε → D.nx σ H
  rt : ∀ (O : Addr → Prop) (σ : L2.St) (ε : Env) (L H : Hp) (v : V) (r : R), Rep w Z O L H σ ε → VR0 Z.H0 L H v r → Δ.rt r ε → D.rt v H
  bk : ∀ (O : Addr → Prop) (σ : L2.St) (ε : Env) (L H : Hp), Rep w Z O L H σ ε → Δ.bk ε → D.bk σ H
  ct : ∀ (O : Addr → Prop) (σ : L2.St) (ε : Env) (L H : Hp), Rep w Z O L H σ ε → Δ.ct ε → D.ct σ H
structure SS (w : Wx) (t : TS) (f : DTS) : Prop where
  mono : ∀ Δ Δ' ε, DEnds.le Δ Δ' → f Δ ε → f Δ' ε
  run : ∀ (Z : Zx) (O : Addr → Prop) (σ : L2.St) (ε : Env) (L H : Hp) (D : Ends) (Δ : DEnds), Rep w Z O L H σ ε → EndsOk w Z D Δ → f Δ ε → t D σ H
section
variable {w : Wx} {Z : Zx} {O : Addr → Prop} {σ : L2.St} {ε : Env} {L H : Hp}
theorem get_set {α : Type} {l : List α} {i j : Nat} {x y : α} (h : (l.set i x)[j]? = some y) : (i = j ∧ y = x ∧ j < l.length) ∨ (i ≠ j ∧ l[j]? = some y) := by
  rw [List.getElem?_set] at h
  split at h
  · rename_i e
    subst e
    split at h
    · cases h; exact .inl ⟨rfl, rfl, by assumption⟩
    · cases h
  · rename_i e
    exact .inr ⟨e, h⟩
/-- a slot takes a value -/
theorem Rep.put0 (x : Rep w Z O L H σ ε) {i : Nat} {v : V} {y : SV} (O' : Addr → Prop) (ho : ∀ a, O a → O' a) (hn : ∀ a, O' a → H a ≠ none ∧ Z.H0 a = none) (h : SlotR w Z O' L H (some v) y) (hd : Own y = true → ∀ a, v = .ref a → ¬ O a) : Rep w Z O' L H (σ.set i (some v)) (ε.set i y) := by
  have own : ∀ (j : Nat) (z : SV) (a : Addr), ε.s[j]? = some z → Own z = true → σ[j]? = some (some (.ref a)) → O a := by
    intro j z a hz ho ha
    obtain ⟨o, h1, h2⟩ := x.sl j z hz
    rw [ha] at h1
    cases h1
    cases z with
    | ow ds => obtain ⟨b, xs, e, h3, _⟩ := h2; cases e; exact h3
    | st S n => obtain ⟨b, e, h3, _⟩ := h2; cases e; exact h3
    | dco xs => obtain ⟨b, e, h3, _⟩ := h2; cases e; exact h3
    | sto M => obtain ⟨b, A, e, h3, _⟩ := h2; cases e; exact h3
    | _ => cases ho
  refine ⟨x.lh, x.pn, x.ex, x.bo, hn, ?_, fun j z hz => ?_, fun j k z z' a hjk hz hz' oz oz' hj hk => ?_, x.ph⟩
  · show (σ.set i (some v)).length = (ε.s.set i y).length
    rw [List.length_set, List.length_set]; exact x.len
  · rcases get_set hz with ⟨rfl, rfl, hl⟩ | ⟨ne, hz⟩
    · refine ⟨some v, ?_, h⟩
      rw [List.getElem?_set, if_pos rfl, if_pos (by rw [x.len]; exact hl)]
    · obtain ⟨o, h1, h2⟩ := x.sl j z hz
      refine ⟨o, by rw [List.getElem?_set, if_neg ne]; exact h1, ?_⟩
      cases z with
      | ow ds => obtain ⟨a, xs, e1, e2, e3⟩ := h2; exact ⟨a, xs, e1, ho a e2, e3⟩
      | st S n => obtain ⟨a, e1, e2, e3⟩ := h2; exact ⟨a, e1, ho a e2, e3⟩
      | dco xs => obtain ⟨a, e1, e2, e3⟩ := h2; exact ⟨a, e1, ho a e2, e3⟩
      | sto M => obtain ⟨a, A, e1, e2, e3⟩ := h2; exact ⟨a, A, e1, ho a e2, e3⟩
      | _ => exact h2
  · rcases get_set hz with ⟨rfl, rfl, hl⟩ | ⟨ne, hz1⟩
    · rcases get_set hz' with ⟨rfl, _, _⟩ | ⟨ne', hz'⟩
      · exact hjk rfl
      · rw [List.getElem?_set, if_pos rfl, if_pos (by rw [x.len]; exact hl)] at hj
        rw [List.getElem?_set, if_neg ne'] at hk
        exact hd oz a (Option.some.inj (Option.some.inj hj)) (own k z' a hz' oz' hk)
    · rw [List.getElem?_set, if_neg ne] at hj
      rcases get_set hz' with ⟨e1, e2, hl⟩ | ⟨ne', hz2⟩
      · subst e1
        subst e2
        rw [List.getElem?_set, if_pos rfl, if_pos (by rw [x.len]; exact hl)] at hk
        exact hd oz' a (Option.some.inj (Option.some.inj hk)) (own j z a hz1 oz hj)
      · rw [List.getElem?_set, if_neg ne'] at hk
        exact x.di j k z z' a hjk hz1 hz2 oz oz' hj hk
theorem Rep.sh (x : Rep w Z O L H σ ε) {i : Nat} {v : V} {d : PyData} (h : DV L v d) : Rep w Z O L H (σ.set i (some v)) (ε.set i (.sh d)) :=
  x.put0 O (fun _ h => h) x.oh ⟨v, rfl, h⟩ (fun z => nomatch z)
theorem Rep.exnS (x : Rep w Z O L H σ ε) {i : Nat} {v : V} {y : Xn} (h : XV w L v y) : Rep w Z O L H (σ.set i (some v)) (ε.set i (.exn y)) :=
  x.put0 O (fun _ h => h) x.oh ⟨v, rfl, h⟩ (fun z => nomatch z)
theorem Rep.rawS (x : Rep w Z O L H σ ε) {i : Nat} {v : V} : Rep w Z O L H (σ.set i (some v)) (ε.set i (.raw v)) :=
  x.put0 O (fun _ h => h) x.oh rfl (fun z => nomatch z)
theorem Rep.dsS (x : Rep w Z O L H σ ε) {i : Nat} {v : V} {xs : List DRow} (h : DVd L v xs) : Rep w Z O L H (σ.set i (some v)) (ε.set i (.dsh xs)) :=
  x.put0 O (fun _ h => h) x.oh ⟨v, rfl, h⟩ (fun e => nomatch e)
theorem Rep.genS (x : Rep w Z O L H σ ε) {i : Nat} {v : V} {g : Gn} (h : g.ok L v) : Rep w Z O L H (σ.set i (some v)) (ε.set i (.gen g)) :=
  x.put0 O (fun _ h => h) x.oh ⟨v, rfl, h⟩ (fun e => nomatch e)
/-- an object that nobody holds is published -/
theorem Rep.pubO (x : Rep w Z O L H σ ε) {a : Addr} {o : HO} (h2 : ¬ O a) (h3 : Z.H0 a = none) (h4 : L a = none) (h5 : H a = some o) : Rep w Z O (upd L a o) H σ ε := by
  have s1 : Same L (upd L a o) := same_upd h4
  refine ⟨same_pub x.lh h5, x.pn.trans s1, ⟨x.ex.ll.trans s1, x.ex.hh, x.ex.dom, fun b hb hd => ?_⟩, fun b hb => ?_, x.oh, x.len, fun i y hy => ?_, x.di, x.ph⟩
  · rw [upd_ne (ne_at hd h3)]; exact x.ex.fr b hb hd
  · obtain ⟨q1, q2, q3⟩ := x.bo b hb
    exact ⟨by rw [upd_ne (ne_at q3 h3)]; exact q1, q2, q3⟩
  · obtain ⟨o, q1, q2⟩ := x.sl i y hy
    refine ⟨o, q1, ?_⟩
    cases y with
    | un => trivial
    | sh d =>
      obtain ⟨v, e1, e2⟩ := q2
      exact ⟨v, e1, e2.to s1⟩
    | ow ds =>
      obtain ⟨b, ys, e1, e2, e3, e4, e5, e6⟩ := q2
      exact ⟨b, ys, e1, e2, by rw [upd_ne (fun z => h2 (by rw [← z]; exact e2))]; exact e3, e4, e5, e6.to s1⟩
    | bx => exact q2
    | st S n =>
      obtain ⟨b, e1, e2, e3, e4, e5⟩ := q2
      exact ⟨b, e1, e2, by rw [upd_ne (fun z => h2 (by rw [← z]; exact e2))]; exact e3, e4, e5⟩
    | raw u => exact q2
    | exn x => obtain ⟨v, e1, e2⟩ := q2; exact ⟨v, e1, e2.to s1⟩
    | dco xs =>
      obtain ⟨b, e1, e2, e3, e4, e5, e6⟩ := q2
      exact ⟨b, e1, e2, by rw [upd_ne (fun z => h2 (by rw [← z]; exact e2))]; exact e3, e4, e5, e6.to s1⟩
    | sto M =>
      obtain ⟨b, A, e1, e2, e3, e4, e5, e6⟩ := q2
      exact ⟨b, A, e1, e2, by rw [upd_ne (fun z => h2 (by rw [← z]; exact e2))]; exact e3, e4, e5, e6.to s1⟩
    | dsh xs => obtain ⟨v, e1, e2⟩ := q2; exact ⟨v, e1, e2.to s1⟩
    | gen g => obtain ⟨v, e1, e2⟩ := q2; exact ⟨v, e1, g.mono s1 e2⟩
/-- what is stored of a value: own or for all to see -/
def val (own : Bool) : R → Option SV
  | .sh d => some (.sh d)
  | .nw ds => some (if own = true then .ow ds else .sh (.list ds))
  | .raw v => some (.raw v)
  | .exn x => some (.exn x)
  | .dnw xs => some (if own = true then .dco xs else .dsh xs)
  | .dsh xs => some (.dsh xs)
  | .gen g => some (.gen g)
  | _ => none
/-- a new list at a -/
def nwAt (r : R) (v : V) (a : Addr) : Prop := ((∃ ds, r = .nw ds) ∨ ∃ xs, r = .dnw xs) ∧ v = .ref a
theorem Rep.put {Hs : Hp} (x : Rep w Z O L H σ ε) {i : Nat} {own : Bool} {v : V} {r : R} {y : SV} (h : VR w Z O σ Hs L H v r) (hy : val own r = some y) : ∃ O' L', Rep w Z O' L' H (σ.set i (some v)) (ε.set i y) ∧ Same L L' ∧ (∀ a, L a = none → ¬ nwAt r v a → L' a = none) ∧ ∀ a, O' a → O a ∨ nwAt r v a := by
  cases r with
  | sh d =>
    cases hy
    exact ⟨O, L, x.sh h, Same.refl L, fun a h _ => h, fun a h => .inl h⟩
  | nw ds =>
    cases own with
    | true =>
      cases hy
      obtain ⟨a, xs, rfl, h1, h2, h3, h4, h5, h6⟩ := h
      refine ⟨fun b => O b ∨ b = a, L, x.put0 (fun b => O b ∨ b = a) (fun b h => .inl h) (fun b hb => ?_) ⟨a, xs, rfl, .inr rfl, h4, h3, h5, h6⟩ (fun _ b e => by cases e; exact h2), Same.refl L, fun b h _ => h, fun b hb => hb.imp id fun z => ⟨.inl ⟨_, rfl⟩, by rw [z]⟩⟩
      rcases hb with hb | rfl
      · exact x.oh b hb
      · exact ⟨by rw [h5]; exact (fun z => nomatch z), h3⟩
    | false =>
      cases hy
      have h' := h
      obtain ⟨a, xs, rfl, h1, h2, h3, h4, h5, h6⟩ := h'
      have s1 : Same L (upd L a (.lst xs)) := same_upd h4
      obtain ⟨L2, X2, e2, d2⟩ : ∃ L2, Rep w Z O L2 H σ ε ∧ L2 = upd L a (.lst xs) ∧ DV L2 (.ref a) (.list ds) := by
        refine ⟨_, ⟨same_pub x.lh h5, x.pn.trans s1, ⟨x.ex.ll.trans s1, x.ex.hh, x.ex.dom, fun b hb hd => ?_⟩, fun b hb => ?_, x.oh, x.len, fun i y hy => ?_, x.di, x.ph⟩, rfl, .lst upd_same (h6.to s1)⟩
        · rw [upd_ne (ne_at hd h3)]; exact x.ex.fr b hb hd
        · obtain ⟨q1, q2, q3⟩ := x.bo b hb
          exact ⟨by rw [upd_ne (ne_at q3 h3)]; exact q1, q2, q3⟩
        · obtain ⟨o, q1, q2⟩ := x.sl i y hy
          refine ⟨o, q1, ?_⟩
          cases y with
          | un => trivial
          | sh d =>
            obtain ⟨v, e1, e2⟩ := q2
            exact ⟨v, e1, e2.to s1⟩
          | ow ds =>
            obtain ⟨b, ys, e1, e2, e3, e4, e5, e6⟩ := q2
            exact ⟨b, ys, e1, e2, by rw [upd_ne (fun z => h2 (by rw [← z]; exact e2))]; exact e3, e4, e5, e6.to s1⟩
          | bx => exact q2
          | st S n =>
            obtain ⟨b, e1, e2, e3, e4, e5⟩ := q2
            exact ⟨b, e1, e2, by rw [upd_ne (fun z => h2 (by rw [← z]; exact e2))]; exact e3, e4, e5⟩
          | raw u => exact q2
          | exn x => obtain ⟨v, e1, e2⟩ := q2; exact ⟨v, e1, e2.to s1⟩
          | dco xs =>
            obtain ⟨b, e1, e2, e3, e4, e5, e6⟩ := q2
            exact ⟨b, e1, e2, by rw [upd_ne (fun z => h2 (by rw [← z]; exact e2))]; exact e3, e4, e5, e6.to s1⟩
          | sto M =>
            obtain ⟨b, A, e1, e2, e3, e4, e5, e6⟩ := q2
            exact ⟨b, A, e1, e2, by rw [upd_ne (fun z => h2 (by rw [← z]; exact e2))]; exact e3, e4, e5, e6.to s1⟩
          | dsh xs => obtain ⟨v, e1, e2⟩ := q2; exact ⟨v, e1, e2.to s1⟩
          | gen g => obtain ⟨v, e1, e2⟩ := q2; exact ⟨v, e1, g.mono s1 e2⟩
      refine ⟨O, L2, X2.sh d2, by rw [e2]; exact s1, fun b hb nb => ?_, fun b hb => .inl hb⟩
      rw [e2, upd_ne (fun z => nb ⟨.inl ⟨_, rfl⟩, by rw [z]⟩)]; exact hb
  | raw u =>
    cases hy
    cases (show v = u from h)
    exact ⟨O, L, x.rawS, Same.refl L, fun a h _ => h, fun a h => .inl h⟩
  | exn y =>
    cases hy
    exact ⟨O, L, x.exnS h, Same.refl L, fun a h _ => h, fun a h => .inl h⟩
  | br i ds => cases hy
  | bx => cases hy
  | sr i S n => cases hy
  | dbr i xs => cases hy
  | srt i M => cases hy
  | dsh xs =>
    cases hy
    exact ⟨O, L, x.dsS h, Same.refl L, fun a h _ => h, fun a h => .inl h⟩
  | gen g =>
    cases hy
    exact ⟨O, L, x.genS h, Same.refl L, fun a h _ => h, fun a h => .inl h⟩
  | dnw xs =>
    cases own with
    | true =>
      cases hy
      obtain ⟨a, rfl, h1, h2, h3, h4, h5, h6⟩ := h
      refine ⟨fun b => O b ∨ b = a, L, x.put0 (fun b => O b ∨ b = a) (fun b h => .inl h) (fun b hb => ?_) ⟨a, rfl, .inr rfl, h4, h3, h5, h6⟩ (fun _ b e => by cases e; exact h2), Same.refl L, fun b h _ => h, fun b hb => hb.imp id fun z => ⟨.inr ⟨_, rfl⟩, by rw [z]⟩⟩
      rcases hb with hb | rfl
      · exact x.oh b hb
      · exact ⟨h5.ne, h3⟩
    | false =>
      cases hy
      obtain ⟨a, rfl, h1, h2, h3, h4, ⟨ob, h5⟩, h6⟩ := h
      have s1 : Same L (upd L a (DctO ob a xs)) := same_upd h4
      obtain ⟨L2, X2, e2, d2⟩ : ∃ L2, Rep w Z O L2 H σ ε ∧ L2 = upd L a (DctO ob a xs) ∧ DVd L2 (.ref a) xs :=
        ⟨_, x.pubO h2 h3 h4 h5, rfl, a, rfl, ⟨ob, upd_same⟩, h6.to s1⟩
      refine ⟨O, L2, X2.dsS d2, by rw [e2]; exact s1, fun b hb nb => ?_, fun b hb => .inl hb⟩
      rw [e2, upd_ne (fun z => nb ⟨.inr ⟨_, rfl⟩, by rw [z]⟩)]; exact hb
end
section
variable {w : Wx} {ta tb tc : TE} {f g h : DTE} {t u : TS} {p q : DTS}
def dNext  (Δ : DEnds) (ε : Env) : Prop := Δ.nx ε
theorem ss_next : SS w tNext dNext := ⟨fun _ _ ε l z => l.nx ε z, fun Z O σ ε L H D Δ X E z => E.nx O σ ε L H X z⟩
def dSeq (p q : DTS)  (Δ : DEnds) (ε : Env) : Prop := p { Δ with nx := q Δ } ε
theorem ss_seq (hp : SS w t p) (hq : SS w u q) : SS w (tSeq t u) (dSeq p q) :=
  ⟨fun Δ Δ' ε l z => hp.mono { Δ with nx := q Δ } _ ε ⟨fun ε z => hq.mono _ _ ε l z, l.rt, l.bk, l.ct⟩ z,
   fun Z O σ ε L H D Δ X E z => hp.run Z O σ ε L H _ { Δ with nx := q Δ } X ⟨fun O σ ε L H X z => hq.run Z O σ ε L H D Δ X E z, E.rt, E.bk, E.ct⟩ z⟩
def dBreak  (Δ : DEnds) (ε : Env) : Prop := Δ.bk ε
def dCont  (Δ : DEnds) (ε : Env) : Prop := Δ.ct ε
def dNever  (_ : DEnds) (_ : Env) : Prop := False
theorem ss_never : SS w tNever dNever := ⟨fun _ _ _ _ z => z, fun Z O σ ε L H D Δ X E z => z⟩
def dDrop (f : DTE)  (Δ : DEnds) (ε : Env) : Prop := f ε fun _ ε1 => Δ.nx ε1
theorem ss_drop (hf : SE w ta f) : SS w (tDrop ta) (dDrop f) :=
  ⟨fun Δ Δ' ε l z => hf.mono _ _ _ (fun _ ε1 z => l.nx ε1 z) z,
   fun Z O σ ε L H D Δ X E z => hf.run Z O σ ε L H _ X (hf.mono _ _ _ (fun _ ε1 z v L1 H1 X1 e1 r1 => E.nx O σ ε1 L1 H1 X1 z) z)⟩
def R.ret : R → Option R
  | .sh d => some (.sh d)
  | .nw ds => some (.nw ds)
  | .br _ ds => some (.nw ds)
  | .dnw xs => some (.dnw xs)
  | .dbr _ xs => some (.dnw xs)
  | .dsh xs => some (.dsh xs)
  | .gen g => some (.gen g)
  | _ => none
def dRet (f : DTE)  (Δ : DEnds) (ε : Env) : Prop := f ε fun r ε1 => match r.ret with
  | some r => Δ.rt r ε1
  | none => False
theorem VR.ret {Z : Zx} {O : Addr → Prop} {σ : L2.St} {Hs L H : Hp} {v : V} {r r' : R} (x : VR w Z O σ Hs L H v r) (e : r.ret = some r') : VR0 Z.H0 L H v r' := by
  cases r with
  | sh d => cases e; exact x
  | nw ds =>
    cases e
    obtain ⟨a, xs, rfl, h1, h2, h3, h4, h5, h6⟩ := x
    exact ⟨a, xs, rfl, h3, h4, h5, h6⟩
  | br i ds =>
    cases e
    obtain ⟨a, xs, rfl, h1, h2, h3, h4, h5, h6⟩ := x
    exact ⟨a, xs, rfl, h3, h4, h5, h6⟩
  | bx => cases e
  | raw u => cases e
  | sr i S n => cases e
  | exn y => cases e
  | dnw xs =>
    cases e
    obtain ⟨a, rfl, h1, h2, h3, h4, h5, h6⟩ := x
    exact ⟨a, rfl, h3, h4, h5, h6⟩
  | dbr i xs =>
    cases e
    obtain ⟨a, rfl, h1, h2, h3, h4, h5, h6⟩ := x
    exact ⟨a, rfl, h3, h4, h5, h6⟩
  | srt i M => cases e
  | dsh xs => cases e; exact x
  | gen g => cases e; exact x
theorem ss_ret (hf : SE w ta f) : SS w (tRet ta) (dRet f) := by
  constructor
  · intro Δ Δ' ε l z
    refine hf.mono _ _ _ (fun r ε1 z => ?_) z
    split at z
    · exact l.rt _ _ z
    · exact z.elim
  · intro Z O σ ε L H D Δ X E z
    refine hf.run Z O σ ε L H _ X (hf.mono _ _ _ (fun r ε1 z => ?_) z)
    intro v L1 H1 X1 e1 r1
    split at z
    · rename_i r' hr
      exact E.rt O σ ε1 L1 H1 v r' X1 (r1.ret hr) z
    · exact z.elim
def dRetN  (Δ : DEnds) (ε : Env) : Prop := Δ.rt (.sh .none) ε
def dIfS (c : DTT) (p q : DTS)  (Δ : DEnds) (ε : Env) : Prop := c ε fun b ε1 => if b = true then p Δ ε1 else q Δ ε1
theorem ss_if {c : TT} {k : DTT} (hc : ST w c k) (hp : SS w t p) (hq : SS w u q) : SS w (tIfS c t u) (dIfS k p q) := by
  constructor
  · intro Δ Δ' ε l z
    refine hc.mono _ _ _ (fun b ε1 z => ?_) z
    cases b with
    | true => exact iteT (hp.mono _ _ _ l (by rw [if_pos rfl] at z; exact z))
    | false => exact iteF (hq.mono _ _ _ l (by rw [if_neg Bool.false_ne_true] at z; exact z))
  · intro Z O σ ε L H D Δ X E z
    refine hc.run Z O σ ε L H _ X (hc.mono _ _ _ (fun b ε1 z => ?_) z)
    intro L1 H1 X1 e1
    cases b with
    | true => exact iteT (hp.run Z O σ ε1 L1 H1 D Δ X1 E (by rw [if_pos rfl] at z; exact z))
    | false => exact iteF (hq.run Z O σ ε1 L1 H1 D Δ X1 E (by rw [if_neg Bool.false_ne_true] at z; exact z))
def dSetG (own : Bool) (i : Nat) (f : DTE)  (Δ : DEnds) (ε : Env) : Prop := f ε fun r ε1 => match val own r with
  | some x => Δ.nx (ε1.set i x)
  | none => False
theorem ss_set (own : Bool) {i : Nat} (hf : SE w ta f) : SS w (tAsg ta (gName i)) (dSetG own i f) := by
  constructor
  · intro Δ Δ' ε l z
    refine hf.mono _ _ _ (fun r ε1 z => ?_) z
    split at z
    · exact l.nx _ z
    · exact z.elim
  · intro Z O σ ε L H D Δ X E z
    refine hf.run Z O σ ε L H _ X (hf.mono _ _ _ (fun r ε1 z => ?_) z)
    intro v L1 H1 X1 e1 r1
    split at z
    · rename_i x hx
      obtain ⟨O', L', X', _⟩ := X1.put (i := i) r1 hx
      exact E.nx O' _ _ L' H1 X' z
    · exact z.elim
def dPar (i : Nat) (oi : Bool) (j : Nat) (oj : Bool) (f g : DTE)  (Δ : DEnds) (ε : Env) : Prop := f ε fun x ε1 => g ε1 fun y ε2 => match val oi x, val oj y with
  | some a, some b => Δ.nx ((ε2.set i a).set j b)
  | _, _ => False
theorem VR.setσ {Z : Zx} {O O' : Addr → Prop} {σ σ' : L2.St} {Hs L L' H : Hp} {v : V} {r : R} (N : Addr → Prop) (x : VR w Z O σ Hs L H v r) {own : Bool} {y : SV} (hy : val own r = some y) (s : Same L L') (hl : ∀ a, L a = none → ¬ N a → L' a = none) (ho : ∀ a, O' a → O a ∨ N a) (hu : ∀ a, N a → Hs a ≠ none) : VR w Z O' σ' Hs L' H v r := by
  cases r with
  | sh d => exact DV.to x s
  | nw ds =>
    obtain ⟨a, xs, rfl, h1, h2, h3, h4, h5, h6⟩ := x
    have ne : ¬ N a := fun z => hu a z h1
    exact ⟨a, xs, rfl, h1, fun o => (ho a o).elim h2 ne, h3, hl a h4 ne, h5, h6.to s⟩
  | raw u => exact x
  | exn y => exact XV.to x s
  | br i ds => cases hy
  | bx => cases hy
  | sr i S n => cases hy
  | dbr i xs => cases hy
  | srt i M => cases hy
  | dsh xs => exact DVd.to s x
  | gen g => exact g.mono s x
  | dnw xs =>
    obtain ⟨a, rfl, h1, h2, h3, h4, h5, h6⟩ := x
    have ne : ¬ N a := fun z => hu a z h1
    exact ⟨a, rfl, h1, fun o => (ho a o).elim h2 ne, h3, hl a h4 ne, h5, h6.to s⟩
theorem VR.nwAt {Z : Zx} {O : Addr → Prop} {σ : L2.St} {Hs L H : Hp} {v : V} {r : R} {a : Addr} (x : VR w Z O σ Hs L H v r) (e : Lp.nwAt r v a) : H a ≠ none := by
  obtain ⟨⟨ds, rfl⟩ | ⟨ys, rfl⟩, rfl⟩ := e
  · obtain ⟨b, xs, e, h1, h2, h3, h4, h5, h6⟩ := x
    cases e
    rw [h5]; exact fun z => nomatch z
  · obtain ⟨b, e, h1, h2, h3, h4, h5, h6⟩ := x
    cases e
    exact h5.ne
theorem two_put {Z : Zx} {O : Addr → Prop} {σ : L2.St} {ε : Env} {H L1 H1 L2 H2 : Hp} {v u : V} {x y : R} {oi oj : Bool} {i j : Nat} {a b : SV} (X2 : Rep w Z O L2 H2 σ ε) (r1 : VR w Z O σ H L1 H1 v x) (r1' : VR w Z O σ H L2 H2 v x) (r2 : VR w Z O σ H1 L2 H2 u y) (ha : val oi x = some a) (hb : val oj y = some b) :
    ∃ O' L', Rep w Z O' L' H2 ((σ.set i (some v)).set j (some u)) ((ε.set i a).set j b) ∧ Same L2 L' ∧ (∀ a, L2 a = none → ¬ (nwAt x v a ∨ nwAt y u a) → L' a = none) ∧ ∀ a, O' a → O a ∨ nwAt x v a ∨ nwAt y u a := by
  obtain ⟨O', L', X3, s3, hl3, ho3⟩ := X2.put (i := i) r1' ha
  have r2' : VR w Z O' (σ.set i (some v)) H1 L' H2 u y := r2.setσ (nwAt x v) hb s3 hl3 ho3 fun a ea => r1.nwAt ea
  obtain ⟨O2, L3, X4, s4, hl4, ho4⟩ := X3.put (i := j) r2' hb
  refine ⟨O2, L3, X4, s3.trans s4, fun a h n => hl4 a (hl3 a h (fun z => n (.inl z))) (fun z => n (.inr z)), fun a h => ?_⟩
  rcases ho4 a h with q | q
  · exact (ho3 a q).imp id .inl
  · exact .inr (.inr q)
theorem ss_par {i j : Nat} {oi oj : Bool} (hf : SE w ta f) (hg : SE w tb g) : SS w (tPar i j (tCons ta (tCons tb tNil))) (dPar i oi j oj f g) := by
  constructor
  · intro Δ Δ' ε l z
    refine hf.mono _ _ _ (fun x ε1 z => hg.mono _ _ _ (fun y ε2 z => ?_) z) z
    split at z
    · exact l.nx _ z
    · exact z.elim
  · intro Z O σ ε L H D Δ X E z
    refine hf.run Z O σ ε L H _ X (hf.mono _ _ _ (fun x ε1 z => ?_) z)
    intro v L1 H1 X1 e1 r1
    refine hg.run Z O σ ε1 L1 H1 _ X1 (hg.mono _ _ _ (fun y ε2 z => ?_) z)
    intro u L2 H2 X2 e2 r2
    split at z
    · rename_i a b ha hb
      obtain ⟨O', L', X', _⟩ := two_put (i := i) (j := j) X2 r1 (r1.mono X1 e2) r2 ha hb
      exact ⟨v, u, rfl, E.nx O' _ _ L' H2 X' z⟩
    · exact z.elim
def dPar3 (i : Nat) (oi : Bool) (j : Nat) (oj : Bool) (k : Nat) (ok : Bool) (f g h : DTE)  (Δ : DEnds) (ε : Env) : Prop := f ε fun x ε1 => g ε1 fun y ε2 => h ε2 fun z ε3 => match val oi x, val oj y, val ok z with
  | some a, some b, some c => Δ.nx (((ε3.set i a).set j b).set k c)
  | _, _, _ => False
end
end Lp

namespace Lp
open PySem PySem.Spec PyProof.Rows L2
section
variable {w : Wx} {Z : Zx} {O : Addr → Prop} {σ : L2.St} {ε : Env} {L H : Hp}
/-- the list of slot i changes -/
theorem Rep.mut (x : Rep w Z O L H σ ε) {i : Nat} {a : Addr} {y z : SV} {o : HO} (hi : ε.s[i]? = some y) (hy : Own y = true) (ha : σ[i]? = some (some (.ref a))) (h : SlotR w Z O L (upd H a o) (some (.ref a)) z) : Rep w Z O L (upd H a o) σ (ε.set i z) ∧ L a = none ∧ Z.H0 a = none ∧ O a := by
  obtain ⟨o1, h1, h2⟩ := x.sl i y hi
  rw [ha] at h1
  cases h1
  have key : O a ∧ L a = none ∧ Z.H0 a = none := by
    cases y with
    | ow ds => obtain ⟨b, xs, e, k1, k2, k3, _⟩ := h2; cases e; exact ⟨k1, k2, k3⟩
    | st S n => obtain ⟨b, e, k1, k2, k3, _⟩ := h2; cases e; exact ⟨k1, k2, k3⟩
    | dco xs => obtain ⟨b, e, k1, k2, k3, _⟩ := h2; cases e; exact ⟨k1, k2, k3⟩
    | sto M => obtain ⟨b, A, e, k1, k2, k3, _⟩ := h2; cases e; exact ⟨k1, k2, k3⟩
    | _ => cases hy
  obtain ⟨k1, k2, k3⟩ := key
  have nb : ∀ b, Z.b = some b → b ≠ a := fun b hb e => (x.bo b hb).2.2 (by rw [e]; exact k3)
  refine ⟨⟨same_own x.lh k2, x.pn, ⟨x.ex.ll, fun b u hb nb => ?_, fun b hb => ?_, x.ex.fr⟩, fun b hb => ?_, fun b hb => ⟨?_, (x.oh b hb).2⟩, ?_, fun j u hu => ?_, fun j k u u' b hjk hu hu' ou ou' => ?_, x.ph⟩, k2, k3, k1⟩
  · rw [upd_ne (ne_of_none hb k3)]; exact x.ex.hh b u hb nb
  · by_cases q : b = a
    · rw [q, upd_same]; exact fun z => nomatch z
    · rw [upd_ne q]; exact x.ex.dom b hb
  · obtain ⟨q1, q2, q3⟩ := x.bo b hb
    exact ⟨q1, q2.keep (upd_ne (nb b hb)), q3⟩
  · by_cases q : b = a
    · rw [q, upd_same]; exact fun z => nomatch z
    · rw [upd_ne q]; exact (x.oh b hb).1
  · show σ.length = (ε.s.set i z).length
    rw [List.length_set]; exact x.len
  · rcases get_set hu with ⟨rfl, rfl, hl⟩ | ⟨ne, hu1⟩
    · exact ⟨_, ha, h⟩
    · obtain ⟨o2, g1, g2⟩ := x.sl j u hu1
      refine ⟨o2, g1, ?_⟩
      cases u with
      | ow ds =>
        obtain ⟨b, ys, e1, e2, e3, e4, e5, e6⟩ := g2
        subst e1
        have ba : b ≠ a := fun q => x.di i j y (.ow ds) a ne hi hu1 hy rfl ha (by rw [g1, q])
        exact ⟨b, ys, rfl, e2, e3, e4, by rw [upd_ne ba]; exact e5, e6⟩
      | st S n =>
        obtain ⟨b, e1, e2, e3, e4, e5⟩ := g2
        subst e1
        have ba : b ≠ a := fun q => x.di i j y (.st S n) a ne hi hu1 hy rfl ha (by rw [g1, q])
        exact ⟨b, rfl, e2, e3, e4, by rw [upd_ne ba]; exact e5⟩
      | dco xs =>
        obtain ⟨b, e1, e2, e3, e4, e5, e6⟩ := g2
        subst e1
        have ba : b ≠ a := fun q => x.di i j y (.dco xs) a ne hi hu1 hy rfl ha (by rw [g1, q])
        exact ⟨b, rfl, e2, e3, e4, (let ⟨ob, k⟩ := e5; ⟨ob, by rw [upd_ne ba]; exact k⟩), e6⟩
      | sto M =>
        obtain ⟨b, A, e1, e2, e3, e4, e5, e6⟩ := g2
        subst e1
        have ba : b ≠ a := fun q => x.di i j y (.sto M) a ne hi hu1 hy rfl ha (by rw [g1, q])
        exact ⟨b, A, rfl, e2, e3, e4, by rw [upd_ne ba]; exact e5, e6⟩
      | _ => exact g2
  · have back : ∀ (j : Nat) (u : SV), (ε.set i z).s[j]? = some u → Own u = true → ∃ u', ε.s[j]? = some u' ∧ Own u' = true := fun j u hu ou => by
      rcases get_set hu with ⟨rfl, rfl, _⟩ | ⟨_, h⟩
      · exact ⟨y, hi, hy⟩
      · exact ⟨u, h, ou⟩
    obtain ⟨v, hv, ov⟩ := back j u hu ou
    obtain ⟨v', hv', ov'⟩ := back k u' hu' ou'
    exact x.di j k v v' b hjk hv hv' ov ov'
end
section
variable {w : Wx} {ta tb tc te : TE} {f g h : DTE} {t u : TS} {p q : DTS} {K : PySem.W.Frag}
def dAppend (i : Nat) (f : DTE)  (Δ : DEnds) (ε : Env) : Prop := match ε.s[i]? with
  | some (.ow _) => f ε fun r ε1 => match r.pub, ε1.s[i]? with
    | .sh d, some (.ow ds) => ds.length < sizeLine ∧ Δ.nx (ε1.set i (.ow (ds ++ [d])))
    | _, _ => False
  | _ => False
theorem ss_append {i : Nat} (hf : SE w te f) : SS w (tDrop (tBM K "list" rAppend (tVar i) (tCons te tNil))) (dAppend i f) := by
  constructor
  · intro Δ Δ' ε l z
    unfold dAppend at z ⊢
    split at z
    · refine hf.mono _ _ _ (fun r ε1 z => ?_) z
      split at z
      · exact ⟨z.1, l.nx _ z.2⟩
      · exact z.elim
    · exact z.elim
  · intro Z O σ ε L H D Δ X E z
    unfold dAppend at z
    split at z
    · rename_i ds0 h0
      obtain ⟨o, h1, a, xs, h2, h3, h4, h5, h6, h7⟩ := X.sl i _ h0
      subst h2
      refine ⟨.ref a, h1, .inl ⟨rfl, _, SqL.of h6⟩, ?_⟩
      refine hf.run Z O σ ε L H _ X (hf.mono _ _ _ (fun r ε1 z => ?_) z)
      intro v L1 H1 X1 e1 r1
      split at z
      · rename_i d ds hd hs
        obtain ⟨L2, X2, e2, r2⟩ := publ X1 e1 r1
        rw [hd] at r2
        obtain ⟨o', g1, b, ys, g2, g3, g4, g5, g6, g7⟩ := X2.sl i _ hs
        subst g2
        rw [h1] at g1
        cases g1
        refine ⟨a, ys, v, rfl, rfl, g6, by rw [g7.len]; exact z.1, ?_⟩
        have X3 := (X2.mut (o := .lst (ys ++ [v])) hs rfl h1 (z := .ow (ds ++ [d])) ⟨a, _, rfl, g3, g4, g5, upd_same, g7.app (.one r2)⟩).1
        exact E.nx _ _ _ _ _ X3 z.2
      · exact z.elim
    · exact z.elim
/-- xs.append(ys.pop(e)) -/
def dAppPop (i j : Nat) (f : DTE)  (Δ : DEnds) (ε : Env) : Prop := match ε.s[i]?, ε.s[j]? with
  | some (.ow _), some (.ow _) => f ε fun r ε1 => match r.dat, ε1.s[i]?, ε1.s[j]? with
    | some (.int k), some (.ow ds), some (.ow es) => 0 ≤ k ∧ k < (es.length : Int) ∧ es.length < 1000000 ∧ ds.length < sizeLine ∧ ∃ d, es[k.toNat]? = some d ∧ Δ.nx ((ε1.set j (.ow (es.eraseIdx k.toNat))).set i (.ow (ds ++ [d])))
    | _, _, _ => False
  | _, _ => False
theorem DVs.erase {H : Hp} : ∀ {vs : List V} {ds : List PyData} (n : Nat), DVs H vs ds → DVs H (vs.eraseIdx n) (ds.eraseIdx n)
  | _, _, _, .nil => .nil
  | _, _, 0, .cons a r => r
  | _, _, n + 1, .cons a r => .cons a (r.erase n)
theorem ss_appPop {i j : Nat} (hij : i ≠ j) (hf : SE w te f) : SS w (tDrop (tBM K "list" rAppend (tVar i) (tCons (tBM K "list" rPopAt (tVar j) (tCons te tNil)) tNil))) (dAppPop i j f) := by
  constructor
  · intro Δ Δ' ε l z
    unfold dAppPop at z ⊢
    split at z
    · refine hf.mono _ _ _ (fun r ε1 z => ?_) z
      split at z
      · obtain ⟨h1, h2, h3, h4, d, h5, h6⟩ := z
        exact ⟨h1, h2, h3, h4, d, h5, l.nx _ h6⟩
      · exact z.elim
    · exact z.elim
  · intro Z O σ ε L H D Δ X E z
    unfold dAppPop at z
    split at z
    · rename_i ds0 es0 h0 h0'
      obtain ⟨o, h1, a, xs, h2, h3, h4, h5, h6, h7⟩ := X.sl i _ h0
      subst h2
      obtain ⟨o', k1, b, zs, k2, k3, k4, k5, k6, k7⟩ := X.sl j _ h0'
      subst k2
      refine ⟨.ref a, h1, .inl ⟨rfl, _, SqL.of h6⟩, .ref b, k1, .inl ⟨rfl, _, SqL.of k6⟩, ?_⟩
      refine hf.run Z O σ ε L H _ X (hf.mono _ _ _ (fun r ε1 z => ?_) z)
      intro v L1 H1 X1 e1 r1
      split at z
      · rename_i k ds es hd hs hs'
        obtain ⟨m1, m2, m3, m4, d, m5, m6⟩ := z
        cases (r1.vl hd).int
        obtain ⟨_, g1, _, ys, g2, g3, g4, g5, g6, g7⟩ := X1.sl i _ hs
        subst g2
        rw [h1] at g1
        cases g1
        obtain ⟨_, f1, _, us, f2, f3, f4, f5, f6, f7⟩ := X1.sl j _ hs'
        subst f2
        rw [k1] at f1
        cases f1
        have ab : a ≠ b := fun q => X1.di i j _ _ a hij hs hs' rfl rfl h1 (by rw [k1, q])
        obtain ⟨u, hu, du⟩ := f7.get m5
        have hl := f7.len
        refine ⟨b, us, k, k.toNat, u, rfl, rfl, f6, by omega, by omega, ?_, hu, ?_⟩
        · refine (ixN_seq (n := us.length) (i := k) (j := k.toNat) ?_).1
          unfold ixN
          rw [if_pos m1, if_pos (by omega)]
        · have X2 := (X1.mut (o := .lst (us.eraseIdx k.toNat)) hs' rfl k1 (z := .ow (es.eraseIdx k.toNat)) ⟨b, _, rfl, f3, f4, f5, upd_same, f7.erase _⟩).1
          have hs2 : (ε1.set j (.ow (es.eraseIdx k.toNat))).s[i]? = some (.ow ds) := by
            show (ε1.s.set j _)[i]? = _
            rw [List.getElem?_set, if_neg (Ne.symm hij)]; exact hs
          refine ⟨a, ys, u, rfl, rfl, by rw [upd_ne ab]; exact g6, by rw [g7.len]; exact m4, ?_⟩
          have X3 := (X2.mut (o := .lst (ys ++ [u])) hs2 rfl h1 (z := .ow (ds ++ [d])) ⟨a, _, rfl, g3, g4, g5, upd_same, g7.app (.one du)⟩).1
          exact E.nx _ _ _ _ _ X3 m6
      · exact z.elim
    · exact z.elim
/-- xs[e] = e' -/
def dSetIx (i : Nat) (f g : DTE)  (Δ : DEnds) (ε : Env) : Prop := f ε fun r ε1 => match r.pub with
  | .sh d => match ε1.s[i]? with
    | some (.ow _) => g ε1 fun k ε2 => match k.dat, ε2.s[i]? with
      | some (.int j), some (.ow ds) => ∃ m, ixN ds.length j = some m ∧ Δ.nx (ε2.set i (.ow (ds.set m d)))
      | _, _ => False
    | _ => False
  | _ => False
theorem ss_setIx {i : Nat} (hf : SE w ta f) (hg : SE w tb g) : SS w (tAsg ta (gSub (tVar i) tb rSetL)) (dSetIx i f g) := by
  constructor
  · intro Δ Δ' ε l z
    refine hf.mono _ _ _ (fun r ε1 z => ?_) z
    split at z
    · split at z
      · refine hg.mono _ _ _ (fun k ε2 z => ?_) z
        split at z
        · obtain ⟨m, h1, h2⟩ := z
          exact ⟨m, h1, l.nx _ h2⟩
        · exact z.elim
      · exact z.elim
    · exact z.elim
  · intro Z O σ ε L H D Δ X E z
    refine hf.run Z O σ ε L H _ X (hf.mono _ _ _ (fun r ε1 z => ?_) z)
    intro v L1 H1 X1 e1 r1
    split at z
    · rename_i d hd
      obtain ⟨L2, X2, e2, r2⟩ := publ X1 e1 r1
      rw [hd] at r2
      split at z
      · rename_i ds0 h0
        obtain ⟨o, h1, a, xs, h2, _⟩ := X2.sl i _ h0
        subst h2
        refine ⟨.ref a, h1, ?_⟩
        refine hg.run Z O σ ε1 L2 H1 _ X2 (hg.mono _ _ _ (fun k ε2 z => ?_) z)
        intro u L3 H3 X3 e3 r3
        split at z
        · rename_i j ds hj hs
          obtain ⟨m, m1, m2⟩ := z
          cases (r3.vl hj).int
          obtain ⟨_, g1, b, ys, g2, g3, g4, g5, g6, g7⟩ := X3.sl i _ hs
          subst g2
          rw [h1] at g1
          cases g1
          refine ⟨a, ys, j, m, rfl, rfl, g6, by rw [g7.len]; exact m1, ?_⟩
          have X4 := (X3.mut (o := .lst (ys.set m v)) hs rfl h1 (z := .ow (ds.set m d)) ⟨a, _, rfl, g3, g4, g5, upd_same, DVs.set (DV.to r2 e3.ll) m g7⟩).1
          exact E.nx _ _ _ _ _ X4 m2
        · exact z.elim
      · exact z.elim
    · exact z.elim
/-- xs += e, xs an own list -/
def dExt (i : Nat) (f : DTE)  (Δ : DEnds) (ε : Env) : Prop := match ε.s[i]? with
  | some (.ow _) => f ε fun r ε1 => match r.dat, ε1.s[i]? with
    | some (.list es), some (.ow ds) => ds.length + es.length ≤ sizeLine ∧ Δ.nx (ε1.set i (.ow (ds ++ es)))
    | _, _ => False
  | _ => False
/-- x op= e -/
def dAug (φ : PyData → PyData → (R → Prop) → Prop) (i : Nat) (f : DTE)  (Δ : DEnds) (ε : Env) : Prop := match ε.s[i]? with
  | some (.sh a) => f ε fun r ε1 => match r.dat with
    | some b => φ a b fun q => match val false q with
      | some y => Δ.nx (ε1.set i y)
      | none => False
    | none => False
  | _ => False
def dSet0 (i : Nat)  (Δ : DEnds) (ε : Env) : Prop := Δ.nx (ε.set i (.st (fun _ => false) 0))
def dSAdd (i : Nat) (f : DTE)  (Δ : DEnds) (ε : Env) : Prop := match ε.s[i]? with
  | some (.st _ _) => f ε fun r ε1 => match r.dat, ε1.s[i]? with
    | some (.int k), some (.st S n) => n + 1 < scanBound ∧ Δ.nx (ε1.set i (.st (fun j => S j || decide (j = k)) (if S k = true then n else n + 1)))
    | _, _ => False
  | _ => False
def dSNotIn (f g : DTE)  (ε : Env) (Q : R → Env → Prop) : Prop := f ε fun x ε1 => g ε1 fun y ε2 => match x.dat, y with
  | some (.int k), .sr _ S _ => Q (.sh (.bool (!S k))) ε2
  | _, _ => False
end
end Lp

namespace Lp
open PySem PySem.Spec PyProof.Rows L2
/-- a list or a tuple -/
def iSeq (K : PySem.W.Frag) (tl : TE) : TI := fun σ H R => tl σ H fun x H1 => ∃ a, x = .ref a ∧ (((∃ xs, SqL K H1 a xs) ∧ R (Itl K a) H1) ∨ ((∃ xs, SqT K H1 a xs) ∧ R (Itt K a) H1))
theorem pi_seq {X : Cx} {tg o : Expr} {to : TE} (ho : PE X o to) : PI X tg o (iSeq X.K to) := by
  constructor
  intro pins s σ H R I want
  refine thn (ho.run pins s σ H _ I want) ?_
  rintro u s' ⟨_, H', J, rel, a, rfl, ways⟩
  cases rel
  have fp : ∀ b ∈ [s'.heap.objs.size], FpOk X pins H' b := fun b hb => by
    cases List.mem_singleton.mp hb
    exact J.fpOk (Nat.le_refl _) (J.hok.fresh (Nat.le_refl _))
  rcases ways with ⟨⟨xs, at_a⟩, go⟩ | ⟨⟨xs, at_a⟩, go⟩
  · obtain ⟨vals, _, lst, _⟩ := J.list at_a
    refine wpAny_pyIter_list lst.isList ⟨s'.heap.objs.size, [s'.heap.objs.size], _, _, H', rfl, ?_, turn_list a _, ⟨_, Heap.get?_push_size _ rfl, rfl, rfl⟩, fp, go⟩
    exact J.kept (t' := s'.toks) fun _ _ q => Heap.get?_push_of_some _ q
  · obtain ⟨vals, _, tup, _⟩ := J.tuple at_a
    have tup' : s'.heap.IsTuple a vals.toArray := tup
    refine wpAny_pyIter_tuple tup' ⟨s'.heap.objs.size, [s'.heap.objs.size], _, _, H', rfl, ?_, turn_tuple a _, ⟨_, Heap.get?_push_size _ rfl, rfl, rfl⟩, fp, go⟩
    exact J.kept (t' := s'.toks) fun _ _ q => Heap.get?_push_of_some _ q
/-- the items, while what is walked stands still -/
structure WalkS (pk : Bool) (L : Hp) (J : It) (ds : List PyData) : Prop where
  go : ∀ i L' H', Same L L' → Same L' H' → i < ds.length → J.go i H'
  stop : ∀ L' H', Same L L' → Same L' H' → J.stop ds.length H'
  yld : ∀ (i : Nat) d L' H' x H2, Same L L' → Same L' H' → ds[i]? = some d → J.yld i H' x H2 → ∃ L2, Ext none L' H' L2 H2 ∧ Same L2 H2 ∧ VI pk L2 H2 x d
structure WalkE (pk : Bool) (b : Option Addr) (L H : Hp) (J : It) (ds : List PyData) : Prop where
  go : ∀ i L' H', Ext b L H L' H' → Same L' H' → i < ds.length → J.go i H'
  stop : ∀ L' H', Ext b L H L' H' → Same L' H' → J.stop ds.length H'
  yld : ∀ (i : Nat) d L' H' x H2, Ext b L H L' H' → Same L' H' → ds[i]? = some d → J.yld i H' x H2 → ∃ L2, Ext none L' H' L2 H2 ∧ Same L2 H2 ∧ VI pk L2 H2 x d
theorem WalkS.e {pk : Bool} {b : Option Addr} {L H : Hp} {J : It} {ds : List PyData} (x : WalkS pk L J ds) : WalkE pk b L H J ds :=
  ⟨fun i L' H' e s h => x.go i L' H' e.ll s h, fun L' H' e s => x.stop L' H' e.ll s, fun i d L' H' y H2 e s h => x.yld i d L' H' y H2 e.ll s h⟩
abbrev DTI := Env → (List PyData → Bool → Env → Prop) → Prop
structure SI (w : Wx) (pk : Bool) (t : TI) (f : DTI) : Prop where
  mono : ∀ ε (A B : List PyData → Bool → Env → Prop), (∀ r b ε', A r b ε' → B r b ε') → f ε A → f ε B
  run : ∀ (Z : Zx) (O : Addr → Prop) (σ : L2.St) (ε : Env) (L H : Hp) (R : It → Hp → Prop), Rep w Z O L H σ ε → f ε (fun ds fl ε' => ∀ J L' H', Rep w Z O L' H' σ ε' → Ext Z.b L H L' H' → WalkE pk Z.b L' H' J ds → (fl = true → WalkS pk L' J ds) → R J H') → t σ H R
section
variable {w : Wx} {K : PySem.W.Frag} {ta tb te : TE} {f g : DTE}
theorem walkS_list {L : Hp} {a : Addr} {xs : List V} {ds : List PyData} (h : L a = some (.lst xs)) (r : DVs L xs ds) : WalkS false L (Itl K a) ds := by
  have hl := r.len
  refine ⟨fun i L' H' s1 s2 hi => ?_, fun L' H' s1 s2 => ?_, fun i d L' H' x H2 s1 s2 hd y => ?_⟩
  · exact ⟨xs, xs[i]'(by omega), SqL.of (s2 _ _ (s1 _ _ h)), List.getElem?_eq_getElem (by omega)⟩
  · exact ⟨xs, SqL.of (s2 _ _ (s1 _ _ h)), by omega⟩
  · obtain ⟨rfl, y2⟩ := y
    have hx := y2 xs (SqL.of (s2 _ _ (s1 _ _ h)))
    obtain ⟨v, h1, h2⟩ := r.get hd
    rw [hx] at h1
    cases h1
    exact ⟨L', Ext.refl _ _ _, s2, h2.to s1⟩
theorem walkS_tup {L : Hp} {a : Addr} {xs : List V} {ds : List PyData} (h : Sol L a xs) (r : DVs L xs ds) : WalkS false L (Itt K a) ds := by
  have hl := r.len
  refine ⟨fun i L' H' s1 s2 hi => ?_, fun L' H' s1 s2 => ?_, fun i d L' H' x H2 s1 s2 hd y => ?_⟩
  · exact ⟨xs, xs[i]'(by omega), ((h.to s1).to s2).seq, List.getElem?_eq_getElem (by omega)⟩
  · exact ⟨xs, ((h.to s1).to s2).seq, by omega⟩
  · obtain ⟨rfl, y2⟩ := y
    have hx := y2 xs (((h.to s1).to s2).seq)
    obtain ⟨v, h1, h2⟩ := r.get hd
    rw [hx] at h1
    cases h1
    exact ⟨L', Ext.refl _ _ _, s2, h2.to s1⟩
theorem walkE_list {b : Option Addr} {L H : Hp} {a : Addr} {xs : List V} {ds : List PyData} (hb : b ≠ some a) (h : H a = some (.lst xs)) (r : DVs L xs ds) : WalkE false b L H (Itl K a) ds := by
  have hl := r.len
  refine ⟨fun i L' H' e s2 hi => ?_, fun L' H' e s2 => ?_, fun i d L' H' x H2 e s2 hd y => ?_⟩
  · exact ⟨xs, xs[i]'(by omega), SqL.of (e.hh _ _ h hb), List.getElem?_eq_getElem (by omega)⟩
  · exact ⟨xs, SqL.of (e.hh _ _ h hb), by omega⟩
  · obtain ⟨rfl, y2⟩ := y
    have hx := y2 xs (SqL.of (e.hh _ _ h hb))
    obtain ⟨v, h1, h2⟩ := r.get hd
    rw [hx] at h1
    cases h1
    exact ⟨L', Ext.refl _ _ _, s2, h2.to e.ll⟩
def dIter (f : DTE)  (ε : Env) (Q : List PyData → Bool → Env → Prop) : Prop := f ε fun r ε1 => match r.pub with
  | .sh (.list ds) => Q ds true ε1
  | .sh (.tuple ds) => Q ds true ε1
  | .br _ ds => Q ds false ε1
  | _ => False
theorem si_seq (hf : SE w ta f) : SI w false (iSeq K ta) (dIter f) := by
  constructor
  · intro ε A B h q
    refine hf.mono _ _ _ (fun r ε1 q => ?_) q
    split at q
    · exact h _ _ _ q
    · exact h _ _ _ q
    · exact h _ _ _ q
    · exact q.elim
  · intro Z O σ ε L H R X q
    refine hf.run Z O σ ε L H _ X (hf.mono _ _ _ (fun r ε1 q => ?_) q)
    intro v L1 H1 X1 e1 r1
    obtain ⟨L2, X2, e2, r2⟩ := publ X1 e1 r1
    split at q
    · rename_i ds hd
      rw [hd] at r2
      cases (show DV L2 v (.list ds) from r2) with
      | lst h1 h2 =>
        have W := walkS_list (K := K) h1 h2
        exact ⟨_, rfl, .inl ⟨⟨_, SqL.of (X2.lh _ _ h1)⟩, q _ L2 H1 X2 e2 W.e fun _ => W⟩⟩
    · rename_i ds hd
      rw [hd] at r2
      cases (show DV L2 v (.tuple ds) from r2) with
      | tup h1 h2 =>
        have W := walkS_tup (K := K) h1 h2
        exact ⟨_, rfl, .inr ⟨⟨_, (h1.to X2.lh).seq⟩, q _ L2 H1 X2 e2 W.e fun _ => W⟩⟩
    · rename_i i ds hd
      rw [hd] at r2
      obtain ⟨a, xs, rfl, h1, h2, h3, h4, h5, h6⟩ := r2
      exact ⟨a, rfl, .inl ⟨⟨_, SqL.of h5⟩, q _ L2 H1 X2 e2 (walkE_list (X2.nob h3) h5 h6) (fun z => nomatch z)⟩⟩
    · exact q.elim
/-- the ints from lo on, n of them -/
def rgD (lo : Int) (n : Nat) : List PyData := (List.range n).map fun i => .int (lo + (i : Nat))
theorem rgD_len (lo : Int) (n : Nat) : (rgD lo n).length = n := by unfold rgD; rw [List.length_map, List.length_range]
theorem rgD_get {lo : Int} {n i : Nat} {d : PyData} (h : (rgD lo n)[i]? = some d) : i < n ∧ d = .int (lo + (i : Nat)) := by
  have hi : i < n := by
    have := (List.getElem?_eq_some_iff.mp h).1
    rwa [rgD_len] at this
  unfold rgD at h
  rw [List.getElem?_map, List.getElem?_range hi] at h
  cases h
  exact ⟨hi, rfl⟩
theorem walkS_rg {L : Hp} {lo : Int} {n : Nat} : WalkS false L (Itr lo n) (rgD lo n) := by
  refine ⟨fun i L' H' s1 s2 hi => ?_, fun L' H' s1 s2 => ?_, fun i d L' H' x H2 s1 s2 hd y => ?_⟩
  · rw [rgD_len] at hi; exact hi
  · rw [rgD_len]; exact Nat.le_refl n
  · obtain ⟨rfl, rfl⟩ := y
    obtain ⟨_, rfl⟩ := rgD_get hd
    exact ⟨L', Ext.refl _ _ _, s2, .int _⟩
def dRng1 (f : DTA)  (ε : Env) (Q : List PyData → Bool → Env → Prop) : Prop := f ε fun rs ε1 => match rs with
  | [.sh (.int j)] => (-(2 ^ 62) ≤ j ∧ j < 2 ^ 62) ∧ Q (rgD 0 j.toNat) true ε1
  | _ => False
theorem si_rng1 {n : Nat} {t : TA} {f : DTA} (hf : SA w n t f) : SI w false (iRng1 t) (dRng1 f) := by
  constructor
  · intro ε A B h q
    refine hf.mono _ _ _ (fun r ε1 q => ?_) q
    split at q
    · exact ⟨q.1, h _ _ _ q.2⟩
    · exact q.elim
  · intro Z O σ ε L H R X q
    refine hf.run Z O σ ε L H _ X (hf.mono _ _ _ (fun r ε1 q => ?_) q)
    intro vs L1 H1 X1 e1 r1 hl np
    split at q
    · rename_i j
      cases r1 with
      | cons r1 r2 =>
        cases r2
        cases (show DV L1 _ (.int j) from r1)
        exact ⟨j, rfl, q.1.1, q.1.2, q.2 _ L1 H1 X1 e1 walkS_rg.e fun _ => walkS_rg⟩
    · exact q.elim
def dRng2 (f : DTA)  (ε : Env) (Q : List PyData → Bool → Env → Prop) : Prop := f ε fun rs ε1 => match rs with
  | [.sh (.int i), .sh (.int j)] => (-(2 ^ 62) ≤ i ∧ i < 2 ^ 62 ∧ -(2 ^ 62) ≤ j ∧ j < 2 ^ 62) ∧ Q (rgD i (j - i).toNat) true ε1
  | _ => False
end
abbrev DTG := PyData → Env → (Env → Prop) → Prop
/-- but for the slots js all is as it was -/
def But (js : List Nat) (σ σ' : L2.St) : Prop := σ'.length = σ.length ∧ ∀ i : Nat, i ∉ js → σ'[i]? = σ[i]?
structure SG (w : Wx) (pk : Bool) (js : List Nat) (g : TG) (γ : DTG) : Prop where
  mono : ∀ d ε (A B : Env → Prop), (∀ ε', A ε' → B ε') → γ d ε A → γ d ε B
  run : ∀ (Z : Zx) (O : Addr → Prop) (σ : L2.St) (ε : Env) (L H : Hp) (v : V) (d : PyData) (Q : L2.St → Hp → Prop), Rep w Z O L H σ ε → VI pk L H v d → γ d ε (fun ε' => ∀ σ', Rep w Z O L H σ' ε' → But js σ σ' → Q σ' H) → g v σ H Q
abbrev DTGs := List PyData → Env → (Env → Prop) → Prop
structure SGs (w : Wx) (js : List Nat) (g : TGs) (γ : DTGs) : Prop where
  mono : ∀ d ε (A B : Env → Prop), (∀ ε', A ε' → B ε') → γ d ε A → γ d ε B
  run : ∀ (Z : Zx) (O : Addr → Prop) (σ : L2.St) (ε : Env) (L H : Hp) (v : List V) (d : List PyData) (Q : L2.St → Hp → Prop), Rep w Z O L H σ ε → DVs L v d → γ d ε (fun ε' => ∀ σ', Rep w Z O L H σ' ε' → But js σ σ' → Q σ' H) → g v σ H Q
section
variable {w : Wx} {K : PySem.W.Frag}
def dName (i : Nat)  (d : PyData) (ε : Env) (Q : Env → Prop) : Prop := Q (ε.set i (.sh d))
theorem sg_name {i : Nat} : SG w false [i] (gName i) (dName i) := ⟨fun _ _ _ _ h q => h _ q, fun Z O σ ε L H v d Q X r q => q _ (X.sh r) ⟨List.length_set, fun j hj => by
  rw [List.getElem?_set, if_neg (fun e => hj (by rw [e]; exact List.mem_singleton.mpr rfl))]⟩⟩
def dGNil  (ds : List PyData) (ε : Env) (Q : Env → Prop) : Prop := match ds with
  | [] => Q ε
  | _ => False
def dGCons (γ : DTG) (γs : DTGs)  (ds : List PyData) (ε : Env) (Q : Env → Prop) : Prop := match ds with
  | d :: ds => γ d ε fun ε1 => γs ds ε1 Q
  | _ => False
theorem sgs_nil : SGs w [] gNil dGNil := by
  constructor
  · intro ds ε A B h q
    cases ds with
    | nil => exact h _ q
    | cons _ _ => exact q.elim
  · intro Z O σ ε L H v d Q X r q
    cases r with
    | nil => exact ⟨rfl, q _ X ⟨rfl, fun _ _ => rfl⟩⟩
    | cons _ _ => exact q.elim
theorem sgs_cons {g : TG} {gs : TGs} {γ : DTG} {γs : DTGs} {js ks : List Nat} (hg : SG w false js g γ) (hs : SGs w ks gs γs) : SGs w (js ++ ks) (gCons g gs) (dGCons γ γs) := by
  constructor
  · intro ds ε A B h q
    cases ds with
    | nil => exact q.elim
    | cons d ds => exact hg.mono _ _ _ _ (fun ε1 q => hs.mono _ _ _ _ h q) q
  · intro Z O σ ε L H v d Q X r q
    cases r with
    | nil => exact q.elim
    | cons r rr =>
      refine ⟨_, _, rfl, hg.run Z O σ ε L H _ _ _ X r (hg.mono _ _ _ _ (fun ε1 q σ1 X1 b1 => ?_) q)⟩
      refine hs.run Z O σ1 ε1 L H _ _ _ X1 rr (hs.mono _ _ _ _ (fun ε2 q σ2 X2 b2 => ?_) q)
      exact q σ2 X2 ⟨b2.1.trans b1.1, fun i hi => (b2.2 i fun h => hi (List.mem_append_right _ h)).trans (b1.2 i fun h => hi (List.mem_append_left _ h))⟩
def dGTup (n : Nat) (γs : DTGs)  (d : PyData) (ε : Env) (Q : Env → Prop) : Prop := match d with
  | .tuple ds => ds.length = n ∧ γs ds ε Q
  | _ => False
theorem sg_tup {pk : Bool} {n : Nat} {gs : TGs} {γs : DTGs} {js : List Nat} (hs : SGs w js gs γs) : SG w pk js (gTup K n gs) (dGTup n γs) := by
  constructor
  · intro d ε A B h q
    cases d with
    | tuple ds => exact ⟨q.1, hs.mono _ _ _ _ h q.2⟩
    | _ => exact q.elim
  · intro Z O σ ε L H v d Q X r q
    have solid : DV L v d → gTup K n gs v σ H Q := fun r => by
      cases r with
      | tup h1 h2 => exact ⟨_, _, rfl, (h1.to X.lh).seq, by rw [h2.len]; exact q.1, hs.run Z O σ ε L H _ _ _ X h2 q.2⟩
      | _ => exact q.elim
    cases pk with
    | false => exact solid r
    | true =>
      rcases r with r | ⟨a, xs, ds, rfl, rfl, h1, h2⟩
      · exact solid r
      · exact ⟨_, _, rfl, SqT.of h1, by rw [h2.len]; exact q.1, hs.run Z O σ ε L H _ _ _ X h2 q.2⟩
variable {ta : TE} {f : DTE}
def dAsg (f : DTE) (γ : DTG)  (Δ : DEnds) (ε : Env) : Prop := f ε fun r ε1 => match r.pub with
  | .sh d => γ d ε1 Δ.nx
  | _ => False
def forD (γ : DTG) (p : DTS) (Δ : DEnds) : List PyData → Env → Prop
  | [], ε => Δ.nx ε
  | d :: ds, ε => γ d ε fun ε1 => p { nx := forD γ p Δ ds, rt := Δ.rt, bk := Δ.nx, ct := forD γ p Δ ds } ε1
def dFor (i : DTI) (γ : DTG) (p : DTS)  (Δ : DEnds) (ε : Env) : Prop := i ε fun ds fl ε1 => fl = true ∧ forD γ p Δ ds ε1
/-- what is known of the pinned view may be forgotten -/
theorem Rep.unpin {Z : Zx} {O : Addr → Prop} {σ : L2.St} {ε : Env} {L H P : Hp} (h : Same Z.P P) (ph : w.Φ Z) (x : Rep w { Z with P := P } O L H σ ε) : Rep w Z O L H σ ε :=
  ⟨x.lh, h.trans x.pn, x.ex, x.bo, x.oh, x.len, x.sl, x.di, ph⟩
theorem Rep.pin {Z : Zx} {O : Addr → Prop} {σ : L2.St} {ε : Env} {L H P : Hp} (h0 : Same Z.P P) (h : Same P L) (x : Rep w Z O L H σ ε) : Rep w { Z with P := P } O L H σ ε :=
  ⟨x.lh, h, x.ex, x.bo, x.oh, x.len, x.sl, x.di, w.up _ _ h0 x.ph⟩
theorem forD_mono {pk : Bool} {γ : DTG} {p : DTS} {t : TS} {g : TG} {js : List Nat} (hg : SG w pk js g γ) (hp : SS w t p) {Δ Δ' : DEnds} (l : DEnds.le Δ Δ') : ∀ (ds : List PyData) (ε : Env), forD γ p Δ ds ε → forD γ p Δ' ds ε
  | [], ε, z => l.nx ε z
  | d :: ds, ε, z => hg.mono _ _ _ _ (fun ε1 z => hp.mono { nx := forD γ p Δ ds, rt := Δ.rt, bk := Δ.nx, ct := forD γ p Δ ds } _ ε1 ⟨forD_mono hg hp l ds, l.rt, l.nx, forD_mono hg hp l ds⟩ z) z
theorem ss_for {pk : Bool} {wi : TI} {i : DTI} {g : TG} {γ : DTG} {t : TS} {p : DTS} {js : List Nat} (hi : SI w pk wi i) (hg : SG w pk js g γ) (hp : SS w t p) : SS w (tFor wi g t) (dFor i γ p) := by
  constructor
  · intro Δ Δ' ε l z
    exact hi.mono _ _ _ (fun ds b ε1 z => ⟨z.1, forD_mono hg hp l ds ε1 z.2⟩) z
  · intro Z O σ ε L H D Δ X E z
    refine hi.run Z O σ ε L H _ X (hi.mono _ _ _ (fun ds b ε1 z => ?_) z)
    intro J L1 H1 X1 e1 _ W
    obtain ⟨hb, z⟩ := z
    have W := W hb
    have sP := X1.pn
    refine ⟨fun i m σ H => i + m = ds.length ∧ ∃ O L ε, Rep w { Z with P := L1 } O L H σ ε ∧ forD γ p Δ (ds.drop i) ε, ⟨ds.length, by omega, O, L1, ε1, X1.pin X1.pn (Same.refl _), by rw [List.drop_zero]; exact z⟩, ?_⟩
    rintro i m σ2 H2 ⟨him, O2, L2, ε2, X2, z2⟩
    by_cases hlt : i < ds.length
    · refine .inr ⟨W.go i L2 H2 X2.pn X2.lh hlt, fun σ' H' => ∃ O L ε, Rep w { Z with P := L1 } O L H' σ' ε ∧ forD γ p Δ (ds.drop (i + 1)) ε, fun σ' H' q => ⟨m - 1, by omega, by omega, q⟩, fun x H' y => ?_⟩
      have hd : ds[i]? = some ds[i] := List.getElem?_eq_getElem hlt
      rw [List.drop_eq_getElem_cons hlt] at z2
      obtain ⟨L3, e3, s3, r3⟩ := W.yld i ds[i] L2 H2 x H' X2.pn X2.lh hd y
      have X3 := X2.step e3 s3
      refine hg.run _ O2 σ2 ε2 L3 H' x ds[i] _ X3 r3 (hg.mono _ _ _ _ (fun ε3 z3 σ3 X4 _ => ?_) z2)
      refine hp.run _ O2 σ3 ε3 L3 H' _ { nx := forD γ p Δ (ds.drop (i + 1)), rt := Δ.rt, bk := Δ.nx, ct := forD γ p Δ (ds.drop (i + 1)) } X4 ⟨fun O σ ε L H X z => ⟨O, L, ε, X, z⟩, fun O σ ε L H v r X q z => E.rt O σ ε L H v r (X.unpin sP X1.ph) q z, fun O σ ε L H X z => E.nx O σ ε L H (X.unpin sP X1.ph) z, fun O σ ε L H X z => ⟨O, L, ε, X, z⟩⟩ z3
    · have e : i = ds.length := by omega
      subst e
      rw [List.drop_length] at z2
      exact .inl ⟨W.stop L2 H2 X2.pn X2.lh, E.nx O2 σ2 ε2 L2 H2 (X2.unpin sP X1.ph) z2⟩
def whileN (c : DTT) (p : DTS) (Δ : DEnds) : Nat → Env → Prop
  | 0, _ => False
  | n + 1, ε => c ε fun b ε1 => if b = true then p { nx := whileN c p Δ n, rt := Δ.rt, bk := Δ.nx, ct := whileN c p Δ n } ε1 else Δ.nx ε1
def dWhile (c : DTT) (p : DTS)  (Δ : DEnds) (ε : Env) : Prop := ∃ n, whileN c p Δ n ε
theorem whileN_mono {c : DTT} {p : DTS} {tc : TT} {t : TS} (hc : ST w tc c) (hp : SS w t p) {Δ Δ' : DEnds} (l : DEnds.le Δ Δ') : ∀ (n : Nat) (ε : Env), whileN c p Δ n ε → whileN c p Δ' n ε
  | 0, ε, z => z
  | n + 1, ε, z => by
    refine hc.mono _ _ _ (fun b ε1 z => ?_) z
    cases b with
    | true => exact iteT (hp.mono { nx := whileN c p Δ n, rt := Δ.rt, bk := Δ.nx, ct := whileN c p Δ n } _ ε1 ⟨whileN_mono hc hp l n, l.rt, l.nx, whileN_mono hc hp l n⟩ (by rw [if_pos rfl] at z; exact z))
    | false => exact iteF (l.nx _ (by rw [if_neg Bool.false_ne_true] at z; exact z))
theorem ss_while {c : DTT} {p : DTS} {tc : TT} {t : TS} (hc : ST w tc c) (hp : SS w t p) : SS w (tWhile tc t) (dWhile c p) := by
  constructor
  · rintro Δ Δ' ε l ⟨n, z⟩
    exact ⟨n, whileN_mono hc hp l n ε z⟩
  · rintro Z O σ ε L H D Δ X E ⟨n, z⟩
    refine ⟨fun m σ H => ∃ O L ε, Rep w Z O L H σ ε ∧ whileN c p Δ m ε, ⟨n, O, L, ε, X, z⟩, ?_⟩
    rintro m σ1 H1 ⟨O1, L1, ε1, X1, z1⟩
    cases m with
    | zero => exact z1.elim
    | succ m =>
      refine hc.run Z O1 σ1 ε1 L1 H1 _ X1 (hc.mono _ _ _ (fun b ε2 z2 => ?_) z1)
      intro L2 H2 X2 e2
      cases b with
      | true =>
        rw [if_pos rfl] at z2
        refine iteT ⟨fun σ' H' => ∃ O L ε, Rep w Z O L H' σ' ε ∧ whileN c p Δ m ε, fun σ' H' q => ⟨m, Nat.lt_succ_self m, q⟩, ?_⟩
        exact hp.run Z O1 σ1 ε2 L2 H2 _ { nx := whileN c p Δ m, rt := Δ.rt, bk := Δ.nx, ct := whileN c p Δ m } X2 ⟨fun O σ ε L H X z => ⟨O, L, ε, X, z⟩, E.rt, E.nx, fun O σ ε L H X z => ⟨O, L, ε, X, z⟩⟩ z2
      | false =>
        rw [if_neg Bool.false_ne_true] at z2
        exact iteF (E.nx O1 σ1 ε2 L2 H2 X2 z2)
end
end Lp

namespace Lp
open PySem PySem.Spec PyProof.Rows L2
theorem Rep.exts {w : Wx} {Z : Zx} {O : Addr → Prop} {σ : L2.St} {ε : Env} {L H L' H' : Hp} {c : Nat} (x : Rep w Z O L H σ ε) (e : Ext Z.b L H L' H') (s : Same L' H') (hc : ∀ b, Z.b = some b → Box H' b c) : Rep w Z O L' H' σ ⟨ε.s, c⟩ := by
  refine ⟨s, x.pn.trans e.ll, x.ex.trans e, fun b hb => ?_, fun a h => ⟨e.dom a (x.oh a h).1, (x.oh a h).2⟩, x.len, fun i y hy => ?_, x.di, x.ph⟩
  · obtain ⟨h1, h2, h3⟩ := x.bo b hb
    exact ⟨e.fr b h1 h2.there, hc b hb, h3⟩
  · obtain ⟨o, h1, h2⟩ := x.sl i y hy
    refine ⟨o, h1, ?_⟩
    cases y with
    | un => trivial
    | sh d =>
      obtain ⟨v, e1, e2⟩ := h2
      exact ⟨v, e1, e2.to e.ll⟩
    | ow ds =>
      obtain ⟨a, xs, e1, e2, e3, e4, e5, e6⟩ := h2
      exact ⟨a, xs, e1, e2, e.fr a e3 (by rw [e5]; exact (fun z => nomatch z)), e4, e.hh _ _ e5 (x.nob e4), e6.to e.ll⟩
    | bx => exact h2
    | st S n =>
      obtain ⟨a, e1, e2, e3, e4, e5⟩ := h2
      exact ⟨a, e1, e2, e.fr a e3 (by rw [e5]; exact (fun z => nomatch z)), e4, e.hh _ _ e5 (x.nob e4)⟩
    | raw u => exact h2
    | exn x => obtain ⟨v, e1, e2⟩ := h2; exact ⟨v, e1, e2.to e.ll⟩
    | dco xs =>
      obtain ⟨a, e1, e2, e3, e4, ⟨ob, e5⟩, e6⟩ := h2
      exact ⟨a, e1, e2, e.fr a e3 (by rw [e5]; exact (fun z => nomatch z)), e4, ⟨ob, e.hh _ _ e5 (x.nob e4)⟩, e6.to e.ll⟩
    | sto M =>
      obtain ⟨a, A, e1, e2, e3, e4, e5, e6⟩ := h2
      exact ⟨a, A, e1, e2, e.fr a e3 (by rw [e5]; exact (fun z => nomatch z)), e4, e.hh _ _ e5 (x.nob e4), e6.to e.ll⟩
    | dsh xs => obtain ⟨v, e1, e2⟩ := h2; exact ⟨v, e1, e2.to e.ll⟩
    | gen g => obtain ⟨v, e1, e2⟩ := h2; exact ⟨v, e1, g.mono e.ll e2⟩
abbrev DSp := List SV → Nat → (R → Nat → Prop) → Prop
def MonF (F : DSp) : Prop := ∀ args c (A B : R → Nat → Prop), (∀ r c', A r c' → B r c') → F args c A → F args c B
def CallZ (b : Option Addr) (L H : Hp) (c : Nat) : Prop := Same L H ∧ ∀ a, b = some a → L a = none ∧ Box H a c
def ArgR (b : Option Addr) (L : Hp) (v : V) : SV → Prop
  | .sh d => DV L v d
  | .bx => ∃ a, b = some a ∧ v = .ref a
  | .raw u => v = u
  | .dsh xs => DVd L v xs
  | .gen g => g.ok L v
  | _ => False
inductive ArgsR (b : Option Addr) (L : Hp) : List V → List SV → Prop
  | nil : ArgsR b L [] []
  | cons {v : V} {vs : List V} {x : SV} {xs : List SV} : ArgR b L v x → ArgsR b L vs xs → ArgsR b L (v :: vs) (x :: xs)
def spD (n : Nat) (F : DSp) : Sp := fun vs H Q _ => ∃ (b : Option Addr) (L : Hp) (c : Nat) (args : List SV), vs.length = n ∧ CallZ b L H c ∧ ArgsR b L vs args ∧
  F args c fun r c' => ∀ v L' H', CallZ b L' H' c' → Ext b L H L' H' → VR0 H L' H' v r → Q v H'
def R.arg : R → Option SV
  | .sh d => some (.sh d)
  | .br _ ds => some (.sh (.list ds))
  | .bx => some .bx
  | .raw v => some (.raw v)
  | .dsh xs => some (.dsh xs)
  | .gen g => some (.gen g)
  | _ => none
def argsOf : List R → Option (List SV)
  | [] => some []
  | r :: rs => match r.arg, argsOf rs with
    | some x, some xs => some (x :: xs)
    | _, _ => none
def hasBr : List R → Bool
  | [] => false
  | .br _ _ :: _ => true
  | _ :: rs => hasBr rs
def immR : R → Bool
  | .sh d => imm d
  | .nw ds => imms ds
  | _ => false
def dArgs (F : DSp) (rs : List R) (ε : Env) (Q : R → Env → Prop) : Prop := match argsOf rs with
  | some args => F args ε.c fun r c => match hasBr rs with
    | true => immR r = true ∧ Q r ⟨ε.s, c⟩
    | false => Q r ⟨ε.s, c⟩
  | none => False
theorem dArgs_mono {F : DSp} (hF : MonF F) {rs : List R} {ε : Env} {A B : R → Env → Prop} (h : ∀ r ε, A r ε → B r ε) (q : dArgs F rs ε A) : dArgs F rs ε B := by
  unfold dArgs at q ⊢
  split at q
  · refine hF _ _ _ _ (fun r c q => ?_) q
    split at q
    · exact ⟨q.1, h _ _ q.2⟩
    · exact h _ _ q
  · exact q.elim
section
variable {w : Wx} {Z : Zx} {O : Addr → Prop} {σ : L2.St} {ε : Env} {L H Hs : Hp}
theorem args_plain : ∀ {vs : List V} {rs : List R} {args : List SV}, VRs w Z O σ Hs L H vs rs → argsOf rs = some args → hasBr rs = false → ArgsR Z.b L vs args
  | _, _, _, .nil, e, _ => by cases e; exact .nil
  | _, r :: rs, args, .cons a b, e, h => by
    unfold argsOf at e
    split at e
    · rename_i x xs hx hxs
      cases e
      have h2 : hasBr rs = false := by cases r <;> first | exact h | cases h
      refine .cons ?_ (args_plain b hxs h2)
      cases r with
      | sh d => cases hx; exact a
      | br i ds => cases h
      | bx => cases hx; exact a
      | raw u => cases hx; exact a
      | nw ds => cases hx
      | sr i S n => cases hx
      | exn y => cases hx
      | dnw xs => cases hx
      | dbr i xs => cases hx
      | srt i M => cases hx
      | dsh xs => cases hx; exact a
      | gen g => cases hx; exact a
    · cases e
/-- the lists that slots own and arguments lend -/
def lent (σ : L2.St) (rs : List R) (a : Addr) : Prop := ∃ i ds, R.br i ds ∈ rs ∧ σ[i]? = some (some (.ref a))
theorem args_lent {L2 : Hp} (s : Same L L2) : ∀ {vs : List V} {rs : List R} {args : List SV}, VRs w Z O σ Hs L H vs rs → argsOf rs = some args → (∀ a, lent σ rs a → L2 a = H a) → ArgsR Z.b L2 vs args
  | _, _, _, .nil, e, _ => by cases e; exact .nil
  | _, r :: rs, args, .cons x y, e, h => by
    unfold argsOf at e
    split at e
    · rename_i z zs hz hzs
      cases e
      refine .cons ?_ (args_lent s y hzs fun a ⟨i, ds, h1, h2⟩ => h a ⟨i, ds, List.mem_cons_of_mem _ h1, h2⟩)
      cases r with
      | sh d => cases hz; exact DV.to x s
      | br i ds =>
        cases hz
        obtain ⟨a, xs, rfl, h1, h2, h3, h4, h5, h6⟩ := x
        exact .lst (by rw [h a ⟨i, ds, List.mem_cons_self, h1⟩]; exact h5) (h6.to s)
      | bx => cases hz; exact x
      | raw u => cases hz; exact x
      | nw ds => cases hz
      | sr i S n => cases hz
      | exn y => cases hz
      | dnw xs => cases hz
      | dbr i xs => cases hz
      | srt i M => cases hz
      | dsh xs => cases hz; exact DVd.to s x
      | gen g => cases hz; exact g.mono s x
    · cases e
theorem lent_own : ∀ {vs : List V} {rs : List R} {a : Addr}, VRs w Z O σ Hs L H vs rs → lent σ rs a → O a ∧ Z.H0 a = none ∧ L a = none ∧ ∃ xs, H a = some (.lst xs)
  | _, _, _, .nil, h => by obtain ⟨i, ds, h1, _⟩ := h; cases h1
  | _, r :: rs, a, .cons x y, h => by
    obtain ⟨i, ds, h1, h2⟩ := h
    rcases List.mem_cons.mp h1 with rfl | h1
    · obtain ⟨b, xs, _, g1, g2, g3, g4, g5, g6⟩ := x
      rw [h2] at g1
      cases g1
      exact ⟨g2, g3, g4, xs, g5⟩
    · exact lent_own y ⟨i, ds, h1, h2⟩
open Classical in
theorem run_args {n : Nat} {F : DSp} (hF : MonF F) {vs : List V} {rs : List R} {Q : VK} {E : XK} {L0 H0 : Hp} (X : Rep w Z O L H σ ε) (e : Ext Z.b L0 H0 L H) (r : VRs w Z O σ Hs L H vs rs) (hn : vs.length = n)
    (q : dArgs F rs ε fun r ε' => ∀ v L' H', Rep w Z O L' H' σ ε' → Ext Z.b L0 H0 L' H' → VR w Z O σ H0 L' H' v r → Q v H') : spD n F vs H Q E := by
  unfold dArgs at q
  split at q
  · rename_i args ha
    have cz : ∀ b, Z.b = some b → L b = none ∧ Box H b ε.c := fun b hb => ⟨(X.bo b hb).1, (X.bo b hb).2.1⟩
    cases hb : hasBr rs with
    | false =>
      rw [hb] at q
      refine ⟨Z.b, L, ε.c, args, hn, ⟨X.lh, cz⟩, args_plain r ha hb, hF _ _ _ _ (fun r c q => ?_) q⟩
      intro v L' H' z' e' r'
      exact q v L' H' (X.exts e' z'.1 fun b hb => (z'.2 b hb).2) (e.trans e') ((r'.vr X).back e)
    | true =>
      rw [hb] at q
      let L2 : Hp := fun a => if lent σ rs a then H a else L a
      have h1 : ∀ a, lent σ rs a → L2 a = H a := fun a h => if_pos h
      have h0 : ∀ a, ¬ lent σ rs a → L2 a = L a := fun a h => if_neg h
      have s1 : Same L L2 := fun a o h => by
        by_cases q : lent σ rs a
        · rw [h1 a q]; exact X.lh a o h
        · rw [h0 a q]; exact h
      have s2 : Same L2 H := fun a o h => by
        by_cases q : lent σ rs a
        · rw [h1 a q] at h; exact h
        · rw [h0 a q] at h; exact X.lh a o h
      refine ⟨Z.b, L2, ε.c, args, hn, ⟨s2, fun b hb => ⟨?_, (cz b hb).2⟩⟩, args_lent s1 r ha h1, hF _ _ _ _ (fun u c q => ?_) q⟩
      · rw [h0 b fun h => (X.bo b hb).2.2 (lent_own r h).2.1]; exact (cz b hb).1
      intro v L' H' z' e' r'
      obtain ⟨hi, q⟩ := q
      let L3 : Hp := fun a => if lent σ rs a then none else L' a
      have k1 : ∀ a, lent σ rs a → L3 a = none := fun a h => if_pos h
      have k0 : ∀ a, ¬ lent σ rs a → L3 a = L' a := fun a h => if_neg h
      have s3 : Same L3 H' := fun a o h => by
        by_cases q : lent σ rs a
        · rw [k1 a q] at h; cases h
        · rw [k0 a q] at h; exact z'.1 a o h
      have e3 : Ext Z.b L H L3 H' := by
        refine ⟨fun a o h => ?_, e'.hh, e'.dom, fun a h d => ?_⟩
        · by_cases q : lent σ rs a
          · rw [(lent_own r q).2.2.1] at h; cases h
          · rw [k0 a q]; exact e'.ll a o (s1 a o h)
        · by_cases q : lent σ rs a
          · exact k1 a q
          · rw [k0 a q]; exact e'.fr a (by rw [h0 a q]; exact h) d
      have tups : ∀ a xs, Sol L' a xs → Sol L3 a xs := fun a xs ⟨o, ho, h⟩ => by
        by_cases q : lent σ rs a
        · obtain ⟨_, _, _, ys, hy⟩ := lent_own r q
          have := e'.ll a _ (by rw [h1 a q]; exact hy)
          rw [this] at h; cases h
        · exact ⟨o, ho, by rw [k0 a q]; exact h⟩
      have r3 : VR0 H L3 H' v u := by
        cases u with
        | sh d => exact DV.imm tups d v hi r'
        | nw ds =>
          obtain ⟨a, xs, rfl, g1, g2, g3, g4⟩ := r'
          refine ⟨a, xs, rfl, g1, ?_, g3, DVs.imm tups ds xs hi g4⟩
          by_cases q : lent σ rs a
          · exact k1 a q
          · rw [k0 a q]; exact g2
        | dnw xs => cases hi
        | dsh xs => cases hi
        | gen g => cases hi
        | _ => exact r'.elim
      exact q v L3 H' (X.exts e3 s3 fun b hb => (z'.2 b hb).2) (e.trans e3) ((r3.vr X).back e)
  · exact q.elim
end
section
variable {w : Wx} {K : PySem.W.Frag} {ta te : TE} {f : DTE}
def dCall (F : DSp) (f : DTA)  (ε : Env) (Q : R → Env → Prop) : Prop := f ε fun rs ε1 => dArgs F rs ε1 Q
theorem se_call {n : Nat} {F : DSp} {t : TA} {f : DTA} {E : XK} (hF : MonF F) (hf : SA w n t f) : SE w (tCall (spD n F) [] E t) (dCall F f) := by
  constructor
  · intro ε A B h q
    exact hf.mono _ _ _ (fun rs ε1 q => dArgs_mono hF h q) q
  · intro Z O σ ε L H Q X q
    refine hf.run Z O σ ε L H _ X (hf.mono _ _ _ (fun rs ε1 q => ?_) q)
    intro vs L1 H1 X1 e1 r1 hl np
    rw [List.append_nil]
    exact run_args hF X1 e1 r1 (by rw [r1.len, hl]) q
/-- all arguments by name, from the last one on -/
def tCallR (sp : Sp) (E : XK) (tk : TA) : TE := fun σ H Q => tk σ H fun zs H2 => sp zs.reverse H2 Q E
def dCallR (F : DSp) (f : DTA)  (ε : Env) (Q : R → Env → Prop) : Prop := f ε fun rs ε1 => dArgs F rs.reverse ε1 Q
theorem VRs.snoc {Z : Zx} {O : Addr → Prop} {σ : L2.St} {Hs L H : Hp} {v : V} {r : R} (x : VR w Z O σ Hs L H v r) : ∀ {vs : List V} {rs : List R}, VRs w Z O σ Hs L H vs rs → VRs w Z O σ Hs L H (vs ++ [v]) (rs ++ [r])
  | _, _, .nil => .cons x .nil
  | _, _, .cons a b => .cons a (VRs.snoc x b)
theorem VRs.rev {Z : Zx} {O : Addr → Prop} {σ : L2.St} {Hs L H : Hp} : ∀ {vs : List V} {rs : List R}, VRs w Z O σ Hs L H vs rs → VRs w Z O σ Hs L H vs.reverse rs.reverse
  | _, _, .nil => .nil
  | _, _, .cons a b => by rw [List.reverse_cons, List.reverse_cons]; exact VRs.snoc a (VRs.rev b)
theorem se_callR {n : Nat} {F : DSp} {t : TA} {f : DTA} {E : XK} (hF : MonF F) (hf : SA w n t f) : SE w (tCallR (spD n F) E t) (dCallR F f) := by
  constructor
  · intro ε A B h q
    exact hf.mono _ _ _ (fun rs ε1 q => dArgs_mono hF h q) q
  · intro Z O σ ε L H Q X q
    refine hf.run Z O σ ε L H _ X (hf.mono _ _ _ (fun rs ε1 q => ?_) q)
    intro vs L1 H1 X1 e1 r1 hl np
    exact run_args hF X1 e1 r1.rev (by rw [List.length_reverse, r1.len, hl]) q
def wipeE (ε : Env) : List Nat → List SV
  | [] => ε.s
  | v :: vs => (wipeE ε vs).set v .un
theorem wipe_get (σ : L2.St) (i : Nat) : ∀ vs : List Nat, (wipe σ vs)[i]? = if i ∈ vs then (if i < σ.length then some none else none) else σ[i]?
  | [] => by rw [if_neg List.not_mem_nil]; rfl
  | v :: vs => by
    unfold wipe
    rw [List.getElem?_set, wipe_length, wipe_get σ i vs]
    by_cases e : v = i
    · subst e
      rw [if_pos rfl, if_pos List.mem_cons_self]
    · rw [if_neg e]
      by_cases m : i ∈ vs
      · rw [if_pos m, if_pos (List.mem_cons_of_mem _ m)]
      · rw [if_neg m, if_neg (fun h => (List.mem_cons.mp h).elim (fun q => e q.symm) m)]
theorem wipe_but {σ σ' : L2.St} {vs : List Nat} (h : But vs (wipe σ vs) σ') : wipe σ' vs = wipe σ vs := by
  have hl : σ'.length = σ.length := by rw [h.1, wipe_length]
  refine List.ext_getElem? fun i => ?_
  rw [wipe_get, wipe_get]
  by_cases m : i ∈ vs
  · rw [if_pos m, if_pos m, hl]
  · rw [if_neg m, if_neg m, h.2 i m, wipe_get, if_neg m]
theorem wipeE_len (ε : Env) : ∀ vs : List Nat, (wipeE ε vs).length = ε.s.length
  | [] => rfl
  | v :: vs => by unfold wipeE; rw [List.length_set, wipeE_len ε vs]
theorem wipeE_get (ε : Env) (i : Nat) : ∀ (vs : List Nat) (x : SV), (wipeE ε vs)[i]? = some x → (i ∈ vs ∧ x = .un) ∨ (i ∉ vs ∧ ε.s[i]? = some x)
  | [], x, h => .inr ⟨List.not_mem_nil, h⟩
  | v :: vs, x, h => by
    unfold wipeE at h
    rcases get_set h with ⟨rfl, rfl, _⟩ | ⟨ne, h⟩
    · exact .inl ⟨List.mem_cons_self, rfl⟩
    · rcases wipeE_get ε i vs x h with ⟨m, e⟩ | ⟨m, e⟩
      · exact .inl ⟨List.mem_cons_of_mem _ m, e⟩
      · exact .inr ⟨fun q => (List.mem_cons.mp q).elim (fun z => ne z.symm) m, e⟩
theorem Rep.wipe {Z : Zx} {O : Addr → Prop} {σ : L2.St} {ε : Env} {L H : Hp} (x : Rep w Z O L H σ ε) (vs : List Nat) : Rep w Z O L H (L2.wipe σ vs) ⟨wipeE ε vs, ε.c⟩ := by
  refine ⟨x.lh, x.pn, x.ex, x.bo, x.oh, ?_, fun i y hy => ?_, fun i j y z a hij hy hz oy oz hi hj => ?_, x.ph⟩
  · show (L2.wipe σ vs).length = (wipeE ε vs).length
    rw [wipe_length, wipeE_len]; exact x.len
  · have hl : i < σ.length := by
      have := (List.getElem?_eq_some_iff.mp hy).1
      rw [wipeE_len] at this
      rw [x.len]; exact this
    rcases wipeE_get ε i vs y hy with ⟨m, rfl⟩ | ⟨m, e⟩
    · exact ⟨none, by rw [wipe_get, if_pos m, if_pos hl], trivial⟩
    · obtain ⟨o, h1, h2⟩ := x.sl i y e
      exact ⟨o, by rw [wipe_get, if_neg m]; exact h1, h2⟩
  · rcases wipeE_get ε i vs y hy with ⟨m, rfl⟩ | ⟨m, e⟩
    · cases oy
    · rcases wipeE_get ε j vs z hz with ⟨m', rfl⟩ | ⟨m', e'⟩
      · cases oz
      · rw [wipe_get, if_neg m] at hi
        rw [wipe_get, if_neg m'] at hj
        exact x.di i j y z a hij e e' oy oz hi hj
def lcD (γ : DTG) (c : DTT) (f : DTE) (vs : List Nat) (s : List SV) (Q : R → Env → Prop) : List PyData → List PyData → Nat → Prop
  | [], acc, n => Q (.nw acc) ⟨s, n⟩
  | d :: ds, acc, n => γ d ⟨wipeE ⟨s, n⟩ vs, n⟩ fun ε1 => c ε1 fun b ε2 => if b = true then f ε2 fun r ε3 => match r.pub with
      | .sh e => acc.length < sizeLine ∧ lcD γ c f vs s Q ds (acc ++ [e]) ε3.c
      | _ => False
    else lcD γ c f vs s Q ds acc ε2.c
def dLc (i : DTI) (γ : DTG) (c : DTT) (f : DTE) (vs : List Nat)  (ε : Env) (Q : R → Env → Prop) : Prop := i ε fun ds _ ε1 => lcD γ c f vs ε1.s Q ds [] ε1.c
theorem lcD_mono {pk : Bool} {g : TG} {γ : DTG} {tt : TT} {c : DTT} {js vs : List Nat} {s : List SV} {A B : R → Env → Prop} (hg : SG w pk js g γ) (hc : ST w tt c) (hf : SE w te f) (h : ∀ r ε, A r ε → B r ε) : ∀ (ds acc : List PyData) (n : Nat), lcD γ c f vs s A ds acc n → lcD γ c f vs s B ds acc n
  | [], acc, n, z => h _ _ z
  | d :: ds, acc, n, z => by
    refine hg.mono _ _ _ _ (fun ε1 z => hc.mono _ _ _ (fun b ε2 z => ?_) z) z
    cases b with
    | true =>
      rw [if_pos rfl] at z ⊢
      refine hf.mono _ _ _ (fun r ε3 z => ?_) z
      split at z
      · exact ⟨z.1, lcD_mono hg hc hf h ds _ _ z.2⟩
      · exact z.elim
    | false =>
      rw [if_neg Bool.false_ne_true] at z ⊢
      exact lcD_mono hg hc hf h ds _ _ z
theorem se_lc {pk : Bool} {wi : TI} {i : DTI} {g : TG} {γ : DTG} {tt : TT} {c : DTT} {vs : List Nat} (hi : SI w pk wi i) (hg : SG w pk vs g γ) (hc : ST w tt c) (hf : SE w te f) : SE w (tLc wi g tt te vs) (dLc i γ c f vs) := by
  constructor
  · intro ε A B h z
    exact hi.mono _ _ _ (fun ds b ε1 z => lcD_mono hg hc hf h ds [] _ z) z
  · intro Z O σ ε L H Q X z
    refine hi.run Z O σ ε L H _ X (hi.mono _ _ _ (fun ds b ε1 z => ?_) z)
    intro J L1 H1 X1 e1 W _ D nD
    have eD : Ext none L1 H1 L1 (upd H1 D (.lst [])) := Ext.own nD
    have X1' := X1.step eD (same_own X1.lh (X1.lh.free nD))
    have n0 : Z.H0 D = none := X1.ex.free nD
    have nO : ¬ O D := fun o => (X1.oh D o).1 nD
    have bD : Z.b ≠ some D := X1.nob n0
    refine ⟨fun k m H2 => k + m = ds.length ∧ ∃ L2 n acc xs, Rep w Z O L2 H2 σ ⟨ε1.s, n⟩ ∧ Ext Z.b L1 H1 L2 H2 ∧ H2 D = some (.lst xs) ∧ DVs L2 xs acc ∧ L2 D = none ∧ lcD γ c f vs ε1.s (fun r ε' => ∀ v L' H', Rep w Z O L' H' σ ε' → Ext Z.b L H L' H' → VR w Z O σ H L' H' v r → Q v H') (ds.drop k) acc n,
      ⟨ds.length, by omega, L1, ε1.c, [], [], X1', eD.any, upd_same, .nil, X1.lh.free nD, by rw [List.drop_zero]; exact z⟩, ?_⟩
    rintro k m H2 ⟨hkm, L2, n, acc, xs, X2, e2, hD, rD, lD, z2⟩
    have e2' := e2
    by_cases hlt : k < ds.length
    · refine .inr ⟨W.go k L2 H2 e2' X2.lh hlt, fun H' => ∃ L2 n acc xs, Rep w Z O L2 H' σ ⟨ε1.s, n⟩ ∧ Ext Z.b L1 H1 L2 H' ∧ H' D = some (.lst xs) ∧ DVs L2 xs acc ∧ L2 D = none ∧ lcD γ c f vs ε1.s (fun r ε' => ∀ v L' H', Rep w Z O L' H' σ ε' → Ext Z.b L H L' H' → VR w Z O σ H L' H' v r → Q v H') (ds.drop (k + 1)) acc n,
        fun H' q => ⟨m - 1, by omega, by omega, q⟩, fun x H' y => ?_⟩
      have hd : ds[k]? = some ds[k] := List.getElem?_eq_getElem hlt
      rw [List.drop_eq_getElem_cons hlt] at z2
      obtain ⟨L3, e3, s3, r3⟩ := W.yld k ds[k] L2 H2 x H' e2' X2.lh hd y
      have X3 := X2.step e3 s3
      have hD3 := e3.hh D _ hD (fun z => nomatch z)
      have lD3 : L3 D = none := e3.fr D lD (by rw [hD]; exact (fun z => nomatch z))
      refine hg.run Z O _ _ L3 H' x ds[k] _ (X3.wipe vs) r3 (hg.mono _ _ _ _ (fun ε3 z3 σ3 X4 b3 => ⟨wipe_but b3, ?_⟩) z2)
      refine hc.run Z O σ3 ε3 L3 H' _ X4 (hc.mono _ _ _ (fun b ε4 z4 => ?_) z3)
      intro L5 H5 X5 e5
      have hD5 := e5.hh D _ hD3 bD
      have lD5 : L5 D = none := e5.fr D lD3 (by rw [hD3]; exact (fun z => nomatch z))
      have e35 := (e3.any (b := Z.b)).trans e5
      cases b with
      | true =>
        rw [if_pos rfl] at z4 ⊢
        refine hf.run Z O σ3 ε4 L5 H5 _ X5 (hf.mono _ _ _ (fun r ε6 z6 => ?_) z4)
        intro v L6 H6 X6 e6 r6
        split at z6
        · rename_i d' hd'
          obtain ⟨L7, X7, e7, r7⟩ := publ X6 e6 r6
          rw [hd'] at r7
          have hD6 := e7.hh D _ hD5 bD
          have lD7 : L7 D = none := e7.fr D lD5 (by rw [hD5]; exact (fun z => nomatch z))
          have et := e35.trans e7
          have rD7 : DVs L7 xs acc := rD.to et.ll
          have X8 : Rep w Z O L7 H6 σ ⟨ε1.s, ε6.c⟩ := X2.exts et X7.lh fun b hb => (X7.bo b hb).2.1
          refine ⟨xs, hD6, by rw [rD7.len]; exact z6.1, L7, ε6.c, acc ++ [d'], xs ++ [v], ?_, ?_, upd_same, rD7.app (.one r7), lD7, z6.2⟩
          · refine ⟨same_own X8.lh lD7, X8.pn, ⟨X8.ex.ll, fun a o h nb => ?_, fun a h => ?_, X8.ex.fr⟩, fun b hb => ?_, fun a h => ⟨?_, (X8.oh a h).2⟩, X8.len, fun i y hy => ?_, X8.di, X8.ph⟩
            · rw [upd_ne (ne_of_none h n0)]; exact X8.ex.hh a o h nb
            · by_cases q : a = D
              · rw [q, upd_same]; exact (fun z => nomatch z)
              · rw [upd_ne q]; exact X8.ex.dom a h
            · obtain ⟨q1, q2, q3⟩ := X8.bo b hb
              exact ⟨q1, q2.keep (upd_ne (ne_at q3 n0)), q3⟩
            · rw [upd_ne (fun q => nO (by rw [← q]; exact h))]; exact (X8.oh a h).1
            · obtain ⟨o, q1, q2⟩ := X8.sl i y hy
              refine ⟨o, q1, ?_⟩
              cases y with
              | ow ds =>
                obtain ⟨a, ys, g1, g2, g3, g4, g5, g6⟩ := q2
                exact ⟨a, ys, g1, g2, g3, g4, by rw [upd_ne (fun q => nO (by rw [← q]; exact g2))]; exact g5, g6⟩
              | st S n =>
                obtain ⟨a, g1, g2, g3, g4, g5⟩ := q2
                exact ⟨a, g1, g2, g3, g4, by rw [upd_ne (fun q => nO (by rw [← q]; exact g2))]; exact g5⟩
              | dco xs =>
                obtain ⟨a, g1, g2, g3, g4, ⟨ob, g5⟩, g6⟩ := q2
                exact ⟨a, g1, g2, g3, g4, ⟨ob, by rw [upd_ne (fun q => nO (by rw [← q]; exact g2))]; exact g5⟩, g6⟩
              | sto M =>
                obtain ⟨a, A, g1, g2, g3, g4, g5, g6⟩ := q2
                exact ⟨a, A, g1, g2, g3, g4, by rw [upd_ne (fun q => nO (by rw [← q]; exact g2))]; exact g5, g6⟩
              | _ => exact q2
          · have e27 := e2.trans et
            refine ⟨e27.ll, fun a o h nb => ?_, fun a h => ?_, e27.fr⟩
            · rw [upd_ne (ne_of_none h nD)]; exact e27.hh a o h nb
            · by_cases q : a = D
              · rw [q, upd_same]; exact (fun z => nomatch z)
              · rw [upd_ne q]; exact e27.dom a h
        · exact z6.elim
      | false =>
        rw [if_neg Bool.false_ne_true] at z4 ⊢
        have X8 : Rep w Z O L5 H5 σ ⟨ε1.s, ε4.c⟩ := X2.exts e35 X5.lh fun b hb => (X5.bo b hb).2.1
        exact ⟨L5, ε4.c, acc, xs, X8, e2.trans e35, hD5, rD.to e35.ll, lD5, z4⟩
    · have e : k = ds.length := by omega
      subst e
      rw [List.drop_length] at z2
      refine .inl ⟨W.stop L2 H2 e2' X2.lh, z2 _ L2 H2 X2 (e1.trans e2') ⟨D, xs, rfl, e1.free nD, nO, n0, lD, hD, rD⟩⟩
def env0 (args : List SV) (k : Nat) (c : Nat) : Env := ⟨args ++ List.replicate k .un, c⟩
def defF (k : Nat) (p : DTS) (args : List SV) (c : Nat) (Q : R → Nat → Prop) : Prop := p { nx := fun ε => Q (.sh .none) ε.c, rt := fun r ε => Q r ε.c } (env0 args k c)
theorem ArgsR.len {b : Option Addr} {L : Hp} : ∀ {vs : List V} {xs : List SV}, ArgsR b L vs xs → vs.length = xs.length
  | _, _, .nil => rfl
  | _, _, .cons _ r => by rw [List.length_cons, List.length_cons, r.len]
theorem ArgsR.get {b : Option Addr} {L : Hp} : ∀ {vs : List V} {xs : List SV} {i : Nat} {x : SV}, ArgsR b L vs xs → xs[i]? = some x → ∃ v, vs[i]? = some v ∧ ArgR b L v x
  | _, _, _, _, .nil, e => by simp at e
  | _, _, 0, _, .cons a _, e => by simp at e; subst e; exact ⟨_, rfl, a⟩
  | _, _, i + 1, x, .cons _ r, e => by
    obtain ⟨v, h1, h2⟩ := ArgsR.get (i := i) (x := x) r (by simpa using e)
    exact ⟨v, by simpa using h1, h2⟩
theorem rep_start {N : List Str} {b : Option Addr} {L H : Hp} {c k : Nat} {vs : List V} {args : List SV} (z : CallZ b L H c) (a : ArgsR b L vs args) (hk : N.length = vs.length + k) (ph : w.Φ ⟨b, L, H, fun _ => none⟩) : Rep w ⟨b, L, H, fun _ => none⟩ (fun _ => False) L H (start N vs) (env0 args k c) := by
  have hl := a.len
  have un : ∀ (i : Nat) (x : SV), (env0 args k c).s[i]? = some x → (∃ v, vs[i]? = some v ∧ ArgR b L v x) ∨ (vs.length ≤ i ∧ x = .un) := by
    intro i x hx
    have hx : (args ++ List.replicate k SV.un)[i]? = some x := hx
    by_cases hi : i < args.length
    · rw [List.getElem?_append_left hi] at hx
      exact .inl (a.get hx)
    · rw [List.getElem?_append_right (by omega)] at hx
      have := List.mem_of_getElem? hx
      exact .inr ⟨by omega, List.eq_of_mem_replicate this⟩
  have nown : ∀ (i : Nat) (x : SV), (env0 args k c).s[i]? = some x → Own x = true → False := by
    intro i x hx ho
    rcases un i x hx with ⟨v, _, r⟩ | ⟨_, rfl⟩
    · cases x with
      | ow ds => exact r
      | st S n => exact r
      | dco xs => exact r
      | sto M => exact r
      | _ => cases ho
    · cases ho
  refine ⟨z.1, (fun _ _ h => nomatch h), Ext.refl _ _ _, fun d hd => ⟨(z.2 d hd).1, (z.2 d hd).2, (z.2 d hd).2.there⟩, fun _ h => h.elim, ?_, fun i x hx => ?_, fun i j x y d _ hx _ ox => (nown i x hx ox).elim, ph⟩
  · show (start N vs).length = (args ++ List.replicate k SV.un).length
    unfold L2.start
    rw [List.length_append, List.length_map, List.length_replicate, List.length_append, List.length_replicate]
    omega
  · have hi : i < vs.length + k := by
      have := (List.getElem?_eq_some_iff.mp hx).1
      have e : (env0 args k c).s.length = args.length + k := by
        show (args ++ List.replicate k SV.un).length = _
        rw [List.length_append, List.length_replicate]
      omega
    rcases un i x hx with ⟨v, h1, r⟩ | ⟨h1, rfl⟩
    · have hv : i < vs.length := (List.getElem?_eq_some_iff.mp h1).1
      refine ⟨some v, ?_, ?_⟩
      · unfold L2.start
        rw [List.getElem?_append_left (by rw [List.length_map]; exact hv), List.getElem?_map, h1]; rfl
      · cases x with
        | sh d => exact ⟨v, rfl, r⟩
        | bx =>
          obtain ⟨d, h2, rfl⟩ := r
          exact ⟨d, h2, rfl⟩
        | raw u =>
          cases (show v = u from r)
          rfl
        | dsh xs => exact ⟨v, rfl, r⟩
        | gen g => exact ⟨v, rfl, r⟩
        | _ => exact r.elim
    · refine ⟨none, ?_, trivial⟩
      unfold L2.start
      rw [List.getElem?_append_right (by rw [List.length_map]; exact h1), List.getElem?_replicate, if_pos (by rw [List.length_map]; omega)]
end
section
variable {P : Program} {w : World} {K : PySem.W.Frag} {mg : Str → Option Value} {base : Heap}
theorem run_def {N ps : List Str} {t : TS} {p : DTS} {k : Nat} (hp : SS (W0 w) t p) (hk : N.length = ps.length + k) {vs : List V} {H : Hp} {Q : VK} {E : XK} (h : spD ps.length (defF k p) vs H Q E) : t { nx := fun _ H' => Q .non H', rt := Q } (start N vs) H := by
  obtain ⟨b, L, c, args, hn, z, a, q⟩ := h
  refine hp.run _ _ _ _ L H _ _ (rep_start (w := W0 w) z a (by omega) trivial) ?_ q
  refine ⟨fun O σ ε L' H' X q => ?_, fun O σ ε L' H' v r X hr q => ?_, fun O σ ε L' H' X q => q.elim, fun O σ ε L' H' X q => q.elim⟩
  · exact q .non L' H' ⟨X.lh, fun a ha => ⟨(X.bo a ha).1, (X.bo a ha).2.1⟩⟩ X.ex DV.non
  · exact q v L' H' ⟨X.lh, fun a ha => ⟨(X.bo a ha).1, (X.bo a ha).2.1⟩⟩ X.ex hr
theorem spD_len {n : Nat} {F : DSp} {vs : List V} {H : Hp} {Q : VK} {E : XK} (h : spD n F vs H Q E) : vs.length = n := by
  obtain ⟨b, L, c, args, hn, _⟩ := h
  exact hn
theorem spD_imp {n : Nat} {F G : DSp} (h : ∀ args c Q, F args c Q → G args c Q) {vs : List V} {H : Hp} {Q : VK} {E : XK} (x : spD n F vs H Q E) : spD n G vs H Q E := by
  obtain ⟨b, L, c, args, hn, z, a, q⟩ := x
  exact ⟨b, L, c, args, hn, z, a, h _ _ _ q⟩
/-- a def by its data -/
theorem okD {x qual : Str} {st : Stmt} {f : Addr} {fd : FuncData} {N ps : List Str} {k j : Nat} {p : DTS} {F : DSp} (G : Fun K x qual st f fd) (S : FnScope N ps (defScope st)) (hj : N.length = ps.length + j)
    (body : ∀ (cdv : Value) (A : Around) (outer : List PySem.Env) (s : Shared) (H : Hp) (E : XK), Room k (A.deeper (envOfC qual (defScope st) s.heap.objs.size f cdv)) → ∃ t, PSs (cxOf CX0 P w K mg base N qual (defScope st) f cdv A outer s H E).nox (defBody st) t ∧ SS (W0 w) t p)
    (h : ∀ args c Q, F args c Q → defF j p args c Q) : FnOk P w K mg base CX0 (k + 1) f fd ps (spD ps.length F) := by
  refine G.ok S (fun vs H Q E h => spD_len h) fun cdv A outer s H vs Q E hr q => ?_
  obtain ⟨t, ht, hs⟩ := body cdv A outer s H E hr
  exact ⟨t, ht, run_def hs hj (spD_imp h q)⟩
end
end Lp

namespace Lp
open PySem PySem.Spec PyProof.Rows L2
theorem op_or {X : Cx} {f : Value → Value → Sem Value} {r r' : R2} (h : OpR X f r) (h' : OpR X f r') : OpR X f (fun x y H Q => r x y H Q ∨ r' x y H Q) :=
  fun pins s σ H x y v u Q I rx ry q => q.elim (h pins s σ H x y v u Q I rx ry) (h' pins s σ H x y v u Q I rx ry)
/-- ints in, an int out -/
def φI (h : Int → Int → Int)  (x y : PyData) (Q : R → Prop) : Prop := match x, y with
  | .int i, .int j => Q (.sh (.int (h i j)))
  | _, _ => False
def φB (h : Int → Int → Bool)  (x y : PyData) (Q : R → Prop) : Prop := match x, y with
  | .int i, .int j => Q (.sh (.bool (h i j)))
  | _, _ => False
def φC (C : Int → Int → Prop) (h : Int → Int → Int)  (x y : PyData) (Q : R → Prop) : Prop := match x, y with
  | .int i, .int j => C i j ∧ Q (.sh (.int (h i j)))
  | _, _ => False
theorem r2_I {h : Int → Int → Int} : R2K (rI0 fun i j => .int (h i j)) (φI h) := by
  constructor
  · intro x y A B hAB q
    unfold φI at q ⊢
    split at q
    · exact hAB _ q
    · exact q.elim
  · intro L H x y dx dy Q s hx hy q
    unfold φI at q
    split at q
    · exact ⟨_, _, hx.int, hy.int, q _ L H (Ext.refl _ _ _) s (.int _)⟩
    · exact q.elim
theorem r2_B {h : Int → Int → Bool} : R2K (rI0 fun i j => .bl (h i j)) (φB h) := by
  constructor
  · intro x y A B hAB q
    unfold φB at q ⊢
    split at q
    · exact hAB _ q
    · exact q.elim
  · intro L H x y dx dy Q s hx hy q
    unfold φB at q
    split at q
    · exact ⟨_, _, hx.int, hy.int, q _ L H (Ext.refl _ _ _) s (.bl _)⟩
    · exact q.elim
theorem r2_C {C : Int → Int → Prop} {h : Int → Int → Int} : R2K (rI C fun i j => .int (h i j)) (φC C h) := by
  constructor
  · intro x y A B hAB q
    unfold φC at q ⊢
    split at q
    · exact ⟨q.1, hAB _ q.2⟩
    · exact q.elim
  · intro L H x y dx dy Q s hx hy q
    unfold φC at q
    split at q
    · exact ⟨_, _, hx.int, hy.int, q.1, q.2 _ L H (Ext.refl _ _ _) s (.int _)⟩
    · exact q.elim
def φNeg (x : PyData) (Q : R → Prop) : Prop := match x with
  | .int i => Q (.sh (.int (-i)))
  | _ => False
abbrev rAdd (K : PySem.W.Frag) : R2 := fun x y H Q => rI0 (fun i j => .int (i + j)) x y H Q ∨ (rCat x y H Q ∨ rCatS K x y H Q)
theorem op_addA {X : Cx} : OpR X (binaryOp .Add) (rAdd X.K) := op_or op_add (op_or op_cat op_catS)
def φAdd  (x y : PyData) (Q : R → Prop) : Prop := match x, y with
  | .int i, .int j => Q (.sh (.int (i + j)))
  | .list a, .list b => a.length + b.length ≤ sizeLine ∧ Q (.nw (a ++ b))
  | .tuple a, .tuple b => a.length + b.length ≤ sizeLine ∧ Q (.sh (.tuple (a ++ b)))
  | _, _ => False
theorem DVs.nil_iff {H : Hp} {vs : List V} {ds : List PyData} (h : DVs H vs ds) : vs = [] ↔ ds = [] := by
  cases h with
  | nil => exact ⟨fun _ => rfl, fun _ => rfl⟩
  | cons _ _ => exact ⟨(fun z => nomatch z), (fun z => nomatch z)⟩
theorem r2_add {K : PySem.W.Frag} : R2K (rAdd K) φAdd := by
  constructor
  · intro x y A B hAB q
    unfold φAdd at q ⊢
    split at q
    · exact hAB _ q
    · exact ⟨q.1, hAB _ q.2⟩
    · exact ⟨q.1, hAB _ q.2⟩
    · exact q.elim
  · intro L H x y dx dy Q s hx hy q
    unfold φAdd at q
    split at q
    · exact .inl ⟨_, _, hx.int, hy.int, q _ L H (Ext.refl _ _ _) s (.int _)⟩
    · obtain ⟨a, xs, rfl, h1, h2⟩ := hx.lst s
      obtain ⟨b, ys, rfl, h3, h4⟩ := hy.lst s
      refine .inr (.inl ⟨a, b, xs, ys, rfl, rfl, h1, h3, by rw [h2.len, h4.len]; exact q.1, fun p np => ?_⟩)
      exact q.2 _ L _ (Ext.own np) (same_own s (s.free np)) ⟨p, _, rfl, np, s.free np, upd_same, h2.app h4⟩
    · obtain ⟨a, xs, rfl, h1, h2⟩ := hx.tup
      obtain ⟨b, ys, rfl, h3, h4⟩ := hy.tup
      refine .inr (.inr ⟨a, b, xs, ys, rfl, rfl, (h1.to s).seq, (h3.to s).seq, by rw [h2.len, h4.len]; exact q.1, fun e => ?_, fun e => ?_, fun p o np no => ?_⟩)
      · have e2 := h2.nil_iff.mp e
        rw [e2, List.nil_append] at q
        exact q.2 _ L H (Ext.refl _ _ _) s (.tup h3 h4)
      · have e2 := h4.nil_iff.mp e
        rw [e2, List.append_nil] at q
        exact q.2 _ L H (Ext.refl _ _ _) s (.tup h1 h2)
      · have e1 : Ext none L H (upd L p (.frz o (.tup (xs ++ ys)))) (upd H p (.frz o (.tup (xs ++ ys)))) := Ext.new s np
        exact q.2 _ _ _ e1 (same_both s) (.tup ⟨o, no, upd_same⟩ ((h2.app h4).to e1.ll))
    · exact q.elim
abbrev rMulA : R2 := fun x y H Q => rI CMulW (fun i j => .int (i * j)) x y H Q ∨ rRep x y H Q
theorem op_mulA {X : Cx} : OpR X (binaryOp .Mult) rMulA := op_or op_mulW op_rep
def φMul  (x y : PyData) (Q : R → Prop) : Prop := match x, y with
  | .int i, .int j => CMulW i j ∧ Q (.sh (.int (i * j)))
  | .list a, .int k => (-(2 ^ 63) ≤ k ∧ k < 2 ^ 63 ∧ a.length * k.toNat ≤ sizeLine) ∧ Q (.nw (List.replicate k.toNat a).flatten)
  | _, _ => False
theorem DVs.rep {H : Hp} {vs : List V} {ds : List PyData} (h : DVs H vs ds) : ∀ n : Nat, DVs H (List.replicate n vs).flatten (List.replicate n ds).flatten
  | 0 => .nil
  | n + 1 => by rw [List.replicate_succ, List.replicate_succ, List.flatten_cons, List.flatten_cons]; exact h.app (h.rep n)
theorem r2_mul : R2K rMulA φMul := by
  constructor
  · intro x y A B hAB q
    unfold φMul at q ⊢
    split at q
    · exact ⟨q.1, hAB _ q.2⟩
    · exact ⟨q.1, hAB _ q.2⟩
    · exact q.elim
  · intro L H x y dx dy Q s hx hy q
    unfold φMul at q
    split at q
    · exact .inl ⟨_, _, hx.int, hy.int, q.1, q.2 _ L H (Ext.refl _ _ _) s (.int _)⟩
    · obtain ⟨a, xs, rfl, h1, h2⟩ := hx.lst s
      refine .inr ⟨a, _, xs, rfl, hy.int, h1, q.1.1, q.1.2.1, by rw [h2.len]; exact q.1.2.2, fun p np => ?_⟩
      exact q.2 _ L _ (Ext.own np) (same_own s (s.free np)) ⟨p, _, rfl, np, s.free np, upd_same, h2.rep _⟩
    · exact q.elim
def PyData.its : PyData → Option (List PyData)
  | .list ds => some ds
  | .tuple ds => some ds
  | _ => none
def φIx  (x y : PyData) (Q : R → Prop) : Prop := match PyData.its x, y with
  | some ds, .int i => ∃ d, atI ds i = some d ∧ Q (.sh d)
  | _, _ => False
theorem atI_dv {H : Hp} {vs : List V} {ds : List PyData} {i : Int} {d : PyData} (h : DVs H vs ds) (e : atI ds i = some d) : ∃ v, atI vs i = some v ∧ DV H v d := by
  unfold atI at e ⊢
  rw [← h.len] at e
  cases hx : ixN vs.length i with
  | none => rw [hx] at e; cases e
  | some j =>
    rw [hx] at e
    exact h.get e
theorem r2_ix {K : PySem.W.Frag} : R2K (rIx K) φIx := by
  constructor
  · intro x y A B hAB q
    unfold φIx at q ⊢
    split at q
    · obtain ⟨d, h1, h2⟩ := q
      exact ⟨d, h1, hAB _ h2⟩
    · exact q.elim
  · intro L H x y dx dy Q s hx hy q
    unfold φIx at q
    split at q
    · rename_i ds i hd
      obtain ⟨d, e, q⟩ := q
      cases dx with
      | list es =>
        cases hd
        obtain ⟨a, xs, rfl, h1, h2⟩ := hx.lst s
        obtain ⟨v, h3, h4⟩ := atI_dv h2 e
        exact .inl ⟨a, xs, i, v, rfl, hy.int, SqL.of h1, h3, q v L H (Ext.refl _ _ _) s h4⟩
      | tuple es =>
        cases hd
        obtain ⟨a, xs, rfl, h1, h2⟩ := hx.tup
        obtain ⟨v, h3, h4⟩ := atI_dv h2 e
        exact .inr (.inl ⟨a, xs, i, v, rfl, hy.int, (h1.to s).seq, h3, q v L H (Ext.refl _ _ _) s h4⟩)
      | _ => cases hd
    · exact q.elim
def cutD (ds : List PyData) (lo hi : Option Int) : List PyData := (ds.drop (HT.sIx ds.length 0 lo)).take (HT.sIx ds.length ds.length hi - HT.sIx ds.length 0 lo)
def φSl (x : PyData) (l h : Option Int) (Q : R → Prop) : Prop := match x with
  | .list ds => Q (.nw (cutD ds l h))
  | .tuple ds => Q (.sh (.tuple (cutD ds l h)))
  | _ => False
abbrev rEqI : R2 := rI0 fun i j => .bl (decide (i = j))
theorem op_eqI {X : Cx} : OpR X (compareOp .Eq) rEqI := fun pins s σ H x y v u Q I rx ry q => by
  obtain ⟨i, j, rfl, rfl, q⟩ := q
  refine op_eq pins s σ H _ _ v u Q I rx ry ⟨rfl, ?_⟩
  have e : decide (V.int i = V.int j) = decide (i = j) := by simp
  rw [e]; exact q
abbrev rNeI : R2 := rI0 fun i j => .bl (!decide (i = j))
theorem op_neI {X : Cx} : OpR X (compareOp .NotEq) rNeI := fun pins s σ H x y v u Q I rx ry q => by
  obtain ⟨i, j, rfl, rfl, q⟩ := q
  refine op_ne pins s σ H _ _ v u Q I rx ry ⟨rfl, ?_⟩
  have e : decide (V.int i = V.int j) = decide (i = j) := by simp
  rw [e]; exact q
/-- two texts -/
abbrev rEqS : R2 := fun x y H Q => ∃ a b : Str, x = .str a ∧ y = .str b ∧ Q (.bl (decide (a = b))) H
theorem op_eqS {X : Cx} : OpR X (compareOp .Eq) rEqS := fun pins s σ H x y v u Q I rx ry q => by
  obtain ⟨i, j, rfl, rfl, q⟩ := q
  refine op_eq pins s σ H _ _ v u Q I rx ry ⟨rfl, ?_⟩
  have e : decide (V.str i = V.str j) = decide (i = j) := by simp
  rw [e]; exact q
abbrev rNeS : R2 := fun x y H Q => ∃ a b : Str, x = .str a ∧ y = .str b ∧ Q (.bl (!decide (a = b))) H
theorem op_neS {X : Cx} : OpR X (compareOp .NotEq) rNeS := fun pins s σ H x y v u Q I rx ry q => by
  obtain ⟨i, j, rfl, rfl, q⟩ := q
  refine op_ne pins s σ H _ _ v u Q I rx ry ⟨rfl, ?_⟩
  have e : decide (V.str i = V.str j) = decide (i = j) := by simp
  rw [e]; exact q
abbrev rEqA (K : PySem.W.Frag) : R2 := fun x y H Q => rEqI x y H Q ∨ (rEqS x y H Q ∨ rEqD K x y H Q)
abbrev rNeA (K : PySem.W.Frag) : R2 := fun x y H Q => rNeI x y H Q ∨ (rNeS x y H Q ∨ rNeD K x y H Q)
theorem op_eqA {X : Cx} (hu : X.A.units + 64 < cLine) : OpR X (compareOp .Eq) (rEqA X.K) := op_or op_eqI (op_or op_eqS (op_eqD hu))
theorem op_neA {X : Cx} (hu : X.A.units + 64 < cLine) : OpR X (compareOp .NotEq) (rNeA X.K) := op_or op_neI (op_or op_neS (op_neD hu))
def φEq (neg : Bool)  (x y : PyData) (Q : R → Prop) : Prop := match x, y with
  | .int i, .int j => Q (.sh (.bool (if neg then !decide (i = j) else decide (i = j))))
  | .str i, .str j => Q (.sh (.bool (if neg then !decide (i = j) else decide (i = j))))
  | x, y => (SeqAt.shaped x = true ∧ SeqAt.shaped y = true) ∧ Q (.sh (.bool (if neg then !PyData.eqv x y else PyData.eqv x y)))
theorem φEq_mono {neg : Bool} {x y : PyData} {A B : R → Prop} (hAB : ∀ r, A r → B r) (q : φEq neg x y A) : φEq neg x y B := by
  cases x <;> cases y <;> first | exact hAB _ q | exact ⟨q.1, hAB _ q.2⟩
theorem r2_eq {K : PySem.W.Frag} : R2K (rEqA K) (φEq false) := by
  constructor
  · intro x y A B hAB q
    exact φEq_mono hAB q
  · intro L H x y dx dy Q s hx hy q
    unfold φEq at q
    split at q
    · exact .inl ⟨_, _, hx.int, hy.int, q _ L H (Ext.refl _ _ _) s (.bl _)⟩
    · exact .inr (.inl ⟨_, _, hx.str, hy.str, q _ L H (Ext.refl _ _ _) s (.bl _)⟩)
    · exact .inr (.inr ⟨_, _, DV.dp _ _ (sh_nd q.1.1) (hx.dv s), DV.dp _ _ (sh_nd q.1.2) (hy.dv s), q.1.1, q.1.2, q.2 _ L H (Ext.refl _ _ _) s (.bl _)⟩)
theorem r2_ne {K : PySem.W.Frag} : R2K (rNeA K) (φEq true) := by
  constructor
  · intro x y A B hAB q
    exact φEq_mono hAB q
  · intro L H x y dx dy Q s hx hy q
    unfold φEq at q
    split at q
    · exact .inl ⟨_, _, hx.int, hy.int, q _ L H (Ext.refl _ _ _) s (.bl _)⟩
    · exact .inr (.inl ⟨_, _, hx.str, hy.str, q _ L H (Ext.refl _ _ _) s (.bl _)⟩)
    · exact .inr (.inr ⟨_, _, DV.dp _ _ (sh_nd q.1.1) (hx.dv s), DV.dp _ _ (sh_nd q.1.2) (hy.dv s), q.1.1, q.1.2, q.2 _ L H (Ext.refl _ _ _) s (.bl _)⟩)
def isN : PyData → Bool
  | .none => true
  | _ => false
theorem isN_V {L H : Hp} {v : V} {d : PyData} (h : VL L H v d) : decide (v = .non) = isN d := by
  cases d with
  | none => rw [h.non]; rfl
  | bool b => rw [h.bl]; rfl
  | int i => rw [h.int]; rfl
  | str x => rw [h.str]; rfl
  | list ds =>
    rcases h with h | ⟨a, xs, es, e, rfl, _⟩
    · cases h; rfl
    · rfl
  | tuple ds => obtain ⟨a, xs, rfl, _⟩ := h.tup; rfl
  | dict _ =>
    rcases h with h | ⟨a, xs, es, e, rfl, _⟩
    · cases h <;> rfl
    · rfl
def φIsN (neg : Bool)  (x y : PyData) (Q : R → Prop) : Prop := match y with
  | .none => Q (.sh (.bool (if neg then !isN x else isN x)))
  | _ => False
abbrev rIsN : R2 := fun x y H Q => y = .non ∧ Q (.bl (decide (x = .non))) H
theorem r2_isN : R2K rIsN (φIsN false) := by
  constructor
  · intro x y A B hAB q
    cases y <;> first | exact hAB _ q | exact q.elim
  · intro L H x y dx dy Q s hx hy q
    cases dy with
    | none => exact ⟨hy.non, q _ L H (Ext.refl _ _ _) s (by rw [isN_V hx]; exact .bl _)⟩
    | _ => exact q.elim
theorem its_seq {K : PySem.W.Frag} {L H : Hp} {v : V} {d : PyData} {ds : List PyData} (h : VL L H v d) (s : Same L H) (e : PyData.its d = some ds) : ∃ a xs, v = .ref a ∧ (SqL K H a xs ∨ SqT K H a xs) ∧ DVs L xs ds := by
  cases d with
  | list es =>
    cases e
    obtain ⟨a, xs, rfl, h1, h2⟩ := h.lst s
    exact ⟨a, xs, rfl, .inl (SqL.of h1), h2⟩
  | tuple es =>
    cases e
    obtain ⟨a, xs, rfl, h1, h2⟩ := h.tup
    exact ⟨a, xs, rfl, .inr (h1.to s).seq, h2⟩
  | _ => cases e
end Lp

namespace Lp
open PySem PySem.Spec PyProof.Rows L2
abbrev IL (ns : List Int) : List V := ns.map V.int
abbrev dI (ns : List Int) : List PyData := ns.map PyData.int
theorem szl {n : Nat} (h : n < 100000) : n < sizeLine := Nat.lt_of_lt_of_le h (by decide)
theorem ints_dvs {H : Hp} : ∀ {vs : List V} {ns : List Int}, DVs H vs (dI ns) → vs = IL ns
  | _, [], .nil => rfl
  | _, _ :: _, .cons (.int _) r => by rw [ints_dvs r]; rfl
theorem IL_get {ns : List Int} {i : Nat} {z : Int} (h : ns[i]? = some z) : (IL ns)[i]? = some (.int z) := by
  rw [List.getElem?_map, h]; rfl
/-- all ints of ns lie in 0 .. n - 1 -/
def Low (n : Nat) (ns : List Int) : Prop := ∀ z ∈ ns, 0 ≤ z ∧ z < (n : Int)
theorem Low.app {n : Nat} {fs : List Int} {z : Int} (h : Low n fs) (h0 : 0 ≤ z) (h1 : z < (n : Int)) : Low n (fs ++ [z]) := fun y hy => by
  rcases List.mem_append.mp hy with h2 | h2
  · exact h y h2
  · rw [List.mem_singleton] at h2
    subst h2; exact ⟨h0, h1⟩
theorem Low.set {n : Nat} {fs : List Int} {z : Int} {i : Nat} (h : Low n fs) (h0 : 0 ≤ z) (h1 : z < (n : Int)) : Low n (fs.set i z) := fun y hy => by
  rcases List.mem_or_eq_of_mem_set hy with h2 | h2
  · exact h y h2
  · subst h2; exact ⟨h0, h1⟩
theorem Low.at {n : Nat} {fs : List Int} {z : Int} {i : Nat} (h : Low n fs) (e : fs[i]? = some z) : 0 ≤ z ∧ z < (n : Int) := h z (List.mem_of_getElem? e)
/-- data that are all ints -/
def intsD : List PyData → Option (List Int)
  | [] => some []
  | .int i :: ds => match intsD ds with
    | some ns => some (i :: ns)
    | none => none
  | _ :: _ => none
theorem intsD_is : ∀ {ds : List PyData} {ns : List Int}, intsD ds = some ns → ds = dI ns
  | [], _, h => by cases h; rfl
  | .int i :: ds, ns, h => by
    unfold intsD at h
    split at h
    · rename_i ms hm
      cases h
      rw [intsD_is hm]; rfl
    · cases h
  | .none :: _, _, h => by cases h
  | .bool _ :: _, _, h => by cases h
  | .str _ :: _, _, h => by cases h
  | .list _ :: _, _, h => by cases h
  | .tuple _ :: _, _, h => by cases h
  | .dict _ :: _, _, h => by cases h
def boolsD : List PyData → Option (List Bool)
  | [] => some []
  | .bool i :: ds => match boolsD ds with
    | some ns => some (i :: ns)
    | none => none
  | _ :: _ => none
abbrev dB (bs : List Bool) : List PyData := bs.map PyData.bool
theorem boolsD_dB : ∀ bs : List Bool, boolsD (dB bs) = some bs
  | [] => rfl
  | x :: r => by
    show (match boolsD (dB r) with | some ns => some (x :: ns) | none => none) = _
    rw [boolsD_dB r]
theorem boolsD_is : ∀ {ds : List PyData} {ns : List Bool}, boolsD ds = some ns → ds = dB ns
  | [], _, h => by cases h; rfl
  | .bool i :: ds, ns, h => by
    unfold boolsD at h
    split at h
    · rename_i ms hm
      cases h
      rw [boolsD_is hm]; rfl
    · cases h
  | .none :: _, _, h => by cases h
  | .int _ :: _, _, h => by cases h
  | .str _ :: _, _, h => by cases h
  | .list _ :: _, _, h => by cases h
  | .tuple _ :: _, _, h => by cases h
  | .dict _ :: _, _, h => by cases h
theorem bools_dvs {H : Hp} : ∀ {vs : List V} {ns : List Bool}, DVs H vs (dB ns) → vs = ns.map V.bl
  | _, [], .nil => rfl
  | _, _ :: _, .cons (.bl _) r => by rw [bools_dvs r]; rfl
/-- data that are all tuples of ints, none empty -/
def tupsD : List PyData → Option (List (List Int))
  | [] => some []
  | .tuple es :: ds => match intsD es, tupsD ds with
    | some (n :: ns), some nss => some ((n :: ns) :: nss)
    | _, _ => none
  | _ :: _ => none
abbrev dT (nss : List (List Int)) : List PyData := nss.map fun ns => .tuple (dI ns)
end Lp

namespace Lp
open PySem PySem.Spec PyProof.Rows L2
theorem lex_eq : ∀ xs ys : List Int, HT.lexLt xs ys = false → HT.lexLt ys xs = false → xs = ys
  | [], [], _, _ => rfl
  | [], _ :: _, h, _ => by cases h
  | _ :: _, [], _, h => by cases h
  | x :: xs, y :: ys, h1, h2 => by
    rw [HT.lexLt_cons] at h1 h2
    by_cases e : x = y
    · rw [if_pos e] at h1
      rw [if_pos e.symm] at h2
      rw [e, lex_eq xs ys h1 h2]
    · rw [if_neg e] at h1
      rw [if_neg (Ne.symm e)] at h2
      have := of_decide_eq_false h1
      have := of_decide_eq_false h2
      omega
section
variable {prog : Program} {w : World} {A : Around} {E : Value → Shared → Prop} {s : Shared}
end
section
variable {X : Cx}
end
end Lp

namespace Lp
open PySem PySem.Spec PyProof.Rows L2
end Lp

namespace Lp
open PySem PySem.Spec PyProof.Rows L2
section
variable {prog : Program} {w : World} {A : Around} {E : Value → Shared → Prop} {s : Shared} {l : Addr}
end
section
variable {X : Cx}
end
end Lp

namespace Lp
open PySem PySem.Spec PyProof.Rows L2
def φLen  (ds : List PyData) (Q : R → Prop) : Prop := match ds with
  | [d] => match PyData.its d with
    | some es => Q (.sh (.int es.length))
    | none => False
  | _ => False
abbrev rLen (K : PySem.W.Frag) : List V → Hp → VK → Prop := fun xs H Q => ∃ p ys, xs = [.ref p] ∧ (SqL K H p ys ∨ SqT K H p ys) ∧ Q (.int ys.length) H
theorem rc_len {K : PySem.W.Frag} : RCK (rLen K) φLen := by
  constructor
  · intro x A B hAB q
    unfold φLen at q ⊢
    split at q
    · split at q
      · exact hAB _ q
      · exact q.elim
    · exact q.elim
  · intro L H xs ds Q s hx q
    unfold φLen at q
    split at q
    · split at q
      · rename_i es he
        cases hx with
        | cons h1 h2 =>
          cases h2
          obtain ⟨a, ys, rfl, k1, k2⟩ := its_seq (K := K) h1 s he
          exact ⟨a, ys, rfl, k1, by rw [k2.len]; exact q _ L H (Ext.refl _ _ _) s (.int _)⟩
      · exact q.elim
    · exact q.elim
def φList  (ds : List PyData) (Q : R → Prop) : Prop := match ds with
  | [d] => match PyData.its d with
    | some es => Q (.nw es)
    | none => False
  | _ => False
abbrev rList (K : PySem.W.Frag) : List V → Hp → VK → Prop := fun xs H Q => ∃ p ys, xs = [.ref p] ∧ (SqL K H p ys ∨ SqT K H p ys) ∧ ∀ l, H l = none → Q (.ref l) (upd H l (.lst ys))
theorem rc_list {K : PySem.W.Frag} : RCK (rList K) φList := by
  constructor
  · intro x A B hAB q
    unfold φList at q ⊢
    split at q
    · split at q
      · exact hAB _ q
      · exact q.elim
    · exact q.elim
  · intro L H xs ds Q s hx q
    unfold φList at q
    split at q
    · split at q
      · rename_i es he
        cases hx with
        | cons h1 h2 =>
          cases h2
          obtain ⟨a, ys, rfl, k1, k2⟩ := its_seq (K := K) h1 s he
          exact ⟨a, ys, rfl, k1, fun p np => q _ L _ (Ext.own np) (same_own s (s.free np)) ⟨p, _, rfl, np, s.free np, upd_same, k2⟩⟩
      · exact q.elim
    · exact q.elim
def φTuple  (ds : List PyData) (Q : R → Prop) : Prop := match ds with
  | [d] => match PyData.its d with
    | some es => Q (.sh (.tuple es))
    | none => False
  | _ => False
theorem rc_tuple {K : PySem.W.Frag} : RCK (rTuple K) φTuple := by
  constructor
  · intro x A B hAB q
    unfold φTuple at q ⊢
    split at q
    · split at q
      · exact hAB _ q
      · exact q.elim
    · exact q.elim
  · intro L H xs ds Q s hx q
    unfold φTuple at q
    split at q
    · split at q
      · rename_i d _ es he
        cases hx with
        | cons h1 h2 =>
          cases h2
          cases d with
          | list es' =>
            cases he
            obtain ⟨a, ys, rfl, k1, k2⟩ := h1.lst s
            refine ⟨a, ys, rfl, .inl ⟨SqL.of k1, fun p o np no => ?_⟩⟩
            have e1 : Ext none L H (upd L p (.frz o (.tup ys))) (upd H p (.frz o (.tup ys))) := Ext.new s np
            exact q _ _ _ e1 (same_both s) (.tup ⟨o, no, upd_same⟩ (k2.to e1.ll))
          | tuple es' =>
            cases he
            obtain ⟨a, ys, rfl, k1, k2⟩ := h1.tup
            exact ⟨a, ys, rfl, .inr ⟨(k1.to s).seq, q _ L H (Ext.refl _ _ _) s (.tup k1 k2)⟩⟩
          | _ => cases he
      · exact q.elim
    · exact q.elim
def φAbs  (ds : List PyData) (Q : R → Prop) : Prop := match ds with
  | [.int i] => Q (.sh (.int (if i < 0 then -i else i)))
  | _ => False
def φInt  (ds : List PyData) (Q : R → Prop) : Prop := match ds with
  | [.int i] => Q (.sh (.int i))
  | [.bool b] => Q (.sh (.int (if b then 1 else 0)))
  | _ => False
def φMax  (ds : List PyData) (Q : R → Prop) : Prop := match ds with
  | [.int i, .int j] => Q (.sh (.int (if j > i then j else i)))
  | _ => False
theorem rc_max : RCK (fun xs H Q => ∃ i j, xs = [.int i, .int j] ∧ Q (.int (if j > i then j else i)) H) φMax := by
  constructor
  · intro x A B hAB q
    unfold φMax at q ⊢
    split at q
    · exact hAB _ q
    · exact q.elim
  · intro L H xs ds Q s hx q
    unfold φMax at q
    split at q
    · cases hx with
      | cons h1 h2 =>
        cases h2 with
        | cons h2 h3 =>
          cases h3
          cases h1.int
          cases h2.int
          exact ⟨_, _, rfl, q _ L H (Ext.refl _ _ _) s (.int _)⟩
    · exact q.elim
def φAll (any : Bool)  (ds : List PyData) (Q : R → Prop) : Prop := match ds with
  | [.list es] => match boolsD es with
    | some bs => Q (.sh (.bool (if any then bs.any id else bs.all id)))
    | none => False
  | _ => False
theorem rc_all {K : PySem.W.Frag} : RCK (rAll K) (φAll false) := by
  constructor
  · intro x A B hAB q
    unfold φAll at q ⊢
    split at q
    · split at q
      · exact hAB _ q
      · exact q.elim
    · exact q.elim
  · intro L H xs ds Q s hx q
    unfold φAll at q
    split at q
    · split at q
      · rename_i ns hn
        cases hx with
        | cons h1 h2 =>
          cases h2
          obtain ⟨a, ys, rfl, k1, k2⟩ := h1.lst s
          rw [boolsD_is hn] at k2
          cases bools_dvs k2
          exact ⟨a, ns, rfl, SqL.of k1, q _ L H (Ext.refl _ _ _) s (.bl _)⟩
      · exact q.elim
    · exact q.elim
section
variable {w : Wx} {K : PySem.W.Frag} {te : TE} {f : DTE}
/-- RS: the items of nss, each once, ascending -/
def Asc (nss RS : List (List Int)) : Prop := RS.Nodup ∧ RS.Pairwise (fun x y => HT.lexLt y x = false) ∧ ∀ k, k ∈ RS ↔ k ∈ nss
/-- sorted(set(xs)), xs a list of tuples of ints -/
def dSortSet (f : DTE)  (ε : Env) (Q : R → Env → Prop) : Prop := f ε fun r ε1 => match r.dat with
  | some (.list ds) => match tupsD ds with
    | some nss => nss.length < 64 ∧ ∀ RS, Asc nss RS → Q (.nw (dT RS)) ε1
    | none => False
  | _ => False
def dListRg (f : DTE)  (ε : Env) (Q : R → Env → Prop) : Prop := f ε fun r ε1 => match r.dat with
  | some (.int n) => n ≤ 16777216 ∧ -(2 ^ 62) ≤ n ∧ Q (.nw (rgD 0 n.toNat)) ε1
  | _ => False
theorem dvs_rg {H : Hp} (n : Int) : DVs H (rgV 0 n) (rgD 0 n.toNat) := by
  unfold rgV rgD
  rw [Int.sub_zero]
  generalize List.range n.toNat = l
  induction l with
  | nil => exact .nil
  | cons x r ih => exact .cons (.int _) ih
theorem se_listRg (hf : SE w te f) : SE w (tLstRg (tRg1 te)) (dListRg f) := by
  constructor
  · intro ε A B h q
    refine hf.mono _ _ _ (fun r ε1 q => ?_) q
    split at q
    · exact ⟨q.1, q.2.1, h _ _ q.2.2⟩
    · exact q.elim
  · intro Z O σ ε L H Q X q
    refine hf.run Z O σ ε L H _ X (hf.mono _ _ _ (fun r ε1 q => ?_) q)
    intro v L1 H1 X1 e1 r1
    split at q
    · rename_i n hd
      refine ⟨n, (r1.vl hd).int, ⟨by decide, by decide, q.2.1, by omega, by omega⟩, fun p np => ?_⟩
      have ep : Ext none L1 H1 L1 (upd H1 p (.lst (rgV 0 n))) := Ext.own np
      exact q.2.2 _ L1 _ (X1.step ep (same_own X1.lh (X1.lh.free np))) (e1.trans ep.any) (VR.back (VR0.vr (r := .nw (rgD 0 n.toNat)) ⟨p, _, rfl, np, X1.lh.free np, upd_same, dvs_rg n⟩ X1) e1)
    · exact q.elim
end
section
variable {X : Cx}
end
section
variable {w : Wx} {K : PySem.W.Frag} {ta te : TE} {f g : DTE}
/-- the first place of an int among ints -/
def dIndex (f g : DTE)  (ε : Env) (Q : R → Env → Prop) : Prop := f ε fun x ε1 => match x.dat.bind PyData.its with
  | some ds => g ε1 fun y ε2 => match y.dat, intsD ds with
    | some (.int k), some ns => k ∈ ns ∧ Q (.sh (.int (ns.idxOf k : Nat))) ε2
    | _, _ => False
  | none => False
theorem idx_get {ms : List Int} {z : Int} (h : z ∈ ms) : ms[ms.idxOf z]? = some z := by
  have hl := List.idxOf_lt_length_of_mem h
  rw [List.getElem?_eq_getElem hl, List.getElem_idxOf hl]
end
end Lp

namespace Lp
open PySem PySem.Spec PyProof.Rows L2
section
variable {w : Wx} {K : PySem.W.Frag} {ta te : TE} {f g : DTE}
def enD (ds : List PyData) : List PyData := ds.mapIdx fun i d => .tuple [.int (i : Nat), d]
theorem enD_len (ds : List PyData) : (enD ds).length = ds.length := by unfold enD; rw [List.length_mapIdx]
theorem enD_get {ds : List PyData} {i : Nat} {e : PyData} (h : (enD ds)[i]? = some e) : ∃ d, ds[i]? = some d ∧ e = .tuple [.int (i : Nat), d] := by
  unfold enD at h
  rw [List.getElem?_mapIdx] at h
  cases q : ds[i]? with
  | none => rw [q] at h; cases h
  | some d => rw [q] at h; cases h; exact ⟨d, rfl, rfl⟩
theorem walkS_enum {L : Hp} {a : Addr} {xs : List V} {ds : List PyData} (h : L a = some (.lst xs)) (r : DVs L xs ds) : WalkS true L (Ite K a) (enD ds) := by
  have hl := r.len
  refine ⟨fun i L' H' s1 s2 hi => ?_, fun L' H' s1 s2 => ?_, fun i d L' H' x H2 s1 s2 hd y => ?_⟩
  · rw [enD_len] at hi
    exact ⟨xs, xs[i]'(by omega), SqL.of (s2 _ _ (s1 _ _ h)), List.getElem?_eq_getElem (by omega)⟩
  · rw [enD_len]
    exact ⟨xs, SqL.of (s2 _ _ (s1 _ _ h)), by omega⟩
  · obtain ⟨T, z, rfl, nT, rfl, y2⟩ := y
    have hx := y2 xs (SqL.of (s2 _ _ (s1 _ _ h)))
    obtain ⟨d', hd', rfl⟩ := enD_get hd
    obtain ⟨v, h1, h2⟩ := r.get hd'
    rw [hx] at h1
    cases h1
    exact ⟨L', Ext.own nT, same_own s2 (s2.free nT), .inr ⟨T, _, _, rfl, rfl, upd_same, .cons (.int _) (.cons (h2.to s1) .nil)⟩⟩
def dEnum (f : DTA)  (ε : Env) (Q : List PyData → Bool → Env → Prop) : Prop := f ε fun rs ε1 => match rs with
  | [.sh (.list ds)] => Q (enD ds) true ε1
  | _ => False
def zipDs (xs ys : List PyData) : List PyData := List.zipWith (fun a b => .tuple [a, b]) xs ys
theorem zipDs_len (xs ys : List PyData) : (zipDs xs ys).length = min xs.length ys.length := by unfold zipDs; rw [List.length_zipWith]
theorem zipDs_get {xs ys : List PyData} {i : Nat} {e : PyData} (h : (zipDs xs ys)[i]? = some e) : ∃ a b, xs[i]? = some a ∧ ys[i]? = some b ∧ e = .tuple [a, b] := by
  unfold zipDs at h
  rw [List.getElem?_zipWith] at h
  cases q : xs[i]? with
  | none => rw [q] at h; cases h
  | some a =>
    rw [q] at h
    cases q2 : ys[i]? with
    | none => rw [q2] at h; cases h
    | some b => rw [q2] at h; cases h; exact ⟨a, b, rfl, rfl, rfl⟩
theorem walkS_zipL {L : Hp} {a b : Addr} {xs ys : List V} {ds es : List PyData} (h : L a = some (.lst xs)) (k : L b = some (.lst ys)) (r : DVs L xs ds) (q : DVs L ys es) : WalkS true L (Itz K a b) (zipDs ds es) := by
  have hl := r.len
  have kl := q.len
  refine ⟨fun i L' H' s1 s2 hi => ?_, fun L' H' s1 s2 => ?_, fun i d L' H' x H2 s1 s2 hd y => ?_⟩
  · rw [zipDs_len] at hi
    exact ⟨xs, ys, xs[i]'(by omega), ys[i]'(by omega), SqL.of (s2 _ _ (s1 _ _ h)), SqL.of (s2 _ _ (s1 _ _ k)), List.getElem?_eq_getElem (by omega), List.getElem?_eq_getElem (by omega)⟩
  · rw [zipDs_len]
    exact ⟨xs, ys, SqL.of (s2 _ _ (s1 _ _ h)), SqL.of (s2 _ _ (s1 _ _ k)), by omega⟩
  · obtain ⟨T, z, z', rfl, nT, rfl, y2, y3⟩ := y
    have hx := y2 xs (SqL.of (s2 _ _ (s1 _ _ h)))
    have hy := y3 ys (SqL.of (s2 _ _ (s1 _ _ k)))
    obtain ⟨d', e', hd', he', rfl⟩ := zipDs_get hd
    obtain ⟨v, h1, h2⟩ := r.get hd'
    obtain ⟨u, k1, k2⟩ := q.get he'
    rw [hx] at h1
    rw [hy] at k1
    cases h1
    cases k1
    exact ⟨L', Ext.own nT, same_own s2 (s2.free nT), .inr ⟨T, _, _, rfl, rfl, upd_same, .cons (h2.to s1) (.cons (k2.to s1) .nil)⟩⟩
theorem walkS_zipT {L : Hp} {a b : Addr} {xs ys : List V} {ds es : List PyData} (h : Sol L a xs) (k : Sol L b ys) (r : DVs L xs ds) (q : DVs L ys es) : WalkS true L (RZ.ItzT K a b) (zipDs ds es) := by
  have hl := r.len
  have kl := q.len
  refine ⟨fun i L' H' s1 s2 hi => ?_, fun L' H' s1 s2 => ?_, fun i d L' H' x H2 s1 s2 hd y => ?_⟩
  · rw [zipDs_len] at hi
    exact ⟨xs, ys, xs[i]'(by omega), ys[i]'(by omega), ((h.to s1).to s2).seq, ((k.to s1).to s2).seq, List.getElem?_eq_getElem (by omega), List.getElem?_eq_getElem (by omega)⟩
  · rw [zipDs_len]
    exact ⟨xs, ys, ((h.to s1).to s2).seq, ((k.to s1).to s2).seq, by omega⟩
  · obtain ⟨T, z, z', rfl, nT, rfl, y2, y3⟩ := y
    have hx := y2 xs ((h.to s1).to s2).seq
    have hy := y3 ys ((k.to s1).to s2).seq
    obtain ⟨d', e', hd', he', rfl⟩ := zipDs_get hd
    obtain ⟨v, h1, h2⟩ := r.get hd'
    obtain ⟨u, k1, k2⟩ := q.get he'
    rw [hx] at h1
    rw [hy] at k1
    cases h1
    cases k1
    exact ⟨L', Ext.own nT, same_own s2 (s2.free nT), .inr ⟨T, _, _, rfl, rfl, upd_same, .cons (h2.to s1) (.cons (k2.to s1) .nil)⟩⟩
def dZip (f : DTA)  (ε : Env) (Q : List PyData → Bool → Env → Prop) : Prop := f ε fun rs ε1 => match rs with
  | [.sh (.list xs), .sh (.list ys)] => Q (zipDs xs ys) true ε1
  | [.sh (.tuple xs), .sh (.tuple ys)] => Q (zipDs xs ys) true ε1
  | _ => False
theorem si_zip {n : Nat} {t : TA} {f : DTA} (hf : SA w n t f) : SI w true (RZ.iZipA K t) (dZip f) := by
  constructor
  · intro ε A B h q
    refine hf.mono _ _ _ (fun r ε1 q => ?_) q
    split at q
    · exact h _ _ _ q
    · exact h _ _ _ q
    · exact q.elim
  · intro Z O σ ε L H R X q
    refine hf.run Z O σ ε L H _ X (hf.mono _ _ _ (fun r ε1 q => ?_) q)
    intro vs L1 H1 X1 e1 r1 hl np
    split at q
    · rename_i xs ys
      cases r1 with
      | cons r1 r2 =>
        cases r2 with
        | cons r2 r3 =>
          cases r3
          cases (show DV L1 _ (.list xs) from r1) with
          | lst h1 h2 =>
            cases (show DV L1 _ (.list ys) from r2) with
            | lst k1 k2 =>
              have W := walkS_zipL (K := K) h1 k1 h2 k2
              exact ⟨_, _, _, _, rfl, .inl ⟨SqL.of (X1.lh _ _ h1), SqL.of (X1.lh _ _ k1), q _ L1 H1 X1 e1 W.e fun _ => W⟩⟩
    · rename_i xs ys
      cases r1 with
      | cons r1 r2 =>
        cases r2 with
        | cons r2 r3 =>
          cases r3
          cases (show DV L1 _ (.tuple xs) from r1) with
          | tup h1 h2 =>
            cases (show DV L1 _ (.tuple ys) from r2) with
            | tup k1 k2 =>
              have W := walkS_zipT (K := K) h1 k1 h2 k2
              exact ⟨_, _, _, _, rfl, .inr ⟨(h1.to X1.lh).seq, (k1.to X1.lh).seq, q _ L1 H1 X1 e1 W.e fun _ => W⟩⟩
    · exact q.elim
def scD (γ : DTG) (f : DTE) (vs : List Nat) (s : List SV) (Q : R → Env → Prop) : List PyData → List (List Int) → Nat → Prop
  | [], acc, n => ∀ RS, Asc acc RS → Q (.nw (dT RS)) ⟨s, n⟩
  | d :: ds, acc, n => γ d ⟨wipeE ⟨s, n⟩ vs, n⟩ fun ε1 => f ε1 fun r ε3 => match r with
      | .sh (.tuple es) => match intsD es with
        | some (x :: ns) => acc.length + 1 < 64 ∧ scD γ f vs s Q ds (acc ++ [x :: ns]) ε3.c
        | _ => False
      | _ => False
def dSortSc (i : DTI) (γ : DTG) (f : DTE) (vs : List Nat)  (ε : Env) (Q : R → Env → Prop) : Prop := i ε fun ds _ ε1 => scD γ f vs ε1.s Q ds [] ε1.c
end
section
variable {w : Wx} {K : PySem.W.Frag} {te : TE} {f : DTE}
def tyD : PyData → String
  | .none => "NoneType"
  | .bool _ => "bool"
  | .int _ => "int"
  | .str _ => "str"
  | .list _ => "list"
  | .tuple _ => "tuple"
  | .dict _ => "dict"
/-- what a value is, dicts with keys that are tuples, too -/
def TyY (K : PySem.W.Frag) (H : Hp) (x : V) (t : Value) : Prop := TyX K H x t ∨ (t = .type "dict" ∧ ∃ a xs, x = .ref a ∧ IsDct H a xs)
theorem kit_ofY {X : Cx} {pins : List (Addr × Obj)} {σ : L2.St} {H : Hp} {s : Shared} {x : V} {u t : Value} (I : Inv X pins σ H s) (rx : RelV x u) (ty : TyY X.K H x t) : ∃ P : Heap → Prop, PySem.W.KitX X.K u t P ∧ P s.heap ∧ u ≠ .builtin "__main__.__loader__#opaque" := by
  rcases ty with ty | ⟨rfl, a, xs, rfl, ob, x1⟩
  · exact kit_of I rx ty
  · cases (show u = Value.ref a from rx)
    obtain ⟨_, _, _, ys, _, o, es, ep, ho, hx, _⟩ := (I.hok a _ x1).1.2
    exact ⟨_, PySem.W.kitx_dict, ⟨o, ho, hx.1⟩, fun z => nomatch z⟩
def rIsiY (K : PySem.W.Frag) : List V → Hp → VK → Prop := fun xs H Q => ∃ (x c : V) (t u : Value) (b : Bool), xs = [x, c] ∧ ClsV c u ∧ TyY K H x t ∧ PySem.W.kitOne K t u = some b ∧ Q (.bl b) H
def rIsiTY (K : PySem.W.Frag) : List V → Hp → VK → Prop := fun xs H Q => ∃ (x : V) (tp : Addr) (cs : List V) (t : Value) (us : List Value) (b : Bool), xs = [x, .ref tp] ∧ H tp = some (.tup cs) ∧ Paired ClsV cs us ∧ TyY K H x t ∧ PySem.W.kitAny K t us = some b ∧ Q (.bl b) H
theorem call_isiY {X : Cx} : CallR X (.builtin "isinstance") (rIsiY X.K) := by
  intro pins s σ H xs us Q I r h
  obtain ⟨x, c, t, u, b, rfl, k, ty, e, q⟩ := h
  obtain ⟨u1, u2, rfl, r1, r2⟩ := vals2 r
  have e2 := k.eq r2
  subst e2
  obtain ⟨P, Z, p, hx⟩ := kit_ofY I r1 ty
  exact PySem.W.kia_one Z I.kIn p e hx fun tk => ⟨.bl b, H, I.tok tk, rfl, q⟩
theorem call_isiTY {X : Cx} : CallR X (.builtin "isinstance") (rIsiTY X.K) := by
  intro pins s σ H xs us Q I r h
  obtain ⟨x, tp, cs, t, ws, b, rfl, hT, k, ty, e, q⟩ := h
  obtain ⟨u1, u2, rfl, r1, r2⟩ := vals2 r
  cases (show u2 = Value.ref tp from r2)
  obtain ⟨P, Z, p, hx⟩ := kit_ofY I r1 ty
  obtain ⟨_, its, rv, o, h1, h2, n, h3⟩ := (show ObjOk X.prog X.w H s.heap tp (.tup cs) from I.hok tp _ hT)
  have e3 := ClsV.all k rv
  subst e3
  obtain ⟨oc, od, dt, sl⟩ := o
  simp only at h2 h3
  subst h2 h3
  exact PySem.W.kia_tup Z I.kIn p h1 e hx fun tk => ⟨.bl b, H, I.tok tk, rfl, q⟩
theorem tyX_of {L H : Hp} {v : V} {d : PyData} (h : VL L H v d) (s : Same L H) : TyY K H v (.type (tyD d)) := by
  cases d with
  | none => rw [h.non]; exact .inl (.base .non)
  | bool b => rw [h.bl]; exact .inl (.base (.bl _))
  | int i => rw [h.int]; exact .inl (.base (.int _))
  | str x => rw [h.str]; exact .inl (.base (.str _))
  | list ds =>
    obtain ⟨a, xs, rfl, h1, _⟩ := h.lst s
    exact .inl (.base (.lst h1))
  | tuple ds =>
    obtain ⟨a, xs, rfl, h1, _⟩ := h.tup
    obtain ⟨o, _, e⟩ := h1.to s
    exact .inl (.fTuple e)
  | dict _ =>
    rcases h with h | ⟨a, xs, es, e, _⟩
    · cases h with
      | dct e _ _ => exact .inr ⟨rfl, _, _, rfl, e.to s⟩
      | dci e _ _ _ => exact .inl (.fDict (s _ _ e))
    · cases e
/-- is a value of type a one of type b -/
def isaT (a b : String) : Bool := a == b || (a == "bool" && b == "int")
def TyIn (T : String) : Prop := T = "int" ∨ T = "bool" ∨ T = "str" ∨ T = "list" ∨ T = "tuple"
theorem kit_all : ∀ a ∈ ["NoneType", "bool", "int", "str", "list", "tuple", "dict"], ∀ b ∈ ["int", "bool", "str", "list", "tuple"], kitB a b = some (isaT a b) := by decide +kernel
theorem kit_tyD {T : String} (hT : TyIn T) (d : PyData) : kitB (tyD d) T = some (isaT (tyD d) T) := by
  refine kit_all _ ?_ _ ?_
  · cases d <;> simp [tyD]
  · rcases hT with rfl | rfl | rfl | rfl | rfl <;> simp
def dIsi (T : String) (f : DTE)  (ε : Env) (Q : R → Env → Prop) : Prop := f ε fun r ε1 => match r.dat with
  | some d => Q (.sh (.bool (isaT (tyD d) T))) ε1
  | none => False
theorem se_isi {T : String} (hT : TyIn T) (hf : SE w te f) : SE w (tCB (rIsiY K) (tCons te (tCons (tC (.ty T)) tNil))) (dIsi T f) := by
  constructor
  · intro ε A B h q
    refine hf.mono _ _ _ (fun r ε1 q => ?_) q
    split at q
    · exact h _ _ q
    · exact q.elim
  · intro Z O σ ε L H Q X q
    refine hf.run Z O σ ε L H _ X (hf.mono _ _ _ (fun r ε1 q => ?_) q)
    intro v L1 H1 X1 e1 r1
    split at q
    · rename_i d hd
      exact ⟨v, .ty T, .type (tyD d), .type T, _, rfl, .ty T, tyX_of (r1.vl hd) X1.lh, kit_ty (kit_tyD hT d), q _ L1 H1 X1 e1 (.bl _)⟩
    · exact q.elim
/-- isinstance(x, (list, tuple)) -/
def dIsi2 (T T' : String) (f : DTE)  (ε : Env) (Q : R → Env → Prop) : Prop := f ε fun r ε1 => match r.dat with
  | some d => Q (.sh (.bool (isaT (tyD d) T || isaT (tyD d) T'))) ε1
  | none => False
theorem se_isi2 {T T' : String} (hT : TyIn T) (hT' : TyIn T') (hf : SE w te f) : SE w (tCB (rIsiTY K) (tCons te (tCons (tTup (tCons (tC (.ty T)) (tCons (tC (.ty T')) tNil))) tNil))) (dIsi2 T T' f) := by
  constructor
  · intro ε A B h q
    refine hf.mono _ _ _ (fun r ε1 q => ?_) q
    split at q
    · exact h _ _ q
    · exact q.elim
  · intro Z O σ ε L H Q X q
    refine hf.run Z O σ ε L H _ X (hf.mono _ _ _ (fun r ε1 q => ?_) q)
    intro v L1 H1 X1 e1 r1
    split at q
    · rename_i d hd
      refine ⟨by show 2 ≤ sizeLine; decide, fun p np => ?_⟩
      have e2 : Ext none L1 H1 L1 (upd H1 p (.tup [.ty T, .ty T'])) := Ext.own np
      have X2 := X1.step e2 (same_own X1.lh (X1.lh.free np))
      refine ⟨v, p, _, .type (tyD d), [.type T, .type T'], _, rfl, upd_same, .cons (.ty T) (.cons (.ty T') .nil), tyX_of ((r1.mono X1 e2.any).vl hd) X2.lh, ?_, q _ L1 _ X2 (e1.trans e2.any) (.bl _)⟩
      refine kitAny_cons (kit_ty (kit_tyD hT d)) (fun h => ?_) (fun h => by rw [h]; rfl)
      refine kitAny_cons (kit_ty (kit_tyD hT' d)) (fun h' => ?_) (fun h' => by rw [h', Bool.or_true])
      rw [h, h']; rfl
    · exact q.elim
end
end Lp

namespace Lp
open PySem PySem.Spec PyProof.Rows L2
/-- the module's names that are the built-ins' -/
structure Bi (mg : Str → Option Value) : Prop where
  len : mg "len" = none
  list : mg "list" = none
  tuple : mg "tuple" = none
  range : mg "range" = none
  enumerate : mg "enumerate" = none
  all : mg "all" = none
  isinstance : mg "isinstance" = none
  zip : mg "zip" = none
  abs : mg "abs" = none
  int : mg "int" = none
  str : mg "str" = none
  bool : mg "bool" = none
  repr : mg "repr" = none
  set : mg "set" = none
  min : mg "min" = none
  max : mg "max" = none
  sorted : mg "sorted" = none
  sum : mg "sum" = none
  any : mg "any" = none
def φIsB  (x y : PyData) (Q : R → Prop) : Prop := match x, y with
  | .bool a, .bool b => Q (.sh (.bool (decide (a = b))))
  | _, _ => False
def dNotT (f : DTE)  (ε : Env) (Q : R → Env → Prop) : Prop := f ε fun r ε1 => match r.dat.bind truD with
  | some k => Q (.sh (.bool (!k))) ε1
  | _ => False
section
variable {X : Cx} {K : PySem.W.Frag}
theorem ixK (e : X.K = K) : IxR X (rIx K) := e ▸ ix_seq
theorem addK (e : X.K = K) : OpR X (binaryOp .Add) (rAdd K) := e ▸ op_addA
theorem eqK (e : X.K = K) (hu : X.A.units + 64 < cLine) : OpR X (compareOp .Eq) (rEqA K) := e ▸ op_eqA hu
theorem neK (e : X.K = K) (hu : X.A.units + 64 < cLine) : OpR X (compareOp .NotEq) (rNeA K) := e ▸ op_neA hu
theorem lenK (e : X.K = K) : CallR X (.builtin "len") (rLen K) := e ▸ call_len_seq
theorem listK (e : X.K = K) : CallR X (.type "list") (rList K) := e ▸ call_list_of
theorem tupleK (e : X.K = K) : CallR X (.type "tuple") (rTuple K) := e ▸ call_tupleS
theorem allK (e : X.K = K) (hc : X.calm = true) : CallR X (.builtin "all") (rAll K) := e ▸ cr_all hc
theorem seqK {tg o : Expr} {to : TE} (e : X.K = K) (ho : PE X o to) : PI X tg o (iSeq K to) := e ▸ pi_seq ho
theorem gtupK {es : List Expr} {k : Nat} {t : TGs} {n : Nat} {pos : Pos} (e : X.K = K) (h : PG X (.Tuple es k pos) (gTup X.K n t)) : PG X (.Tuple es k pos) (gTup K n t) := e ▸ h
theorem isiK (e : X.K = K) : CallR X (.builtin "isinstance") (rIsiY K) := e ▸ call_isiY
theorem isiTK (e : X.K = K) : CallR X (.builtin "isinstance") (rIsiTY K) := e ▸ call_isiTY
theorem zipA {ta : TA} {p pos tpos : Pos} {elts : List Expr} {kk : Nat} {a a' : Expr} (e : X.K = K) (hg : Gl X "zip") (hm : X.mg "zip" = none) (ha : PA X [a, a'] ta) (hs : starEach [a, a'] X.env = (false, eval a X.env) :: starEach [a'] X.env := by rfl) (hpl : (backTo pos (starEach [a'] X.env)).any (·.1) = false := by rfl) : PI X (.Tuple elts kk tpos) (.Call (.Name "zip" p) [a, a'] [] pos) (RZ.iZipA K ta) := e ▸ RZ.pi_zipA hg hm ha hs hpl
theorem bmK {e : Expr} {T : String} {r : V → List V → Hp → VK → Prop} {to : TE} {t : TA} (h : X.K = K) (x : PE X e (tBM X.K T r to t)) : PE X e (tBM K T r to t) := h ▸ x
end
/-- a def that may be called -/
structure Cal (P : Program) (w : World) (K : PySem.W.Frag) (mg : Str → Option Value) (base : Heap) (x : Str) (k : Nat) (ps : List Str) (sp : Sp) (f : Addr) (fd : FuncData) : Prop where
  ok : FnOk P w K mg base CX0 k f fd ps sp
  g : mg x = some (.ref f)
  kp : PySem.W.keepIn K (.ref f) = true
  bd : Binds K fd ps []
def KbR (fd : FuncData) (ps : List Str) : Prop := ∀ (s : Shared) (ws : List Value), ws.length = ps.length → BindsTo s fd ⟨[], ps.reverse.zip ws⟩ (ps.zip ws.reverse)
theorem Fun.kbr {K : PySem.W.Frag} {x qual : Str} {st : Stmt} {f : Addr} {fd : FuncData} {ps : List Str} (F : Fun K x qual st f fd)
    (h : ∀ (kV doc pm : Value) (an : Option Addr) (cdv ct : Value) (ws : List Value), ws.length = ps.length → bindArgs (PySem.W.fnOf x qual (defArgs st) (defBody st) (defScope st) .none kV doc pm an cdv ct) ⟨[], ps.reverse.zip ws⟩ = pure (ps.zip ws.reverse)) : KbR fd ps := by
  obtain ⟨oc, od, kV, doc, pm, an, cdv, ct, osl, rfl, lk, hcd⟩ := F.ex
  exact fun s ws hl => .of_eq (h kV doc pm an cdv ct ws hl)
theorem pe_callR {X : Cx} {CX : CXT} {k : Nat} {f : Addr} {fd : FuncData} {ps : List Str} {sp : Sp} {E : XK} {x : Str} {p pos : Pos} {kws : List Keyword} {tk : TA} (F : FnOk X.prog X.w X.K X.mg X.base CX k f fd ps sp) (hr : Room k X.A) (hg : Gl X x) (hm : X.mg x = some (.ref f)) (hk : PySem.W.keepIn X.K (.ref f) = true) (hb : KbR fd ps) (hx : Passes CX X E)
    (hkw : PK X kws tk) (hall : (backToKw pos (keywordEach kws X.env)).all (·.1.isSome) = true := by rfl) (hks : (backToKw pos (keywordEach kws X.env)).filterMap (·.1) = ps.reverse := by rfl) (hdb : (x == ("__debug__" : Str)) = false := by decide)
    (hpl : ((backTo pos (starEach [] X.env)).any (·.1) || (backToKw pos (keywordEach kws X.env)).any (·.1.isNone)) = false := by rfl) :
    PE X (.Call (.Name x p) [] kws pos) (tCallR sp E tk) := by
  refine ⟨fun pins s σ H Q I h => ?_⟩
  refine wpAny_Call_Name_kw (ld_glob I hg hm ?_ hdb)
  refine PySem.W.callWith_KW0 (h₀ := X.base) I.ok.mod.kin hk hall ?_ hpl
  refine thn (hkw.run pos pins s σ H _ I h) fun ws s2 ⟨zs, H2, I2, rz, q2⟩ => ⟨I2.kIn, ?_⟩
  rw [hks]
  have hl : ws.length = ps.length := by
    rw [← rz.length, ← List.length_reverse]; exact F.len _ _ _ _ q2
  refine wpAny_call (codeAny_mono (F.run X.A X.stack s2 H2 ⟨[], ps.reverse.zip ws⟩ ws.reverse zs.reverse Q E hr I2.env0 (hb s2 ws hl) rz.reverse q2) fun r s' hq => ?_)
  cases r with
  | error e => exact hx pins σ H2 s2 e s' I2 hq
  | ok fl =>
    cases fl with
    | ret u => exact I2.after hq
    | next => exact False.elim hq
    | brk => exact False.elim hq
    | cont => exact False.elim hq
section
variable {P : Program} {w : World} {K : PySem.W.Frag} {mg : Str → Option Value} {base : Heap}
end
def Dx (K : PySem.W.Frag) (x : Str) (st : Stmt) : Prop := ∃ (f : Addr) (oc : Value) (od an : Option Addr) (sl : Array (Option Value)) (kV dc pm cd ct : Value), PySem.W.nsIn K mainGlobals x = some (some (.ref f)) ∧
  K.lookup f = some ⟨oc, od, .func (PySem.W.fnOf x x (defArgs st) (defBody st) (defScope st) .none kV dc pm an cd ct), sl⟩ ∧ PySem.W.codeIn K cd x = true ∧ PySem.W.keepIn K (.ref f) = true
theorem dx_mk {K : PySem.W.Frag} {x : Str} {st : Stmt} {f : Addr} {oc : Value} {od an : Option Addr} {sl : Array (Option Value)} {kV dc pm cd ct : Value} (a : PySem.W.nsIn K mainGlobals x = some (some (.ref f)))
    (l : K.lookup f = some ⟨oc, od, .func (PySem.W.fnOf x x (defArgs st) (defBody st) (defScope st) .none kV dc pm an cd ct), sl⟩) (c : PySem.W.codeIn K cd x = true) (k : PySem.W.keepIn K (.ref f) = true) : Dx K x st := ⟨f, oc, od, an, sl, kV, dc, pm, cd, ct, a, l, c, k⟩
theorem Dx.fn {K : PySem.W.Frag} {x : Str} {st : Stmt} {h : Heap} {mg : Str → Option Value} (d : Dx K x st) (X : K.In h) (G : h.Ns mainGlobals mg) : ∃ f fd, Fun K x x st f fd ∧ mg x = some (.ref f) := by
  obtain ⟨f, oc, od, an, sl, kV, dc, pm, cd, ct, a, l, c, k⟩ := d
  exact ⟨f, _, fun_mk l c k, PySem.W.mg_of X G a⟩
structure Zs (K : PySem.W.Frag) : Prop where
  len : PySem.W.nsIn K mainGlobals "len" = some none
  list : PySem.W.nsIn K mainGlobals "list" = some none
  tuple : PySem.W.nsIn K mainGlobals "tuple" = some none
  range : PySem.W.nsIn K mainGlobals "range" = some none
  enumerate : PySem.W.nsIn K mainGlobals "enumerate" = some none
  all : PySem.W.nsIn K mainGlobals "all" = some none
  isinstance : PySem.W.nsIn K mainGlobals "isinstance" = some none
  zip : PySem.W.nsIn K mainGlobals "zip" = some none
  abs : PySem.W.nsIn K mainGlobals "abs" = some none
  int : PySem.W.nsIn K mainGlobals "int" = some none
  str : PySem.W.nsIn K mainGlobals "str" = some none
  bool : PySem.W.nsIn K mainGlobals "bool" = some none
  repr : PySem.W.nsIn K mainGlobals "repr" = some none
  set : PySem.W.nsIn K mainGlobals "set" = some none
  min : PySem.W.nsIn K mainGlobals "min" = some none
  max : PySem.W.nsIn K mainGlobals "max" = some none
  sorted : PySem.W.nsIn K mainGlobals "sorted" = some none
  sum : PySem.W.nsIn K mainGlobals "sum" = some none
  any : PySem.W.nsIn K mainGlobals "any" = some none
theorem Zs.bi {K : PySem.W.Frag} {h : Heap} {mg : Str → Option Value} (z : Zs K) (X : K.In h) (G : h.Ns mainGlobals mg) : Bi mg := by
  constructor
  · exact PySem.W.mg_none_of X G z.len
  · exact PySem.W.mg_none_of X G z.list
  · exact PySem.W.mg_none_of X G z.tuple
  · exact PySem.W.mg_none_of X G z.range
  · exact PySem.W.mg_none_of X G z.enumerate
  · exact PySem.W.mg_none_of X G z.all
  · exact PySem.W.mg_none_of X G z.isinstance
  · exact PySem.W.mg_none_of X G z.zip
  · exact PySem.W.mg_none_of X G z.abs
  · exact PySem.W.mg_none_of X G z.int
  · exact PySem.W.mg_none_of X G z.str
  · exact PySem.W.mg_none_of X G z.bool
  · exact PySem.W.mg_none_of X G z.repr
  · exact PySem.W.mg_none_of X G z.set
  · exact PySem.W.mg_none_of X G z.min
  · exact PySem.W.mg_none_of X G z.max
  · exact PySem.W.mg_none_of X G z.sorted
  · exact PySem.W.mg_none_of X G z.sum
  · exact PySem.W.mg_none_of X G z.any
abbrev FnT (x : Str) (st : Stmt) (kV doc pm : Value) (an : Option Addr) (cdv ct : Value) : FuncData := PySem.W.fnOf x x (defArgs st) (defBody st) (defScope st) .none kV doc pm an cdv ct
section
variable {K : PySem.W.Frag} {x : Str} {st : Stmt} {f : Addr} {fd : FuncData} {p p' p'' : Str} (F : Fun K x x st f fd)
include F
theorem b1 (h : ∀ kV doc pm an cdv ct u, bindArgs (FnT x st kV doc pm an cdv ct) ⟨[u], []⟩ = pure [(p, u)]) : Binds K fd [p] [] :=
  F.binds fun kV doc pm an cdv ct us hl => match us, hl with | [u], _ => h kV doc pm an cdv ct u
theorem b2 (h : ∀ kV doc pm an cdv ct u v, bindArgs (FnT x st kV doc pm an cdv ct) ⟨[u, v], []⟩ = pure [(p, u), (p', v)]) : Binds K fd [p, p'] [] :=
  F.binds fun kV doc pm an cdv ct us hl => match us, hl with | [u, v], _ => h kV doc pm an cdv ct u v
theorem b3 (h : ∀ kV doc pm an cdv ct u v t, bindArgs (FnT x st kV doc pm an cdv ct) ⟨[u, v, t], []⟩ = pure [(p, u), (p', v), (p'', t)]) : Binds K fd [p, p', p''] [] :=
  F.binds fun kV doc pm an cdv ct us hl => match us, hl with | [u, v, t], _ => h kV doc pm an cdv ct u v t
theorem r1 (h : ∀ kV doc pm an cdv ct u, bindArgs (FnT x st kV doc pm an cdv ct) ⟨[], [(p, u)]⟩ = pure [(p, u)]) : KbR fd [p] :=
  Fun.kbr F fun kV doc pm an cdv ct us hl => match us, hl with | [u], _ => h kV doc pm an cdv ct u
theorem r2 (h : ∀ kV doc pm an cdv ct u v, bindArgs (FnT x st kV doc pm an cdv ct) ⟨[], [(p', u), (p, v)]⟩ = pure [(p, v), (p', u)]) : KbR fd [p, p'] :=
  Fun.kbr F fun kV doc pm an cdv ct us hl => match us, hl with | [u, v], _ => h kV doc pm an cdv ct u v
theorem r3 (h : ∀ kV doc pm an cdv ct u v t, bindArgs (FnT x st kV doc pm an cdv ct) ⟨[], [(p'', u), (p', v), (p, t)]⟩ = pure [(p, t), (p', v), (p'', u)]) : KbR fd [p, p', p''] :=
  Fun.kbr F fun kV doc pm an cdv ct us hl => match us, hl with | [u, v, t], _ => h kV doc pm an cdv ct u v t
end
theorem Cal.up {P : Program} {w : World} {K : PySem.W.Frag} {mg : Str → Option Value} {base : Heap} {x : Str} {j k : Nat} {ps : List Str} {sp : Sp} {f : Addr} {fd : FuncData} (c : Cal P w K mg base x j ps sp f fd) (h : j ≤ k) : Cal P w K mg base x k ps sp f fd := ⟨c.ok.mono h, c.g, c.kp, c.bd⟩
end Lp

namespace Lp
open PySem PySem.Spec PyProof.Rows L2
section
variable {P : Program} {w : World} {K : PySem.W.Frag} {mg : Str → Option Value} {base : Heap}
end
theorem lay_ints : ∀ ns : List Int, PyData.canLayAll0 (dI ns) = true
  | [] => by simp [PyData.canLayAll0]
  | x :: r => by
    have := lay_ints r
    simp only [List.map_cons, PyData.canLayAll0, PyData.canLay0, this, Bool.and_self]
theorem depth_ints : ∀ ns : List Int, PyData.depthAll (dI ns) = 0
  | [] => by simp [PyData.depthAll]
  | x :: r => by
    have := depth_ints r
    simp only [List.map_cons, PyData.depthAll, PyData.depth, this]
    rfl
theorem shL (ns : List Int) : SeqAt.shaped (.list (dI ns)) = true := by
  unfold SeqAt.shaped
  simp only [PyData.canLay0, PyData.depth, lay_ints, depth_ints]
  decide
theorem eqv_ints : ∀ a b : List Int, PyData.eqvAll (dI a) (dI b) = decide (a = b)
  | [], [] => by simp [PyData.eqvAll]
  | [], _ :: _ => by simp [PyData.eqvAll]
  | _ :: _, [] => by simp [PyData.eqvAll]
  | x :: r, y :: t => by
    have ih := eqv_ints r t
    simp only [List.map_cons, PyData.eqvAll, PyData.eqv, ih]
    by_cases h : x = y
    · subst h
      by_cases h2 : r = t
      · subst h2; simp
      · simp [h2]
    · simp [h]
theorem eqvL (a b : List Int) : PyData.eqv (.list (dI a)) (.list (dI b)) = decide (a = b) := by
  simp only [PyData.eqv]; exact eqv_ints a b
end Lp

namespace Lp
open PySem PySem.Spec PyProof.Rows L2
abbrev tupIt (t : Addr) : Obj := { cls := .type "tuple_iterator", data := .fields #[.ref t, .int 0 0] }
abbrev enumOf (it : Addr) : Obj := { cls := .type "enumerate", data := .fields #[.none, .bool false, .ref it, rawInt 0, .none, .none] }
theorem meets_enT (t : Addr) (its : Array Value) : Meets (Builtin.«enumerate.__new__» ⟨[.type "enumerate", .ref t], []⟩) (fun _ R s => s.heap.IsTuple t its ∧
    R (.ok (.ret (.ref (s.heap.push (tupIt t)).objs.size))) { s with heap := (s.heap.push (tupIt t)).push (enumOf s.heap.objs.size) }) :=
  .of_wp fun prog w A R s h => by
    obtain ⟨hp, g, d, tk, os⟩ := s
    obtain ⟨ht, h⟩ := h
    have sub := sub_enumerate
    have goIt : ∀ {A' : Around} {X : Value → Shared → Prop} {Q : Value → Shared → Prop}, Q (.ref hp.objs.size) ⟨hp.push (tupIt t), g, d, tk, os⟩ → wpAny (model prog w) A' (pyIter (.ref t)) Q X ⟨hp, g, d, tk, os⟩ :=
      fun q => wpAny_pyIter_tuple ht q
    wp_walk using goIt
    refine wpAny_stack_any fun st => wpAny_pure ?_
    split
    · rename_i c _ _ _ _ _
      cases (c == Value.type "enumerate") <;> (wp_walk using goIt; exact ⟨_, rfl, h⟩)
    · wp_walk using goIt
      exact ⟨_, rfl, h⟩
theorem call_enT {prog : Program} {w : World} {A : Around} {X : Value → Shared → Prop} {s : Shared} {t : Addr} {its : Array Value} {Q : Value → Shared → Prop} (ht : s.heap.IsTuple t its)
    (h : ∀ h', IsEnum h' (s.heap.objs.size + 1) s.heap.objs.size 0 .none → h'.IsTupleIter s.heap.objs.size t 0 → (∀ b o, s.heap.get? b = some o → h'.get? b = some o) → Q (.ref (s.heap.objs.size + 1)) { s with heap := h' }) :
    wpAny (model prog w) A (call (.type "enumerate") [.ref t]) Q X s := by
  refine callType_new F.called_enumerate (by decide) (F.typeCall_enumerate_1 _) (F.newCall_enumerate_1 _) (fun obj => F.args_object_init_2 obj _) F.entry_enumerate_new (meets_enT t its) ⟨ht, ?_⟩
  have z1 : (s.heap.push (tupIt t)).objs.size = s.heap.objs.size + 1 := Heap.size_push ..
  show _ ∧ _
  rw [z1]
  have made : IsEnum ((s.heap.push (tupIt t)).push (enumOf s.heap.objs.size)) (s.heap.objs.size + 1) s.heap.objs.size 0 .none := by
    have y := Heap.get?_push_size (s.heap.push (tupIt t)) (o := enumOf s.heap.objs.size) rfl
    rw [z1] at y
    exact y
  exact ⟨⟨_, made, rfl⟩, h _ made ⟨_, Heap.get?_push_of_some _ (Heap.get?_push_size _ rfl), rfl, rfl⟩ fun b o x => Heap.get?_push_of_some _ (Heap.get?_push_of_some _ x)⟩
/-- the tuple at a, each item in a new pair -/
def IteT (K : PySem.W.Frag) (a : Addr) : It :=
  ⟨fun i H => ∃ (xs : List V) (x : V), SqT K H a xs ∧ xs[i]? = some x, fun i H v H' => ∃ T x, v = .ref T ∧ H T = none ∧ H' = upd H T (.tup [.int (i : Nat), x]) ∧ ∀ xs, SqT K H a xs → xs[i]? = some x, fun i H => ∃ xs : List V, SqT K H a xs ∧ xs.length ≤ i⟩
theorem apartT {h : Heap} {a e it : Addr} {its : Array Value} {k : Int} {old : Value} {i : Nat} (p : h.IsTuple a its) (he : IsEnum h e it k old) (hit : h.IsTupleIter it a i) : a ≠ it ∧ e ∉ [it, a] ∨ e = it := by
  obtain ⟨o, ho, hc, _⟩ := p
  obtain ⟨o2, h2, c2, _⟩ := hit
  have n1 : a ≠ it := fun z => by
    rw [z, h2] at ho
    cases ho
    rw [hc] at c2
    injection c2 with c3
    exact absurd c3 (by decide)
  have n2 : e ≠ a := fun z => by
    have he2 : h.get? e = some _ := he
    rw [z, ho] at he2
    have := congrArg (fun x => (Option.map Obj.cls x)) he2
    simp only [Option.map_some, Option.some.injEq] at this
    rw [hc] at this
    injection this with c3
    exact absurd c3 (by decide)
  by_cases q : e = it
  · exact .inr q
  · exact .inl ⟨n1, by simp [q, n2]⟩
theorem turn_enT {P : Program} {w : World} {K : PySem.W.Frag} {elts : List Expr} {kk : Nat} {tpos : Pos} (a e it : Addr) :
    Turn P w K (.Tuple elts kk tpos) (IteT K a) [e, it] e (fun i h => (∃ old, IsEnum h e it ((i : Nat) : Int) old) ∧ h.IsTupleIter it a i ∧ e ≠ it) where
  mem := by simp
  obj := fun i h st b hb => by
    obtain ⟨⟨old, he⟩, ⟨o, ho, hc, hd⟩, _⟩ := st
    rcases (show b = e ∨ b = it by simpa using hb) with z | z
    · subst z; exact ⟨_, he, fun v q => nomatch q⟩
    · subst z; exact ⟨o, ho, fun v q => by rw [hd] at q; cases q⟩
  keep := fun i h h' st k => by
    obtain ⟨⟨old, he⟩, hi, ne⟩ := st
    exact ⟨⟨old, k e (by simp) _ he⟩, hi.at fun o q => k it (by simp) o q, ne⟩
  item := by
    intro X hP hw hK hc i pins s σ H E I hf st hg
    subst hP hw hK
    obtain ⟨⟨old, he⟩, hit, ne⟩ := st
    obtain ⟨xs, x, hq, hx⟩ := hg
    obtain ⟨its, rv, p, few⟩ := I.tuple hq
    obtain ⟨u, hu, ru⟩ := rv.get hx
    have el : e < s.heap.objs.size := Heap.lt_size he
    have il : it < s.heap.objs.size := by obtain ⟨_, q, _⟩ := hit; exact Heap.lt_size q
    obtain ⟨n1, n2⟩ := (apartT p he hit).resolve_right ne
    have iu : i < its.toArray.size := by
      have := (List.getElem?_eq_some_iff.mp hu).1
      simpa using this
    refine wpAny_pyNext_enum_itemD (Draws.tuple (A := X.A.in1) (I.ok.hd hc) it a n1 its.toArray) he ⟨hit, p⟩ iu ne n2 fun y h' tk hy ho st' hT hsz hk => ?_
    have yu : y = u := by
      have hy2 : its.toArray[i]? = some y := hy
      rw [List.getElem?_toArray, hu] at hy2
      exact (Option.some.inj hy2).symm
    subst yu
    refine ⟨_, rfl, wpAny_letOwnedTupleGo_enum (s := { s with heap := h', toks := tk + 1 }) ho fun h2 he2 sb => ?_⟩
    have hT2 : h2.get? s.heap.objs.size = some { cls := .type "tuple", data := .seq #[.int i tk, y] } := (sb.2 _ (Nat.ne_of_gt el)).trans hT
    have pair : ObjOk X.prog X.w (upd H s.heap.objs.size (.tup [.int (i : Nat), x])) h2 s.heap.objs.size (.tup [.int (i : Nat), x]) :=
      ⟨by show 2 ≤ sizeLine; decide, [.int i tk, y], .cons ⟨_, rfl⟩ (.cons ru .nil), ⟨_, hT2, rfl, _, rfl⟩⟩
    have J : Inv X pins σ (upd H s.heap.objs.size (.tup [.int (i : Nat), x])) { s with heap := h2, toks := tk + 1 } :=
      I.turnedNew (ch := [e, it]) (fun b ob hb q => (sb.2 b (fun z => hb (by simp [z]))).trans (hk b ob (fun z => hb (by simp [z])) (fun z => hb (by simp [z])) q)) hf (Nat.le_refl _) pair
    refine ⟨.ref s.heap.objs.size, _, J, rfl, ⟨_, x, rfl, I.hok.fresh (Nat.le_refl _), rfl, fun ys hy => by rw [I.tuple_inj hy hq]; exact hx⟩, ⟨⟨y, ?_⟩, st'.1.at fun o q => (sb.2 it (Ne.symm ne)).trans q, ne⟩, fun b hb => ?_⟩
    · rw [show ((i + 1 : Nat) : Int) = (i : Int) + 1 by omega]; exact he2
    · have bl : b < s.heap.objs.size := by
        rcases (show b = e ∨ b = it by simpa using hb) with z | z
        · subst z; exact el
        · subst z; exact il
      rw [upd_ne (Nat.ne_of_lt bl)]
      exact (hf b hb).1
  done := by
    intro X hP hw hK hc i pins s σ H E I hf st hg
    subst hP hw hK
    obtain ⟨⟨old, he⟩, hit, ne⟩ := st
    obtain ⟨xs, hq, hx⟩ := hg
    obtain ⟨its, rv, p, few⟩ := I.tuple hq
    obtain ⟨n1, n2⟩ := (apartT p he hit).resolve_right ne
    obtain ⟨f0, f1, f2, f3, f4, f5⟩ := hf it (by simp)
    have hl := rv.length
    have hT : s.TypeIs (.ref e) "enumerate" := ⟨_, he, rfl⟩
    unfold pyNext
    refine wpAny_bind (wpAny_attempt (wpAny_callSpecial?_slot (name := Str.ofString "__next__") hT F.slot_enumerate_next
      (wpAny_call_entry F.slot_enumerate_next hT F.entry_enumerate_next ?_ (F.args_enumerate_next_1 _))))
    show wpAny _ _ (field (.ref e) 2 >>= _) _ _ _
    refine wpAny_bind (wpAny_field he rfl (x := .ref it) rfl ?_)
    refine wpAny_bind (wpAny_nextOf_tuple_end (A := X.A.in1) (I.ok.hd hc) hit p (by simp; omega) fun h' x eb hx' => ?_)
    obtain ⟨o, ho, hc'⟩ := hx'
    refine wpAny_bind (wpAny_isInstance (T := "StopIteration") (b := true) ⟨o, ho, hc'⟩ isSubtype_stop ?_)
    exact wpAny_pure ⟨rfl, I.turned (t' := s.toks) (fun b o hb q => eb b o hb q) f0 f1 f3 f4 f5⟩
  self := fun A i s Q E st h => by
    obtain ⟨⟨_, he⟩, _⟩ := st
    exact wpAny_pyIter_enum he h
/-- enumerate(e): a list or a tuple -/
def iEnA (K : PySem.W.Frag) (ta : TA) : TI := fun σ H R => ta σ H fun vs H1 => ∃ a xs, vs = [.ref a] ∧ ((SqL K H1 a xs ∧ R (Ite K a) H1) ∨ (SqT K H1 a xs ∧ R (IteT K a) H1))
theorem pi_enA {X : Cx} {e : Expr} {ta : TA} {p pos tpos : Pos} {elts : List Expr} {kk : Nat} (hg : Gl X "enumerate") (hm : X.mg "enumerate" = none) (ha : PA X [e] ta) (hs : starEach [e] X.env = [(false, eval e X.env)] := by rfl) :
    PI X (.Tuple elts kk tpos) (.Call (.Name "enumerate" p) [e] [] pos) (iEnA X.K ta) := by
  refine ⟨fun pins s σ H R I h => ?_⟩
  refine Call_ (ld_blt I hg hm boot_enumerate (PyProof.Rows.callWith_type1 (thn (ha.run pos pins s σ H _ I h) fun us s1 ⟨vs, H1, I1, r1, q1⟩ => ?_) hs rfl))
  obtain ⟨a, xs, rfl, ways⟩ := q1
  cases r1 with
  | cons r rr =>
    cases rr
    cases r
    have fresh : ∀ b, b ∈ [s1.heap.objs.size + 1, s1.heap.objs.size] → s1.heap.objs.size ≤ b := fun b hb => by
      rcases (show b = s1.heap.objs.size + 1 ∨ b = s1.heap.objs.size by simpa using hb) with z | z <;> omega
    rcases ways with ⟨hq, q⟩ | ⟨hq, q⟩
    · obtain ⟨its, rv, pl, few⟩ := I1.list hq
      refine call_enumerate_list pl.isList fun h' he hit hsz hk => wpAny_pyIter_enum he ?_
      exact ⟨s1.heap.objs.size + 1, _, _, _, H1, rfl, I1.kept (t' := s1.toks) hk, turn_enum a (s1.heap.objs.size + 1) s1.heap.objs.size, ⟨⟨.none, he⟩, hit, Nat.succ_ne_self _⟩, fun b hb => I1.fpOk (fresh b hb) (I1.hok.fresh (fresh b hb)), q⟩
    · obtain ⟨its, rv, pt, few⟩ := I1.tuple hq
      refine call_enT pt fun h' he hit hk => wpAny_pyIter_enum he ?_
      exact ⟨s1.heap.objs.size + 1, _, _, _, H1, rfl, I1.kept (t' := s1.toks) hk, turn_enT a (s1.heap.objs.size + 1) s1.heap.objs.size, ⟨⟨.none, he⟩, hit, Nat.succ_ne_self _⟩, fun b hb => I1.fpOk (fresh b hb) (I1.hok.fresh (fresh b hb)), q⟩
section
variable {w : Wx} {K : PySem.W.Frag} {ta te : TE} {f g : DTE}
theorem enumA2 {X : Cx} {ta : TA} {p pos tpos : Pos} {elts : List Expr} {kk : Nat} {a : Expr} (e : X.K = K) (hg : Gl X "enumerate") (hm : X.mg "enumerate" = none) (ha : PA X [a] ta) (hs : starEach [a] X.env = [(false, eval a X.env)] := by rfl) : PI X (.Tuple elts kk tpos) (.Call (.Name "enumerate" p) [a] [] pos) (iEnA K ta) := e ▸ pi_enA hg hm ha hs
theorem walkS_enumT {L : Hp} {a : Addr} {xs : List V} {ds : List PyData} (h : Sol L a xs) (r : DVs L xs ds) : WalkS true L (IteT K a) (enD ds) := by
  have hl := r.len
  refine ⟨fun i L' H' s1 s2 hi => ?_, fun L' H' s1 s2 => ?_, fun i d L' H' x H2 s1 s2 hd y => ?_⟩
  · rw [enD_len] at hi
    exact ⟨xs, xs[i]'(by omega), ((h.to s1).to s2).seq, List.getElem?_eq_getElem (by omega)⟩
  · rw [enD_len]
    exact ⟨xs, ((h.to s1).to s2).seq, by omega⟩
  · obtain ⟨T, z, rfl, nT, rfl, y2⟩ := y
    have hx := y2 xs ((h.to s1).to s2).seq
    obtain ⟨d', hd', rfl⟩ := enD_get hd
    obtain ⟨v, h1, h2⟩ := r.get hd'
    rw [hx] at h1
    cases h1
    exact ⟨L', Ext.own nT, same_own s2 (s2.free nT), .inr ⟨T, _, _, rfl, rfl, upd_same, .cons (.int _) (.cons (h2.to s1) .nil)⟩⟩
def dEnA (f : DTA) (ε : Env) (Q : List PyData → Bool → Env → Prop) : Prop := f ε fun rs ε1 => match rs with
  | [.sh (.list ds)] => Q (enD ds) true ε1
  | [.sh (.tuple ds)] => Q (enD ds) true ε1
  | _ => False
theorem si_enA {n : Nat} {t : TA} {f : DTA} (hf : SA w n t f) : SI w true (iEnA K t) (dEnA f) := by
  constructor
  · intro ε A B h q
    refine hf.mono _ _ _ (fun r ε1 q => ?_) q
    split at q
    · exact h _ _ _ q
    · exact h _ _ _ q
    · exact q.elim
  · intro Z O σ ε L H R X q
    refine hf.run Z O σ ε L H _ X (hf.mono _ _ _ (fun r ε1 q => ?_) q)
    intro vs L1 H1 X1 e1 r1 hl np
    split at q
    · rename_i ds
      cases r1 with
      | cons r1 r2 =>
        cases r2
        cases (show DV L1 _ (.list ds) from r1) with
        | lst h1 h2 =>
          have W := walkS_enum (K := K) h1 h2
          exact ⟨_, _, rfl, .inl ⟨SqL.of (X1.lh _ _ h1), q _ L1 H1 X1 e1 W.e fun _ => W⟩⟩
    · rename_i ds
      cases r1 with
      | cons r1 r2 =>
        cases r2
        cases (show DV L1 _ (.tuple ds) from r1) with
        | tup h1 h2 =>
          have W := walkS_enumT (K := K) h1 h2
          exact ⟨_, _, rfl, .inr ⟨(h1.to X1.lh).seq, q _ L1 H1 X1 e1 W.e fun _ => W⟩⟩
    · exact q.elim
end
section
variable {K : PySem.W.Frag} {x : Str} {st : Stmt} {f : Addr} {fd : FuncData} {p1 p2 p3 p4 p5 : Str} (F : Fun K x x st f fd)
include F
theorem r4 (h : ∀ kV doc pm an cdv ct u1 u2 u3 u4, bindArgs (FnT x st kV doc pm an cdv ct) ⟨[], [(p4, u1), (p3, u2), (p2, u3), (p1, u4)]⟩ = pure [(p1, u4), (p2, u3), (p3, u2), (p4, u1)]) : KbR fd [p1, p2, p3, p4] :=
  Fun.kbr F fun kV doc pm an cdv ct us hl => match us, hl with | [u1, u2, u3, u4], _ => h kV doc pm an cdv ct u1 u2 u3 u4
end
def φIsNB (x y : PyData) (Q : R → Prop) : Prop := match x, y with
  | .bool a, .bool b => Q (.sh (.bool (!decide (a = b))))
  | _, _ => False
end Lp

namespace Lp
open PySem PySem.Spec PyProof.Rows L2
def gt (ns : List Int) (i : Int) : Int := ns.getD i.toNat 0
def call1 (ns : List Int) (w : Int) : List Int := ns.set w.toNat (gt ns (gt ns w))
theorem call1_len (ns : List Int) (w : Int) : (call1 ns w).length = ns.length := by unfold call1; rw [List.length_set]
theorem gt_get {ns : List Int} {i : Int} (h0 : 0 ≤ i) (h1 : i < (ns.length : Int)) : ns[i.toNat]? = some (gt ns i) := by
  unfold gt
  have hl : i.toNat < ns.length := by omega
  rw [List.getD_eq_getElem?_getD, List.getElem?_eq_getElem hl]; rfl
theorem gt_low {n : Nat} {ns : List Int} {i : Int} (h : Low n ns) (h0 : 0 ≤ i) (h1 : i < (ns.length : Int)) : 0 ≤ gt ns i ∧ gt ns i < (n : Int) := h.at (gt_get h0 h1)
theorem call1_low {n : Nat} {ns : List Int} {w : Int} (h : Low n ns) (hn : ns.length = n) (h0 : 0 ≤ w) (h1 : w < (n : Int)) : Low n (call1 ns w) := by
  have a := gt_low h h0 (by omega)
  have b := gt_low h a.1 (by omega)
  exact h.set b.1 b.2
theorem Low.take {n : Nat} {ws : List Int} (h : Low n ws) (i : Nat) : Low n (ws.take i) := fun z hz => h z (List.mem_of_mem_take hz)
def itr (ns : List Int) (p : Int) : Nat → Int
  | 0 => p
  | k + 1 => gt ns (itr ns p k)
theorem itr_succ (ns : List Int) (p : Int) : ∀ k, itr ns p (k + 1) = itr ns (gt ns p) k
  | 0 => rfl
  | k + 1 => by
    show gt ns (itr ns p (k + 1)) = gt ns (itr ns (gt ns p) k)
    rw [itr_succ ns p k]
theorem itr_low {ns : List Int} (lo : Low ns.length ns) {p : Int} (h0 : 0 ≤ p) (h1 : p < (ns.length : Int)) : ∀ k, 0 ≤ itr ns p k ∧ itr ns p k < (ns.length : Int)
  | 0 => ⟨h0, h1⟩
  | k + 1 => by
    have ih := itr_low lo h0 h1 k
    exact gt_low lo ih.1 ih.2
def itrs (ns : List Int) (p : Int) (m : Nat) : List Int := (List.range m).map (itr ns p)
theorem itrs_len (ns : List Int) (p : Int) (m : Nat) : (itrs ns p m).length = m := by unfold itrs; rw [List.length_map, List.length_range]
theorem itrs_succ (ns : List Int) (p : Int) (m : Nat) : itrs ns p (m + 1) = itrs ns p m ++ [itr ns p m] := by
  unfold itrs; rw [List.range_succ, List.map_append]; rfl
theorem itrs_get {ns : List Int} {p : Int} {m i : Nat} (h : i < m) : (itrs ns p m)[i]? = some (itr ns p i) := by
  unfold itrs
  rw [List.getElem?_map, List.getElem?_range h]; rfl
theorem itrs_mem {ns : List Int} {p z : Int} {m : Nat} : z ∈ itrs ns p m ↔ ∃ i, i < m ∧ itr ns p i = z := by
  unfold itrs
  rw [List.mem_map]
  constructor
  · rintro ⟨i, hi, e⟩; exact ⟨i, List.mem_range.mp hi, e⟩
  · rintro ⟨i, hi, e⟩; exact ⟨i, List.mem_range.mpr hi, e⟩
/-- rs: the people met from p on, each once -/
def Route (ns : List Int) (p : Int) (rs : List Int) : Prop := ∃ L, rs = itrs ns p L ∧ rs.Nodup ∧ itr ns p L ∈ rs
theorem itrs_apart {ns : List Int} {p : Int} {m i j : Nat} (nd : (itrs ns p m).Nodup) (hi : i < m) (hj : j < m) (e : itr ns p i = itr ns p j) : i = j := by
  have h1 := itrs_get (ns := ns) (p := p) hi
  have h2 := itrs_get (ns := ns) (p := p) hj
  rw [e] at h1
  exact nd_ix nd h1 h2
theorem Route.eq {ns : List Int} {p : Int} {rs rs' : List Int} (a : Route ns p rs) (b : Route ns p rs') : rs = rs' := by
  obtain ⟨L, rfl, n1, m1⟩ := a
  obtain ⟨M, rfl, n2, m2⟩ := b
  obtain ⟨i, hi, ei⟩ := itrs_mem.mp m1
  obtain ⟨j, hj, ej⟩ := itrs_mem.mp m2
  rcases Nat.lt_trichotomy L M with h | h | h
  · exact absurd (itrs_apart n2 (show i < M by omega) h ei) (by omega)
  · rw [h]
  · exact absurd (itrs_apart n1 (show j < L by omega) h ej) (by omega)
theorem Nodup.snoc {l : List Int} {z : Int} (h : l.Nodup) (n : z ∉ l) : (l ++ [z]).Nodup := by
  rw [List.nodup_append]
  refine ⟨h, List.nodup_cons.mpr ⟨List.not_mem_nil, List.nodup_nil⟩, fun a ha b hb => ?_⟩
  rw [List.mem_singleton] at hb
  subst hb
  exact fun e => n (e ▸ ha)
theorem low_len : ∀ (n : Nat) (l : List Int), l.Nodup → Low n l → l.length ≤ n
  | 0, l, _, h => by
    cases l with
    | nil => exact Nat.le_refl 0
    | cons x r => have := h x List.mem_cons_self; omega
  | n + 1, l, nd, h => by
    have h2 := low_len n (l.filter (fun z => decide (z ≠ (n : Int)))) (nd.filter _) fun z hz => by
      have q := List.mem_filter.mp hz
      have := h z q.1
      have := of_decide_eq_true q.2
      omega
    have h3 : l.length ≤ (l.filter (fun z => decide (z ≠ (n : Int)))).length + 1 := by
      clear h h2
      induction l with
      | nil => simp
      | cons x r ih =>
        have nd' := List.nodup_cons.mp nd
        by_cases hx : x = (n : Int)
        · have e : r.filter (fun z => decide (z ≠ (n : Int))) = r := List.filter_eq_self.mpr fun z hz => decide_eq_true fun e => nd'.1 (by rw [hx, ← e]; exact hz)
          rw [List.filter_cons_of_neg (by simp [hx]), e]; exact Nat.le_refl _
        · rw [List.filter_cons_of_pos (by simp [hx]), List.length_cons, List.length_cons]
          have := ih nd'.2
          omega
    omega
/-- behind the first return the pointers go round -/
theorem itr_round {ns : List Int} {p : Int} {b d : Nat} (h : itr ns p (b + d) = itr ns p b) : ∀ t, itr ns p (b + d + t) = itr ns p (b + t)
  | 0 => h
  | t + 1 => by
    show gt ns (itr ns p (b + d + t)) = gt ns (itr ns p (b + t))
    rw [itr_round h t]
theorem itr_mod {ns : List Int} {p : Int} {b d : Nat} (hd : 0 < d) (h : itr ns p (b + d) = itr ns p b) (t : Nat) : itr ns p (b + t) = itr ns p (b + t % d) := by
  induction t using Nat.strongRecOn with
  | ind t ih =>
    by_cases ht : t < d
    · rw [Nat.mod_eq_of_lt ht]
    · have e : t = d + (t - d) := by omega
      have := ih (t - d) (by omega)
      rw [e, ← Nat.add_assoc, itr_round h, this, Nat.add_mod_left]
def routeG (ns : List Int) : Nat → List Int → Int → List Int
  | 0, acc, _ => acc
  | k + 1, acc, at_ => if at_ ∈ acc then acc else routeG ns k (acc ++ [at_]) (gt ns at_)
def routeF (ns : List Int) (p : Int) : List Int := routeG ns (ns.length + 1) [] p
theorem routeG_ok {ns : List Int} (lo : Low ns.length ns) {p : Int} (p0 : 0 ≤ p) (p1 : p < (ns.length : Int)) : ∀ (k L : Nat), (itrs ns p L).Nodup → ns.length < k + L → Route ns p (routeG ns k (itrs ns p L) (itr ns p L))
  | 0, L, nd, h => by
    have := low_len ns.length _ nd fun z hz => by
      obtain ⟨i, _, ei⟩ := itrs_mem.mp hz
      have := itr_low lo p0 p1 i
      omega
    rw [itrs_len] at this
    omega
  | k + 1, L, nd, h => by
    unfold routeG
    by_cases hm : itr ns p L ∈ itrs ns p L
    · rw [if_pos hm]
      exact ⟨L, rfl, nd, hm⟩
    · rw [if_neg hm, ← itrs_succ]
      exact routeG_ok lo p0 p1 k (L + 1) (by rw [itrs_succ]; exact Nodup.snoc nd hm) (by omega)
theorem routeF_ok {ns : List Int} (lo : Low ns.length ns) {p : Int} (p0 : 0 ≤ p) (p1 : p < (ns.length : Int)) : Route ns p (routeF ns p) := routeG_ok lo p0 p1 (ns.length + 1) 0 List.nodup_nil (by omega)
def beginF (ns rs : List Int) : Nat := rs.idxOf (gt ns (rs.getLastD 0))
def minF : List Int → Int
  | [] => 0
  | x :: r => r.foldl (fun a b => if b < a then b else a) x
theorem fold_min : ∀ (r : List Int) (x : Int), (r.foldl (fun a b => if b < a then b else a) x = x ∨ r.foldl (fun a b => if b < a then b else a) x ∈ r) ∧ r.foldl (fun a b => if b < a then b else a) x ≤ x ∧ ∀ y ∈ r, r.foldl (fun a b => if b < a then b else a) x ≤ y
  | [], x => ⟨.inl rfl, Int.le_refl x, fun y h => nomatch h⟩
  | z :: r, x => by
    have ih := fold_min r (if z < x then z else x)
    show (r.foldl _ (if z < x then z else x) = x ∨ _) ∧ _
    refine ⟨?_, ?_, ?_⟩
    · rcases ih.1 with h | h
      · by_cases q : z < x
        · right
          show r.foldl _ (if z < x then z else x) ∈ z :: r
          rw [h, if_pos q]; exact List.mem_cons_self
        · left
          show r.foldl _ (if z < x then z else x) = x
          rw [h, if_neg q]
      · right; exact List.mem_cons_of_mem _ h
    · show r.foldl _ (if z < x then z else x) ≤ x
      have := ih.2.1
      split at this <;> rename_i q
      · rw [if_pos q]; omega
      · rw [if_neg q]; exact this
    · intro y hy
      show r.foldl _ (if z < x then z else x) ≤ y
      rcases List.mem_cons.mp hy with h | h
      · have := ih.2.1
        split at this <;> rename_i q
        · rw [if_pos q, h]; exact this
        · rw [if_neg q, h]; omega
      · exact ih.2.2 y h
theorem minF_ok {ms : List Int} (h : ms ≠ []) : minF ms ∈ ms ∧ ∀ y ∈ ms, minF ms ≤ y := by
  cases ms with
  | nil => exact absurd rfl h
  | cons x r =>
    have := fold_min r x
    refine ⟨?_, fun y hy => ?_⟩
    · rcases this.1 with e | e
      · show r.foldl _ x ∈ x :: r
        rw [e]; exact List.mem_cons_self
      · exact List.mem_cons_of_mem _ e
    · rcases List.mem_cons.mp hy with e | e
      · rw [e]; exact this.2.1
      · exact this.2.2 y e
/-- the list, turned so that its least member is the first -/
def turnF (ms : List Int) : List Int := ms.drop (ms.idxOf (minF ms)) ++ ms.take (ms.idxOf (minF ms))
def ringF (ns : List Int) (p : Int) : List Int := turnF ((routeF ns p).drop (beginF ns (routeF ns p)))
def heightF (ns : List Int) (p : Int) : Nat := beginF ns (routeF ns p)
theorem turnF_ne {ms : List Int} (h : ms ≠ []) : turnF ms ≠ [] := by
  intro e
  have := congrArg List.length e
  unfold turnF at this
  rw [List.length_append, List.length_drop, List.length_take, List.length_nil] at this
  have : ms.length = 0 := by omega
  exact h (List.eq_nil_of_length_eq_zero this)
/-- how a whole route begins its ring -/
theorem begin_at {ns : List Int} {p : Int} {L : Nat} (nd : (itrs ns p L).Nodup) (hin : itr ns p L ∈ itrs ns p L) {b : Nat} (hb : b < L) (eb : itr ns p b = itr ns p L) : beginF ns (itrs ns p L) = b := by
  obtain ⟨M, rfl⟩ : ∃ M, L = M + 1 := ⟨L - 1, by omega⟩
  unfold beginF
  have e : (itrs ns p (M + 1)).getLastD 0 = itr ns p M := by rw [itrs_succ]; simp
  rw [e]
  have hin' : gt ns (itr ns p M) ∈ itrs ns p (M + 1) := hin
  have h1 := idx_get hin'
  have hl := List.idxOf_lt_length_of_mem hin'
  rw [itrs_len] at hl
  rw [itrs_get hl] at h1
  exact itrs_apart nd hl hb ((Option.some.inj h1).trans eb.symm)
theorem lex_uniq : ∀ (a b : List (List Int)), a.Nodup → b.Nodup → a.Pairwise (fun x y => HT.lexLt y x = false) → b.Pairwise (fun x y => HT.lexLt y x = false) → (∀ k, k ∈ a ↔ k ∈ b) → a = b
  | [], [], _, _, _, _, _ => rfl
  | [], y :: _, _, _, _, _, h => nomatch (h y).mpr List.mem_cons_self
  | x :: _, [], _, _, _, _, h => nomatch (h x).mp List.mem_cons_self
  | x :: a, y :: b, na, nb, pa, pb, h => by
    have qa := List.pairwise_cons.mp pa
    have qb := List.pairwise_cons.mp pb
    have ra := List.nodup_cons.mp na
    have rb := List.nodup_cons.mp nb
    have e : x = y := by
      rcases List.mem_cons.mp ((h x).mp List.mem_cons_self) with e | e
      · exact e
      · rcases List.mem_cons.mp ((h y).mpr List.mem_cons_self) with e2 | e2
        · exact e2.symm
        · exact lex_eq x y (qb.1 x e) (qa.1 y e2)
    subst e
    have h2 : ∀ k, k ∈ a ↔ k ∈ b := fun k => by
      constructor
      · intro hk
        rcases List.mem_cons.mp ((h k).mp (List.mem_cons_of_mem _ hk)) with z | z
        · exact absurd (z ▸ hk) ra.1
        · exact z
      · intro hk
        rcases List.mem_cons.mp ((h k).mpr (List.mem_cons_of_mem _ hk)) with z | z
        · exact absurd (z ▸ hk) rb.1
        · exact z
    rw [lex_uniq a b ra.2 rb.2 qa.2 qb.2 h2]
/-- RS: all rings, ascending -/
def RingsOf (ns : List Int) (RS : List (List Int)) : Prop := RS.Nodup ∧ RS.Pairwise (fun x y => HT.lexLt y x = false) ∧ ∀ k, k ∈ RS ↔ ∃ j : Nat, j < ns.length ∧ ringF ns (j : Int) = k
theorem RingsOf.eq {ns : List Int} {a b : List (List Int)} (x : RingsOf ns a) (y : RingsOf ns b) : a = b := lex_uniq a b x.1 y.1 x.2.1 y.2.1 fun k => (x.2.2 k).trans (y.2.2 k).symm

theorem itr_add (ns : List Int) (p : Int) (a : Nat) : ∀ b, itr ns p (a + b) = itr ns (itr ns p a) b
  | 0 => rfl
  | b + 1 => congrArg (gt ns) (itr_add ns p a b)
theorem itrs_cat (ns : List Int) (p : Int) (a : Nat) : ∀ b, itrs ns p (a + b) = itrs ns p a ++ itrs ns (itr ns p a) b
  | 0 => (List.append_nil _).symm
  | b + 1 => by
    rw [← Nat.add_assoc, itrs_succ, itrs_cat ns p a b, itrs_succ, itr_add, List.append_assoc]
def Cyc (ns : List Int) (q : Int) (c : Nat) : Prop := 0 < c ∧ itr ns q c = q ∧ (itrs ns q c).Nodup
theorem Cyc.cut {ns : List Int} {q : Int} {c j : Nat} (h : j ≤ c) : (itrs ns q c).drop j = itrs ns (itr ns q j) (c - j) ∧ (itrs ns q c).take j = itrs ns q j := by
  obtain ⟨d, rfl⟩ : ∃ d, c = j + d := ⟨c - j, by omega⟩
  rw [itrs_cat, Nat.add_sub_cancel_left]
  have l := itrs_len ns q j
  constructor
  · conv => lhs; arg 1; rw [← l]
    rw [List.drop_left]
  · conv => lhs; arg 1; rw [← l]
    rw [List.take_left]
theorem Cyc.turn {ns : List Int} {q : Int} {c j : Nat} (x : Cyc ns q c) (h : j ≤ c) : itrs ns (itr ns q j) c = (itrs ns q c).drop j ++ (itrs ns q c).take j := by
  rw [(Cyc.cut h).1, (Cyc.cut h).2]
  have e : itrs ns (itr ns q j) c = itrs ns (itr ns q j) ((c - j) + j) := by congr 1; omega
  rw [e, itrs_cat, ← itr_add]
  have e2 : j + (c - j) = c := by omega
  rw [e2, x.2.1]
theorem Cyc.all {ns : List Int} {q : Int} {c : Nat} (x : Cyc ns q c) (t : Nat) : itr ns q t ∈ itrs ns q c := by
  have := itr_mod (ns := ns) (p := q) (b := 0) (d := c) x.1 (by rw [Nat.zero_add]; exact x.2.1) t
  rw [Nat.zero_add, Nat.zero_add] at this
  rw [this]
  exact itrs_mem.mpr ⟨t % c, Nat.mod_lt _ x.1, rfl⟩
theorem Cyc.at {ns : List Int} {q z : Int} {c : Nat} (x : Cyc ns q c) (h : z ∈ itrs ns q c) : Cyc ns z c ∧ ∀ y, y ∈ itrs ns z c ↔ y ∈ itrs ns q c := by
  obtain ⟨j, hj, rfl⟩ := itrs_mem.mp h
  have t := x.turn (j := j) (by omega)
  have pm : (itrs ns (itr ns q j) c).Perm (itrs ns q c) := by
    rw [t]
    have := List.perm_append_comm (l₁ := (itrs ns q c).drop j) (l₂ := (itrs ns q c).take j)
    rw [List.take_append_drop] at this
    exact this
  refine ⟨⟨x.1, ?_, pm.nodup_iff.mpr x.2.2⟩, fun y => pm.mem_iff⟩
  rw [← itr_add, Nat.add_comm, itr_add, x.2.1]
theorem Cyc.uniq {ns : List Int} {z : Int} {c d : Nat} (x : Cyc ns z c) (y : Cyc ns z d) : c = d := by
  rcases Nat.lt_trichotomy c d with h | h | h
  · have := itrs_apart y.2.2 (i := 0) (j := c) y.1 h x.2.1.symm
    have := x.1; omega
  · exact h
  · have := itrs_apart x.2.2 (i := 0) (j := d) x.1 h y.2.1.symm
    have := y.1; omega
theorem itrs_ne {ns : List Int} {q : Int} {c : Nat} (h : 0 < c) : itrs ns q c ≠ [] := fun e => by
  have := itrs_len ns q c
  rw [e] at this
  simp at this; omega
theorem Cyc.turnF {ns : List Int} {q : Int} {c : Nat} (x : Cyc ns q c) : turnF (itrs ns q c) = itrs ns (minF (itrs ns q c)) c := by
  have m := minF_ok (itrs_ne (ns := ns) (q := q) x.1)
  have il := List.idxOf_lt_length_of_mem m.1
  have g := idx_get m.1
  unfold Lp.turnF
  generalize hj : (itrs ns q c).idxOf (minF (itrs ns q c)) = j at il g
  rw [itrs_len] at il
  rw [itrs_get il] at g
  rw [← Option.some.inj g, x.turn (by omega)]
theorem Cyc.same {ns : List Int} {q r z : Int} {c d : Nat} (x : Cyc ns q c) (y : Cyc ns r d) (h1 : z ∈ itrs ns q c) (h2 : z ∈ itrs ns r d) : Lp.turnF (itrs ns q c) = Lp.turnF (itrs ns r d) := by
  have a := x.at h1
  have b := y.at h2
  have e := a.1.uniq b.1
  subst e
  rw [x.turnF, y.turnF]
  have m1 := minF_ok (itrs_ne (ns := ns) (q := q) x.1)
  have m2 := minF_ok (itrs_ne (ns := ns) (q := r) x.1)
  have := m1.2 _ ((a.2 _).mp ((b.2 _).mpr m2.1))
  have := m2.2 _ ((b.2 _).mp ((a.2 _).mpr m1.1))
  have e : minF (itrs ns q c) = minF (itrs ns r c) := by omega
  rw [e]
theorem ringF_cyc {ns : List Int} (lo : Low ns.length ns) {p : Int} (p0 : 0 ≤ p) (p1 : p < (ns.length : Int)) : ∃ c, Cyc ns (itr ns p (heightF ns p)) c ∧ ringF ns p = turnF (itrs ns (itr ns p (heightF ns p)) c) ∧ routeF ns p = itrs ns p (heightF ns p + c) := by
  have rt := routeF_ok lo p0 p1
  obtain ⟨L, hrs, nd, hin⟩ := id rt
  rw [hrs] at nd hin
  obtain ⟨b, hb, eb⟩ := itrs_mem.mp hin
  have e := begin_at nd hin hb eb
  have eh : heightF ns p = b := by unfold heightF; rw [hrs]; exact e
  have ct := Cyc.cut (ns := ns) (q := p) (c := L) (j := b) (by omega)
  rw [eh]
  refine ⟨L - b, ⟨by omega, ?_, ?_⟩, ?_, ?_⟩
  · rw [← itr_add]
    have : b + (L - b) = L := by omega
    rw [this, eb]
  · rw [← ct.1]
    exact nd.sublist (List.drop_sublist b _)
  · unfold ringF
    rw [hrs, e, ct.1]
  · rw [hrs]; congr 1; omega
theorem ringF_step {ns : List Int} (lo : Low ns.length ns) {p : Int} (p0 : 0 ≤ p) (p1 : p < (ns.length : Int)) : ringF ns (gt ns p) = ringF ns p := by
  have g := gt_low lo p0 (by omega)
  obtain ⟨c, x, e, _⟩ := ringF_cyc lo p0 p1
  obtain ⟨d, y, e2, _⟩ := ringF_cyc lo g.1 g.2
  rw [e, e2]
  refine y.same x (z := itr ns p (heightF ns p + (heightF ns (gt ns p) + 1))) ?_ ?_
  · have : heightF ns p + (heightF ns (gt ns p) + 1) = (heightF ns (gt ns p) + heightF ns p) + 1 := by omega
    rw [this, itr_succ, itr_add]
    exact y.all _
  · rw [itr_add]
    exact x.all _
theorem ringF_itr {ns : List Int} (lo : Low ns.length ns) {p : Int} (p0 : 0 ≤ p) (p1 : p < (ns.length : Int)) : ∀ k, ringF ns (itr ns p k) = ringF ns p
  | 0 => rfl
  | k + 1 => by
    have l := itr_low lo p0 p1 k
    show ringF ns (gt ns (itr ns p k)) = _
    rw [ringF_step lo l.1 l.2, ringF_itr lo p0 p1 k]
/-- a ring: its least member first, each member pointing at the next one -/
theorem ringF_form {ns : List Int} (lo : Low ns.length ns) {p : Int} (p0 : 0 ≤ p) (p1 : p < (ns.length : Int)) : ∃ m c, ringF ns p = itrs ns m c ∧ Cyc ns m c ∧ (∀ y ∈ ringF ns p, m ≤ y) ∧ 0 ≤ m ∧ m < (ns.length : Int) := by
  obtain ⟨c, x, e, _⟩ := ringF_cyc lo p0 p1
  have m := minF_ok (itrs_ne (ns := ns) (q := itr ns p (heightF ns p)) x.1)
  have a := x.at m.1
  have l := itr_low lo p0 p1 (heightF ns p)
  refine ⟨_, c, e.trans x.turnF, a.1, fun y hy => ?_, ?_⟩
  · rw [e, x.turnF] at hy
    exact m.2 y ((a.2 y).mp hy)
  · obtain ⟨i, _, ei⟩ := itrs_mem.mp m.1
    rw [← ei]
    exact itr_low lo l.1 l.2 i

def headF (ns : List Int) (p : Int) : Int := (ringF ns p).headD 0
theorem headF_form {ns : List Int} (lo : Low ns.length ns) {p : Int} (p0 : 0 ≤ p) (p1 : p < (ns.length : Int)) : ∃ c, ringF ns p = itrs ns (headF ns p) c ∧ Cyc ns (headF ns p) c ∧ 0 ≤ headF ns p ∧ headF ns p < (ns.length : Int) := by
  obtain ⟨m, c, e, cy, _, m0, m1⟩ := ringF_form lo p0 p1
  have em : headF ns p = m := by
    unfold headF
    obtain ⟨d, rfl⟩ : ∃ d, c = 1 + d := ⟨c - 1, by have := cy.1; omega⟩
    rw [e, itrs_cat]; rfl
  rw [em]
  exact ⟨c, e, cy, m0, m1⟩
theorem head_iff {ns : List Int} (lo : Low ns.length ns) {p q : Int} (p0 : 0 ≤ p) (p1 : p < (ns.length : Int)) (q0 : 0 ≤ q) (q1 : q < (ns.length : Int)) : headF ns p = headF ns q ↔ ringF ns p = ringF ns q := by
  constructor
  · intro e
    obtain ⟨c, e1, cy, _⟩ := headF_form lo p0 p1
    obtain ⟨d, e2, dy, _⟩ := headF_form lo q0 q1
    rw [e] at e1 cy
    rw [e1, e2, cy.uniq dy]
  · intro e
    unfold headF
    rw [e]
/-- the people below i whose ring begins with m -/
def compH (ns : List Int) (m : Int) (i : Nat) : List Int := ((List.range i).filter fun j : Nat => decide (headF ns (j : Int) = m)).map Int.ofNat
theorem compH_mem {ns : List Int} {m z : Int} {i : Nat} : z ∈ compH ns m i ↔ ∃ j : Nat, j < i ∧ headF ns (j : Int) = m ∧ z = (j : Int) := by
  unfold compH
  rw [List.mem_map]
  constructor
  · rintro ⟨j, hj, e⟩
    have q := List.mem_filter.mp hj
    exact ⟨j, List.mem_range.mp q.1, of_decide_eq_true q.2, e.symm⟩
  · rintro ⟨j, hj, e, rfl⟩
    exact ⟨j, List.mem_filter.mpr ⟨List.mem_range.mpr hj, decide_eq_true e⟩, rfl⟩
def compF (ns : List Int) (p : Int) : List Int := compH ns (headF ns p) ns.length
def CompsOf (ns : List Int) (CS : List (List Int)) : Prop := CS.Nodup ∧ CS.Pairwise (fun x y => HT.lexLt y x = false) ∧ ∀ k, k ∈ CS ↔ ∃ j : Nat, j < ns.length ∧ compF ns (j : Int) = k
theorem CompsOf.eq {ns : List Int} {a b : List (List Int)} (x : CompsOf ns a) (y : CompsOf ns b) : a = b := lex_uniq a b x.1 y.1 x.2.1 y.2.1 fun k => (x.2.2 k).trans (y.2.2 k).symm
theorem nd_subG {α : Type} [DecidableEq α] : ∀ (a b : List α), a.Nodup → (∀ x ∈ a, x ∈ b) → a.length ≤ b.length
  | [], b, _, _ => Nat.zero_le _
  | x :: a, b, nd, h => by
    have q := List.nodup_cons.mp nd
    have xb := h x List.mem_cons_self
    have := nd_subG a (b.erase x) q.2 fun y hy => (List.mem_erase_of_ne (fun e : y = x => q.1 (by rw [← e]; exact hy))).mpr (h y (List.mem_cons_of_mem _ hy))
    rw [List.length_erase_of_mem xb] at this
    have := List.length_pos_of_mem xb
    rw [List.length_cons]; omega
theorem CompsOf.len {ns : List Int} {CS : List (List Int)} (h : CompsOf ns CS) : CS.length ≤ ns.length := by
  have := nd_subG CS ((List.range ns.length).map fun j : Nat => compF ns (j : Int)) h.1 fun x hx => by
    obtain ⟨j, hj, e⟩ := (h.2.2 x).mp hx
    exact List.mem_map.mpr ⟨j, List.mem_range.mpr hj, e⟩
  rw [List.length_map, List.length_range] at this
  exact this
/-- together they hold everybody once -/
theorem CompsOf.sum {ns : List Int} {CS : List (List Int)} (h : CompsOf ns CS) : (CS.map List.length).sum = ns.length := by
  rw [← List.length_flatten]
  have nd : CS.flatten.Nodup := by
    refine List.pairwise_flatten.mpr ⟨fun l hl => ?_, List.Pairwise.imp_of_mem (fun {a b} ha hb ne x hx y hy e => ?_) h.1⟩
    · obtain ⟨j, _, e⟩ := (h.2.2 l).mp hl
      rw [← e]
      refine List.pairwise_map.mpr (List.Pairwise.imp (fun {a b} ne e => ne (Int.ofNat.inj e)) (List.Pairwise.filter _ List.nodup_range))
    · subst e
      obtain ⟨i, _, ei⟩ := (h.2.2 a).mp ha
      obtain ⟨j, _, ej⟩ := (h.2.2 b).mp hb
      rw [← ei] at hx
      rw [← ej] at hy
      obtain ⟨u, _, h1, e1⟩ := compH_mem.mp hx
      obtain ⟨v, _, h2, e2⟩ := compH_mem.mp hy
      have : u = v := by omega
      subst this
      refine ne ?_
      rw [← ei, ← ej]
      unfold compF
      rw [← h1, h2]
  refine Nat.le_antisymm (low_len _ _ nd fun z hz => ?_) ?_
  · obtain ⟨l, hl, hz⟩ := List.mem_flatten.mp hz
    obtain ⟨j, _, e⟩ := (h.2.2 l).mp hl
    rw [← e] at hz
    obtain ⟨u, hu, _, eu⟩ := compH_mem.mp hz
    omega
  · have := nd_subG ((List.range ns.length).map Int.ofNat) CS.flatten (List.pairwise_map.mpr (List.Pairwise.imp (fun {a b} ne e => ne (Int.ofNat.inj e)) List.nodup_range)) fun x hx => by
      obtain ⟨j, hj, e⟩ := List.mem_map.mp hx
      have hj' := List.mem_range.mp hj
      refine List.mem_flatten.mpr ⟨compF ns (j : Int), (h.2.2 _).mpr ⟨j, hj', rfl⟩, ?_⟩
      exact compH_mem.mpr ⟨j, hj', rfl, e.symm⟩
    rw [List.length_map, List.length_range] at this
    exact this
theorem gt_callN {ns : List Int} {w p : Int} (w0 : 0 ≤ w) (w1 : w < (ns.length : Int)) (p0 : 0 ≤ p) : gt (call1 ns w) p = if p = w then gt ns (gt ns w) else gt ns p := by
  show (ns.set w.toNat (gt ns (gt ns w))).getD p.toNat 0 = if p = w then _ else ns.getD p.toNat 0
  rw [List.getD_eq_getElem?_getD, List.getD_eq_getElem?_getD, List.getElem?_set]
  by_cases h : p = w
  · subst h
    rw [if_pos rfl, if_pos rfl, if_pos (by omega)]; rfl
  · rw [if_neg h, if_neg (by omega)]
section
variable {ns : List Int} (lo : Low ns.length ns) {w : Int} (w0 : 0 ≤ w) (w1 : w < (ns.length : Int))
include lo w0 w1
theorem low_call : Low (call1 ns w).length (call1 ns w) := by
  rw [call1_len]; exact call1_low lo rfl w0 w1
/-- a step behind the call is one or two steps ahead of it -/
theorem itr_call {p : Int} (p0 : 0 ≤ p) (p1 : p < (ns.length : Int)) : ∀ k, ∃ k', k ≤ k' ∧ itr (call1 ns w) p k = itr ns p k'
  | 0 => ⟨0, Nat.le_refl _, rfl⟩
  | k + 1 => by
    obtain ⟨k', hk, e⟩ := itr_call p0 p1 k
    have l := itr_low lo p0 p1 k'
    have g := gt_callN w0 w1 l.1 (ns := ns)
    have e2 : itr (call1 ns w) p (k + 1) = gt (call1 ns w) (itr ns p k') := congrArg (gt (call1 ns w)) e
    by_cases z : itr ns p k' = w
    · refine ⟨k' + 2, by omega, ?_⟩
      rw [e2, g, if_pos z, ← z]; rfl
    · refine ⟨k' + 1, by omega, ?_⟩
      rw [e2, g, if_neg z]; rfl
theorem ring_stepC {p : Int} (p0 : 0 ≤ p) (p1 : p < (ns.length : Int)) : ringF (call1 ns w) (gt ns p) = ringF (call1 ns w) p := by
  have lc := low_call lo w0 w1
  have len : (call1 ns w).length = ns.length := call1_len _ _
  have g := gt_low lo p0 p1
  by_cases z : p = w
  · subst z
    by_cases y : gt ns p = p
    · rw [y]
    · have s1 := ringF_step lc (p := p) p0 (by rw [len]; exact p1)
      have s2 := ringF_step lc (p := gt ns p) g.1 (by rw [len]; exact g.2)
      rw [gt_callN w0 w1 p0, if_pos rfl] at s1
      rw [gt_callN w0 w1 g.1, if_neg y] at s2
      rw [← s2, s1]
  · have s1 := ringF_step lc (p := p) p0 (by rw [len]; exact p1)
    rw [gt_callN w0 w1 p0, if_neg z] at s1
    exact s1
theorem ring_itrC {p : Int} (p0 : 0 ≤ p) (p1 : p < (ns.length : Int)) : ∀ k, ringF (call1 ns w) (itr ns p k) = ringF (call1 ns w) p
  | 0 => rfl
  | k + 1 => by
    have l := itr_low lo p0 p1 k
    show ringF (call1 ns w) (gt ns (itr ns p k)) = _
    rw [ring_stepC lo w0 w1 l.1 l.2, ring_itrC p0 p1 k]
end
theorem ring_itr {ns : List Int} (lo : Low ns.length ns) {p m : Int} (p0 : 0 ≤ p) (p1 : p < (ns.length : Int)) (h : m ∈ ringF ns p) : ∃ s, itr ns p s = m := by
  obtain ⟨c, x, e, _⟩ := ringF_cyc lo p0 p1
  rw [e, x.turnF] at h
  have mm := minF_ok (itrs_ne (ns := ns) (q := itr ns p (heightF ns p)) x.1)
  obtain ⟨i, _, ei⟩ := itrs_mem.mp (((x.at mm.1).2 m).mp h)
  exact ⟨heightF ns p + i, by rw [itr_add]; exact ei⟩
theorem meet_iff {ns : List Int} (lo : Low ns.length ns) {p r : Int} (p0 : 0 ≤ p) (p1 : p < (ns.length : Int)) (r0 : 0 ≤ r) (r1 : r < (ns.length : Int)) : ringF ns p = ringF ns r ↔ ∃ s t, itr ns p s = itr ns r t := by
  constructor
  · intro e
    obtain ⟨m, c, e1, cy, _⟩ := ringF_form lo p0 p1
    have hm : m ∈ ringF ns p := by rw [e1]; exact itrs_mem.mpr ⟨0, cy.1, rfl⟩
    obtain ⟨s, es⟩ := ring_itr lo p0 p1 hm
    obtain ⟨t, et⟩ := ring_itr lo r0 r1 (e ▸ hm)
    exact ⟨s, t, es.trans et.symm⟩
  · rintro ⟨s, t, e⟩
    rw [← ringF_itr lo p0 p1 s, ← ringF_itr lo r0 r1 t, e]
theorem ring_call {ns : List Int} (lo : Low ns.length ns) {w p r : Int} (w0 : 0 ≤ w) (w1 : w < (ns.length : Int)) (p0 : 0 ≤ p) (p1 : p < (ns.length : Int)) (r0 : 0 ≤ r) (r1 : r < (ns.length : Int)) : ringF ns p = ringF ns r ↔ ringF (call1 ns w) p = ringF (call1 ns w) r := by
  have lc := low_call lo w0 w1
  have len : (call1 ns w).length = ns.length := call1_len _ _
  constructor
  · intro e
    obtain ⟨s, t, e⟩ := (meet_iff lo p0 p1 r0 r1).mp e
    rw [← ring_itrC lo w0 w1 p0 p1 s, ← ring_itrC lo w0 w1 r0 r1 t, e]
  · intro e
    obtain ⟨s, t, e⟩ := (meet_iff lc p0 (by rw [len]; exact p1) r0 (by rw [len]; exact r1)).mp e
    obtain ⟨s', _, es⟩ := itr_call lo w0 w1 p0 p1 s
    obtain ⟨t', _, et⟩ := itr_call lo w0 w1 r0 r1 t
    exact (meet_iff lo p0 p1 r0 r1).mpr ⟨s', t', by rw [← es, ← et]; exact e⟩
theorem comp_call {ns : List Int} (lo : Low ns.length ns) {w : Int} (w0 : 0 ≤ w) (w1 : w < (ns.length : Int)) {p : Nat} (hp : p < ns.length) : compF (call1 ns w) (p : Int) = compF ns (p : Int) := by
  have lc := low_call lo w0 w1
  have len : (call1 ns w).length = ns.length := call1_len _ _
  unfold compF compH
  rw [len]
  congr 1
  refine List.filter_congr fun j hj => ?_
  have hj' := List.mem_range.mp hj
  have a := head_iff lo (p := (j : Int)) (q := (p : Int)) (by omega) (by omega) (by omega) (by omega)
  have b := head_iff lc (p := (j : Int)) (q := (p : Int)) (by omega) (by omega) (by omega) (by omega)
  have c := ring_call lo w0 w1 (p := (j : Int)) (r := (p : Int)) (by omega) (by omega) (by omega) (by omega)
  by_cases z : headF ns (j : Int) = headF ns (p : Int)
  · rw [decide_eq_true z, decide_eq_true (b.mpr (c.mp (a.mp z)))]
  · rw [decide_eq_false z, decide_eq_false (fun y => z (a.mpr (c.mpr (b.mp y))))]
theorem CompsOf.call {ns : List Int} (lo : Low ns.length ns) {w : Int} (w0 : 0 ≤ w) (w1 : w < (ns.length : Int)) {CS : List (List Int)} (h : CompsOf ns CS) : CompsOf (call1 ns w) CS := by
  refine ⟨h.1, h.2.1, fun k => (h.2.2 k).trans ?_⟩
  rw [call1_len]
  constructor
  · rintro ⟨j, hj, e⟩; exact ⟨j, hj, (comp_call lo w0 w1 hj).trans e⟩
  · rintro ⟨j, hj, e⟩; exact ⟨j, hj, (comp_call lo w0 w1 hj).symm.trans e⟩
theorem ring_at {ns : List Int} (lo : Low ns.length ns) {m : Int} (m0 : 0 ≤ m) (m1 : m < (ns.length : Int)) {c : Nat} (cy : Cyc ns m c) : ringF ns m = turnF (itrs ns m c) := by
  obtain ⟨d, x, e, _⟩ := ringF_cyc lo m0 m1
  rw [e]
  exact x.same cy (z := itr ns m (heightF ns m)) (x.all 0) (cy.all _)
end Lp

namespace Lp
open PySem PySem.Spec PyProof.Rows L2
def gv (i : Nat) (o : Option SV) (ε : Env) (Q : R → Env → Prop) : Prop := match o with
  | some (.sh d) => Q (.sh d) ε
  | some (.ow ds) => Q (.br i ds) ε
  | some .bx => Q .bx ε
  | some (.raw v) => Q (.raw v) ε
  | some (.st S n) => Q (.sr i S n) ε
  | some (.exn x) => Q (.exn x) ε
  | some (.dco xs) => Q (.dbr i xs) ε
  | some (.sto M) => Q (.srt i M) ε
  | some (.dsh xs) => Q (.dsh xs) ε
  | some (.gen g) => Q (.gen g) ε
  | _ => False
theorem dVar_ (i : Nat) (ε : Env) (Q : R → Env → Prop) : dVar i ε Q = gv i ε.s[i]? ε Q := rfl
section
variable (i : Nat) (ε : Env) (Q : R → Env → Prop)
theorem gv_sh (d : PyData) : gv i (some (.sh d)) ε Q = Q (.sh d) ε := rfl
theorem gv_ow (ds : List PyData) : gv i (some (.ow ds)) ε Q = Q (.br i ds) ε := rfl
theorem gv_bx : gv i (some .bx) ε Q = Q .bx ε := rfl
theorem gv_raw (v : V) : gv i (some (.raw v)) ε Q = Q (.raw v) ε := rfl
theorem gv_exn (x : Xn) : gv i (some (.exn x)) ε Q = Q (.exn x) ε := rfl
theorem gv_st (S : Int → Bool) (n : Nat) : gv i (some (.st S n)) ε Q = Q (.sr i S n) ε := rfl
end
def ga (F : DSp) (o : Option (List SV)) (b : Bool) (ε : Env) (Q : R → Env → Prop) : Prop := match o with
  | some args => F args ε.c fun r c => match b with
    | true => immR r = true ∧ Q r ⟨ε.s, c⟩
    | false => Q r ⟨ε.s, c⟩
  | none => False
theorem dArgs_ (F : DSp) (rs : List R) (ε : Env) (Q : R → Env → Prop) : dArgs F rs ε Q = ga F (argsOf rs) (hasBr rs) ε Q := rfl
theorem ga_f (F : DSp) (args : List SV) (ε : Env) (Q : R → Env → Prop) : ga F (some args) false ε Q = F args ε.c fun r c => Q r ⟨ε.s, c⟩ := rfl
theorem ga_t (F : DSp) (args : List SV) (ε : Env) (Q : R → Env → Prop) : ga F (some args) true ε Q = F args ε.c fun r c => immR r = true ∧ Q r ⟨ε.s, c⟩ := rfl
def gi (r : R) (ε : Env) (Q : List PyData → Bool → Env → Prop) : Prop := match r with
  | .sh (.list ds) => Q ds true ε
  | .sh (.tuple ds) => Q ds true ε
  | .br _ ds => Q ds false ε
  | _ => False
theorem dIter_ (f : DTE) (ε : Env) (Q : List PyData → Bool → Env → Prop) : dIter f ε Q = f ε fun r ε1 => gi r.pub ε1 Q := rfl
theorem gi_l (ds : List PyData) (ε : Env) (Q : List PyData → Bool → Env → Prop) : gi (.sh (.list ds)) ε Q = Q ds true ε := rfl
theorem gi_t (ds : List PyData) (ε : Env) (Q : List PyData → Bool → Env → Prop) : gi (.sh (.tuple ds)) ε Q = Q ds true ε := rfl
theorem gi_b (i : Nat) (ds : List PyData) (ε : Env) (Q : List PyData → Bool → Env → Prop) : gi (.br i ds) ε Q = Q ds false ε := rfl
section
variable (Q : R → Prop)
theorem add_i (i j : Int) : φAdd (.int i) (.int j) Q = Q (.sh (.int (i + j))) := rfl
theorem add_l (a b : List PyData) : φAdd (.list a) (.list b) Q = (a.length + b.length ≤ sizeLine ∧ Q (.nw (a ++ b))) := rfl
theorem add_t (a b : List PyData) : φAdd (.tuple a) (.tuple b) Q = (a.length + b.length ≤ sizeLine ∧ Q (.sh (.tuple (a ++ b)))) := rfl
theorem mul_i (i j : Int) : φMul (.int i) (.int j) Q = (CMulW i j ∧ Q (.sh (.int (i * j)))) := rfl
theorem mul_l (a : List PyData) (k : Int) : φMul (.list a) (.int k) Q = ((-(2 ^ 63) ≤ k ∧ k < 2 ^ 63 ∧ a.length * k.toNat ≤ sizeLine) ∧ Q (.nw (List.replicate k.toNat a).flatten)) := rfl
theorem sl_l (ds : List PyData) (l h : Option Int) : φSl (.list ds) l h Q = Q (.nw (cutD ds l h)) := rfl
theorem sl_t (ds : List PyData) (l h : Option Int) : φSl (.tuple ds) l h Q = Q (.sh (.tuple (cutD ds l h))) := rfl
theorem eq_i (n : Bool) (i j : Int) : φEq n (.int i) (.int j) Q = Q (.sh (.bool (if n then !decide (i = j) else decide (i = j)))) := rfl
theorem eq_s (n : Bool) (i j : Str) : φEq n (.str i) (.str j) Q = Q (.sh (.bool (if n then !decide (i = j) else decide (i = j)))) := rfl
theorem eq_l (n : Bool) (a b : List PyData) : φEq n (.list a) (.list b) Q = ((SeqAt.shaped (.list a) = true ∧ SeqAt.shaped (.list b) = true) ∧ Q (.sh (.bool (if n then !PyData.eqv (.list a) (.list b) else PyData.eqv (.list a) (.list b))))) := rfl
theorem eq_t (n : Bool) (a b : List PyData) : φEq n (.tuple a) (.tuple b) Q = ((SeqAt.shaped (.tuple a) = true ∧ SeqAt.shaped (.tuple b) = true) ∧ Q (.sh (.bool (if n then !PyData.eqv (.tuple a) (.tuple b) else PyData.eqv (.tuple a) (.tuple b))))) := rfl
theorem eq_b (n : Bool) (a b : Bool) : φEq n (.bool a) (.bool b) Q = ((SeqAt.shaped (.bool a) = true ∧ SeqAt.shaped (.bool b) = true) ∧ Q (.sh (.bool (if n then !PyData.eqv (.bool a) (.bool b) else PyData.eqv (.bool a) (.bool b))))) := rfl
theorem eq_n (n : Bool) : φEq n .none .none Q = ((SeqAt.shaped .none = true ∧ SeqAt.shaped .none = true) ∧ Q (.sh (.bool (if n then !PyData.eqv .none .none else PyData.eqv .none .none)))) := rfl
end
end Lp

namespace Lp
open PySem PySem.Spec PyProof.Rows L2
theorem its_l (ds : List PyData) : PyData.its (.list ds) = some ds := rfl
theorem its_t (ds : List PyData) : PyData.its (.tuple ds) = some ds := rfl
theorem isN_n : isN .none = true := rfl
theorem isN_b (b : Bool) : isN (.bool b) = false := rfl
theorem isN_i (z : Int) : isN (.int z) = false := rfl
theorem isN_s (x : Str) : isN (.str x) = false := rfl
theorem isN_l (ds : List PyData) : isN (.list ds) = false := rfl
theorem isN_t (ds : List PyData) : isN (.tuple ds) = false := rfl
theorem rd_sh (d : PyData) : R.dat (.sh d) = some d := rfl
theorem rd_nw (ds : List PyData) : R.dat (.nw ds) = some (.list ds) := rfl
theorem rd_br (i : Nat) (ds : List PyData) : R.dat (.br i ds) = some (.list ds) := rfl
theorem rp_sh (d : PyData) : R.pub (.sh d) = .sh d := rfl
theorem rp_nw (ds : List PyData) : R.pub (.nw ds) = .sh (.list ds) := rfl
theorem rp_br (i : Nat) (ds : List PyData) : R.pub (.br i ds) = .br i ds := rfl
theorem rp_bx : R.pub .bx = .bx := rfl
theorem rp_raw (v : V) : R.pub (.raw v) = .raw v := rfl
theorem rp_sr (i : Nat) (S : Int → Bool) (n : Nat) : R.pub (.sr i S n) = .sr i S n := rfl
theorem rr_sh (d : PyData) : R.ret (.sh d) = some (.sh d) := rfl
theorem rr_nw (ds : List PyData) : R.ret (.nw ds) = some (.nw ds) := rfl
theorem rr_br (i : Nat) (ds : List PyData) : R.ret (.br i ds) = some (.nw ds) := rfl
theorem ra_sh (d : PyData) : R.arg (.sh d) = some (.sh d) := rfl
theorem ra_br (i : Nat) (ds : List PyData) : R.arg (.br i ds) = some (.sh (.list ds)) := rfl
theorem ra_bx : R.arg .bx = some .bx := rfl
theorem ra_raw (v : V) : R.arg (.raw v) = some (.raw v) := rfl
theorem va_sh (o : Bool) (d : PyData) : val o (.sh d) = some (.sh d) := rfl
theorem va_nt (ds : List PyData) : val true (.nw ds) = some (.ow ds) := rfl
theorem va_nf (ds : List PyData) : val false (.nw ds) = some (.sh (.list ds)) := rfl
theorem va_raw (o : Bool) (v : V) : val o (.raw v) = some (.raw v) := rfl
theorem hb_n : hasBr [] = false := rfl
theorem hb_sh (d : PyData) (rs : List R) : hasBr (.sh d :: rs) = hasBr rs := rfl
theorem hb_bx (rs : List R) : hasBr (.bx :: rs) = hasBr rs := rfl
theorem hb_raw (v : V) (rs : List R) : hasBr (.raw v :: rs) = hasBr rs := rfl
theorem hb_br (i : Nat) (ds : List PyData) (rs : List R) : hasBr (.br i ds :: rs) = true := rfl
theorem sh_n : shs [] = some [] := rfl
theorem sh_c (d : PyData) (rs : List R) : shs (.sh d :: rs) = match shs rs with
    | some ds => some (d :: ds)
    | none => none := rfl
theorem tr_n : truD .none = some false := rfl
theorem tr_b (b : Bool) : truD (.bool b) = some b := rfl
theorem tr_i (z : Int) : truD (.int z) = some (z != 0) := rfl
theorem tr_l (ds : List PyData) : truD (.list ds) = some (!ds.isEmpty) := rfl
theorem tr_t (ds : List PyData) : truD (.tuple ds) = some (!ds.isEmpty) := rfl
theorem ty_n : tyD .none = "NoneType" := rfl
theorem ty_b (b : Bool) : tyD (.bool b) = "bool" := rfl
theorem ty_i (z : Int) : tyD (.int z) = "int" := rfl
theorem ty_s (x : Str) : tyD (.str x) = "str" := rfl
theorem ty_l (ds : List PyData) : tyD (.list ds) = "list" := rfl
theorem ty_t (ds : List PyData) : tyD (.tuple ds) = "tuple" := rfl
universe u
theorem if_ff {α : Sort u} (a b : α) : (if false = true then a else b) = b := rfl
theorem if_tt {α : Sort u} (a b : α) : (if true = true then a else b) = a := rfl
theorem sq_ {p q : DTS} {Δ : DEnds} {ε : Env} (h : p { Δ with nx := q Δ } ε) : dSeq p q Δ ε := h
theorem sqa_ {p q : DTS} {Δ : DEnds} {ε : Env} (h : ∀ D : Env → Prop, (∀ ε, q Δ ε → D ε) → p { Δ with nx := D } ε) : dSeq p q Δ ε := h _ fun _ z => z
theorem if_t {b : Bool} {A B : Prop} (h : b = true) (a : A) : if b = true then A else B := by rw [if_pos h]; exact a
theorem if_f {b : Bool} {A B : Prop} (h : b = false) (x : B) : if b = true then A else B := by rw [h]; exact iteF x
theorem it_t {P A B : Prop} [Decidable P] (h : P) (a : A) : if decide P = true then A else B := if_t (decide_eq_true h) a
theorem it_f {P A B : Prop} [Decidable P] (h : ¬ P) (x : B) : if decide P = true then A else B := if_f (decide_eq_false h) x
theorem it_2 {P A B : Prop} [Decidable P] (h : P → A) (k : ¬ P → B) : if decide P = true then A else B := by
  by_cases q : P
  · exact it_t q (h q)
  · exact it_f q (k q)
theorem in_t {P A B : Prop} [Decidable P] (h : ¬ P) (a : A) : if (!decide P) = true then A else B := if_t (by rw [decide_eq_false h]; rfl) a
theorem in_f {P A B : Prop} [Decidable P] (h : P) (x : B) : if (!decide P) = true then A else B := if_f (by rw [decide_eq_true h]; rfl) x
theorem in_2 {P A B : Prop} [Decidable P] (h : ¬ P → A) (k : P → B) : if (!decide P) = true then A else B := by
  by_cases q : P
  · exact in_f q (k q)
  · exact in_t q (h q)
theorem dI_len (ns : List Int) : (dI ns).length = ns.length := List.length_map ..
theorem dI_get {ns : List Int} {i : Nat} {z : Int} (h : ns[i]? = some z) : (dI ns)[i]? = some (.int z) := by rw [List.getElem?_map, h]; rfl
theorem dI_app (a b : List Int) : dI a ++ dI b = dI (a ++ b) := by
  show a.map _ ++ b.map _ = _
  rw [← List.map_append]
theorem dI_snoc (a : List Int) (z : Int) : dI a ++ [.int z] = dI (a ++ [z]) := dI_app a [z]
theorem dI_set (ns : List Int) (i : Nat) (z : Int) : (dI ns).set i (.int z) = dI (ns.set i z) := by
  exact (List.map_set ..).symm
theorem dI_erase : ∀ (ns : List Int) (i : Nat), (dI ns).eraseIdx i = dI (ns.eraseIdx i)
  | [], _ => rfl
  | _ :: _, 0 => rfl
  | x :: r, i + 1 => by
    show _ :: (dI r).eraseIdx i = _ :: dI (r.eraseIdx i)
    rw [dI_erase r i]
theorem atI_nat {α : Type} {xs : List α} {i : Int} (h0 : 0 ≤ i) (h1 : i < (xs.length : Int)) : atI xs i = xs[i.toNat]? := by
  unfold atI ixN
  rw [if_pos h0, if_pos h1]; rfl
theorem atI_dI {ns : List Int} {i : Int} (h0 : 0 ≤ i) (h1 : i < (ns.length : Int)) : atI (dI ns) i = some (.int (gt ns i)) := by
  rw [atI_nat h0 (by rw [dI_len]; exact h1)]
  exact dI_get (gt_get h0 h1)
theorem ixN_ok {n : Nat} {i : Int} (h0 : 0 ≤ i) (h1 : i < (n : Int)) : ixN n i = some i.toNat := by
  unfold ixN; rw [if_pos h0, if_pos h1]
theorem sIx_int (n d : Nat) (k : Int) (h : 0 ≤ k) : HT.sIx n d (some k) = min k.toNat n := by
  have e : k = ((k.toNat : Nat) : Int) := by omega
  rw [e]; rw [HT.sIx_nat]; congr 1
/-- a state: people 0 .. n - 1, at most 1000 -/
structure Stt (ns : List Int) : Prop where
  lo : Low ns.length ns
  le : ns.length ≤ 1000
  ge : 1 ≤ ns.length
def Per (ns : List Int) (p : Int) : Prop := 0 ≤ p ∧ p < (ns.length : Int)
theorem Stt.gt {ns : List Int} (h : Stt ns) {p : Int} (hp : Per ns p) : Per ns (gt ns p) := gt_low h.lo hp.1 hp.2
def ofO : Option Int → PyData
  | none => .none
  | some z => .int z
def dO (os : List (Option Int)) : List PyData := os.map ofO
def LowO (n : Nat) (os : List (Option Int)) : Prop := ∀ z, some z ∈ os → 0 ≤ z ∧ z < (n : Int)
theorem LowO.of {n : Nat} {ns : List Int} (lo : Low n ns) : LowO n (ns.map some) := fun z hz => by
  obtain ⟨y, hy, e⟩ := List.mem_map.mp hz
  cases e
  exact lo z hy
theorem its_cases {d : PyData} {ds : List PyData} (h : PyData.its d = some ds) : d = .list ds ∨ d = .tuple ds := by
  cases d <;> first | (cases h; exact .inl rfl) | (cases h; exact .inr rfl) | cases h
theorem for_cons {γ : DTG} {p : DTS} {Δ : DEnds} {d : PyData} {ds : List PyData} {ε : Env} (h : γ d ε fun ε1 => p { nx := forD γ p Δ ds, rt := Δ.rt, bk := Δ.nx, ct := forD γ p Δ ds } ε1) : forD γ p Δ (d :: ds) ε := h
theorem lc_cons {γ : DTG} {c : DTT} {f : DTE} {vs : List Nat} {s : List SV} {Q : R → Env → Prop} {d : PyData} {ds acc : List PyData} {n : Nat} (h : γ d ⟨wipeE ⟨s, n⟩ vs, n⟩ fun ε1 => c ε1 fun b ε2 => if b = true then f ε2 fun r ε3 => match r.pub with
      | .sh e => acc.length < sizeLine ∧ lcD γ c f vs s Q ds (acc ++ [e]) ε3.c
      | _ => False
    else lcD γ c f vs s Q ds acc ε2.c) : lcD γ c f vs s Q (d :: ds) acc n := h
theorem lc_all {α : Type} {γ : DTG} {f : DTE} {vs : List Nat} {s : List SV} {Q : R → Env → Prop} {n : Nat} (h e : α → PyData) : ∀ (xs : List α) (acc : List PyData),
    (∀ x ∈ xs, ∀ K : R → Env → Prop, (∀ r ε, r.pub = .sh (e x) → ε.c = n → K r ε) → γ (h x) ⟨wipeE ⟨s, n⟩ vs, n⟩ fun ε1 => f ε1 K) →
    acc.length + xs.length ≤ 16777216 → Q (.nw (acc ++ xs.map e)) ⟨s, n⟩ → lcD γ dYes f vs s Q (xs.map h) acc n
  | [], acc, _, _, q => by
    rw [List.map_nil, List.append_nil] at q
    exact q
  | x :: xs, acc, st, le, q => by
    rw [List.length_cons] at le
    rw [List.map_cons]
    refine lc_cons ?_
    refine st x List.mem_cons_self (fun r ε3 => match r.pub with
      | .sh e => acc.length < sizeLine ∧ lcD γ dYes f vs s Q (xs.map h) (acc ++ [e]) ε3.c
      | _ => False) fun r ε hr hc => ?_
    rw [hr, hc]
    refine ⟨show acc.length < 16777216 by omega, ?_⟩
    refine lc_all h e xs (acc ++ [e x]) (fun y hy => st y (List.mem_cons_of_mem _ hy)) (by rw [List.length_append, List.length_singleton]; omega) ?_
    rw [List.append_assoc]; exact q
theorem Stt.rt {ns : List Int} (h : Stt ns) {p : Int} (hp : Per ns p) : Route ns p (routeF ns p) := routeF_ok h.lo hp.1 hp.2
theorem route_low {ns : List Int} (h : Stt ns) {p : Int} (hp : Per ns p) : Low ns.length (routeF ns p) := by
  obtain ⟨L, e, nd, hin⟩ := h.rt hp
  intro z hz
  rw [e] at hz
  obtain ⟨i, _, ei⟩ := itrs_mem.mp hz
  rw [← ei]; exact itr_low h.lo hp.1 hp.2 i
theorem route_len {ns : List Int} (h : Stt ns) {p : Int} (hp : Per ns p) : 1 ≤ (routeF ns p).length ∧ (routeF ns p).length ≤ ns.length := by
  obtain ⟨L, e, nd, hin⟩ := h.rt hp
  refine ⟨?_, low_len ns.length _ nd (route_low h hp)⟩
  exact List.length_pos_iff.mpr fun z => by rw [z] at hin; cases hin
/-- the last one of a route, and whom they point at -/
theorem route_last {ns : List Int} (h : Stt ns) {p : Int} (hp : Per ns p) : ∃ l, (routeF ns p).getLast? = some l ∧ Per ns l ∧ gt ns l ∈ routeF ns p ∧ (routeF ns p).getLastD 0 = l := by
  obtain ⟨L, e, nd, hin⟩ := h.rt hp
  have l1 := (route_len h hp).1
  have hL : (routeF ns p).length = L := by rw [e, itrs_len]
  have el : (routeF ns p)[L - 1]? = some (itr ns p (L - 1)) := by rw [e]; exact itrs_get (by omega)
  have e2 : (routeF ns p).getLast? = some (itr ns p (L - 1)) := by rw [List.getLast?_eq_getElem?, hL]; exact el
  refine ⟨itr ns p (L - 1), e2, itr_low h.lo hp.1 hp.2 _, ?_, ?_⟩
  · have : gt ns (itr ns p (L - 1)) = itr ns p L := by
      have : L = L - 1 + 1 := by omega
      rw [this]; rfl
    rw [this]; exact hin
  · rw [List.getLastD_eq_getLast?, e2]; rfl
theorem begin_lt {ns : List Int} (h : Stt ns) {p : Int} (hp : Per ns p) : heightF ns p < (routeF ns p).length := by
  obtain ⟨l, l1, l2, l3, l4⟩ := route_last h hp
  unfold heightF beginF
  rw [l4]; exact List.idxOf_lt_length_of_mem l3
end Lp

namespace Lp
open PySem PySem.Spec PyProof.Rows L2
local macro_rules | `(tactic| rfl') => `(tactic| try dsimp only [dVar_, gv_sh, gv_ow, gv_bx, gv_raw, gv_st, dC, dRaw, dOp, dUn, dTest, dTruth, dAnd, dOr, dNot, dYes, dIf, dAndV, dOrV, dNotV, dNotT, dChain, dNil, dCons, dTup, dLst, dats, dCB, dNoP, dPart, dSl, dNext, dBreak, dCont, dNever, dDrop, dRet, dRetN, dIfS, dSetG, dPar, dPar3, dAppend, dAppPop, dSetIx, dExt, dAug, dSet0, dSAdd, dSNotIn, dIter_, gi_l, gi_t, gi_b, dRng1, dRng2, dName, dGNil, dGCons, dGTup, dAsg, dFor, dWhile, dCall, dCallR, dArgs_, ga_f, ga_t, argsOf, dLc, wipeE, dListRg, dIndex, dSortSet, dSortSc, dEnum, dEnA, dZip, dIsi, dIsi2, isaT, φI, φB, φC, φNeg, add_i, add_l, add_t, mul_i, mul_l, φIx, sl_l, sl_t, eq_i, eq_s, eq_l, eq_t, eq_b, eq_n, φIsN, isN_n, isN_b, isN_i, isN_s, isN_l, isN_t, φLen, φList, φTuple, φAbs, φInt, φMax, φIsB, φIsNB, its_l, its_t, rd_sh, rd_nw, rd_br, rp_sh, rp_nw, rp_br, rp_bx, rp_raw, rp_sr, rr_sh, rr_nw, rr_br, ra_sh, ra_br, ra_bx, ra_raw, va_sh, va_nt, va_nf, va_raw, hb_n, hb_sh, hb_bx, hb_raw, hb_br, sh_n, sh_c, tr_n, tr_b, tr_i, tr_l, tr_t, ty_n, ty_b, ty_i, ty_s, ty_l, ty_t, if_ff, if_tt, Env.set, List.getElem?_cons_succ, List.getElem?_cons_zero, List.set_cons_succ, List.set_cons_zero, List.reverse_cons, List.reverse_nil, List.nil_append, List.cons_append, Option.bind_some, ite_true, ite_false])
theorem rg0 (n : Nat) : rgD 0 n = (List.range n).map fun i : Nat => .int (i : Nat) := by
  unfold rgD
  exact List.map_congr_left fun i _ => by rw [Int.zero_add]
theorem per_nat {ns : List Int} {j : Nat} (h : j < ns.length) : Per ns (j : Int) := ⟨Int.natCast_nonneg _, by omega⟩
theorem ring_ne {ns : List Int} (h : Stt ns) {p : Int} (hp : Per ns p) : ringF ns p ≠ [] := by
  unfold ringF
  refine turnF_ne fun e => ?_
  have := congrArg List.length e
  have h := begin_lt h hp
  rw [List.length_drop, List.length_nil] at this
  unfold heightF at h
  omega
theorem φAll_dB {any : Bool} {bs : List Bool} {Q : R → Prop} (q : Q (.sh (.bool (if any then bs.any id else bs.all id)))) : φAll any [.list (dB bs)] Q := by
  unfold φAll
  dsimp only
  rw [boolsD_dB]
  exact q
theorem dB_map {α : Type} (xs : List α) (f : α → Bool) : (xs.map fun x => PyData.bool (f x)) = dB (xs.map f) := by
  show _ = (xs.map f).map _
  rw [List.map_map]; rfl
theorem ring_le {ns : List Int} (h : Stt ns) {p : Int} (hp : Per ns p) : (ringF ns p).length ≤ ns.length := by
  unfold ringF turnF
  rw [List.length_append, List.length_drop, List.length_take, List.length_drop]
  have := (route_len h hp).2
  omega
theorem RingsOf.mem {ns : List Int} (h : Stt ns) {RS : List (List Int)} (hR : RingsOf ns RS) {r : List Int} (hr : r ∈ RS) : r ≠ [] ∧ r.length ≤ ns.length := by
  obtain ⟨j, hj, rfl⟩ := (hR.2.2 r).mp hr
  exact ⟨ring_ne h (per_nat hj), ring_le h (per_nat hj)⟩
theorem RingsOf.len {ns : List Int} {RS : List (List Int)} (hR : RingsOf ns RS) : RS.length ≤ ns.length := by
  have := nd_subG RS ((List.range ns.length).map fun i : Nat => ringF ns (i : Int)) hR.1 fun r hr => by
    obtain ⟨j, hj, e⟩ := (hR.2.2 r).mp hr
    exact List.mem_map.mpr ⟨j, List.mem_range.mpr hj, e⟩
  rw [List.length_map, List.length_range] at this
  exact this
end Lp

namespace Lp
open PySem PySem.Spec PyProof.Rows L2
local macro_rules | `(tactic| rfl') => `(tactic| try dsimp only [dVar_, gv_sh, gv_ow, gv_bx, gv_raw, gv_st, dC, dRaw, dOp, dUn, dTest, dTruth, dAnd, dOr, dNot, dYes, dIf, dAndV, dOrV, dNotV, dNotT, dChain, dNil, dCons, dTup, dLst, dats, dCB, dNoP, dPart, dSl, dNext, dBreak, dCont, dNever, dDrop, dRet, dRetN, dIfS, dSetG, dPar, dPar3, dAppend, dAppPop, dSetIx, dExt, dAug, dSet0, dSAdd, dSNotIn, dIter_, gi_l, gi_t, gi_b, dRng1, dRng2, dName, dGNil, dGCons, dGTup, dAsg, dFor, dWhile, dCall, dCallR, dArgs_, ga_f, ga_t, argsOf, dLc, wipeE, dListRg, dIndex, dSortSet, dSortSc, dEnum, dEnA, dZip, dIsi, dIsi2, isaT, φI, φB, φC, φNeg, add_i, add_l, add_t, mul_i, mul_l, φIx, sl_l, sl_t, eq_i, eq_s, eq_l, eq_t, eq_b, eq_n, φIsN, isN_n, isN_b, isN_i, isN_s, isN_l, isN_t, φLen, φList, φTuple, φAbs, φInt, φMax, φIsB, φIsNB, its_l, its_t, rd_sh, rd_nw, rd_br, rp_sh, rp_nw, rp_br, rp_bx, rp_raw, rp_sr, rr_sh, rr_nw, rr_br, ra_sh, ra_br, ra_bx, ra_raw, va_sh, va_nt, va_nf, va_raw, hb_n, hb_sh, hb_bx, hb_raw, hb_br, sh_n, sh_c, tr_n, tr_b, tr_i, tr_l, tr_t, ty_n, ty_b, ty_i, ty_s, ty_l, ty_t, if_ff, if_tt, Env.set, List.getElem?_cons_succ, List.getElem?_cons_zero, List.set_cons_succ, List.set_cons_zero, List.reverse_cons, List.reverse_nil, List.nil_append, List.cons_append, Option.bind_some, ite_true, ite_false])
def p_law_take : DSp := fun args c Q => ∃ span : Int, args = [.bx, .sh (.int span)] ∧ 1 ≤ span ∧ span ≤ 10000000000000 ∧ c ≤ 900000000 ∧ ∀ (r : Int) (c' : Nat), 0 ≤ r → r < span → c' ≤ c + 3 → Q (.sh (.int r)) c'
theorem mon_law_take : MonF p_law_take := fun args c A B h ⟨s, e, h1, h2, h3, q⟩ => ⟨s, e, h1, h2, h3, fun r c' a b d => h _ _ (q r c' a b d)⟩
theorem c_take {span : Int} {c : Nat} {Q : R → Nat → Prop} (h1 : 1 ≤ span) (h2 : span ≤ 10000000000000) (h3 : c ≤ 900000000) (q : ∀ (r : Int) (c' : Nat), 0 ≤ r → r < span → c' ≤ c + 3 → Q (.sh (.int r)) c') : p_law_take [.bx, .sh (.int span)] c Q := ⟨span, rfl, h1, h2, h3, q⟩
/-- _law_pick: _law_box_here, _law_some -/
def b_law_pick : DTS := (dRet (dOp φIx (dVar 1) (dCall p_law_take (dCons (dVar 0) (dCons (dCB φLen (dCons (dVar 1) dNil)) dNil)))))
abbrev k_law_pick : Nat := 0
def p_law_pick : DSp := fun args c Q => ∃ (d : PyData) (ds : List PyData), args = [.bx, .sh d] ∧ PyData.its d = some ds ∧ ds ≠ [] ∧ ds.length ≤ 1000000 ∧ c ≤ 900000000 ∧ ∀ e c', e ∈ ds → c' ≤ c + 3 → Q (.sh e) c'
theorem mon_law_pick : MonF p_law_pick := fun args c A B h ⟨s, ds, e, h1, h2, h3, h4, q⟩ => ⟨s, ds, e, h1, h2, h3, h4, fun r c' a b => h _ _ (q r c' a b)⟩
theorem m_law_pick : ∀ args c Q, p_law_pick args c Q → defF k_law_pick b_law_pick args c Q := by
  rintro _ c Q ⟨d, ds, rfl, h1, h2, h3, h4, q⟩
  have hl : 1 ≤ ds.length := List.length_pos_iff.mpr h2
  show b_law_pick _ ⟨[.bx, .sh d], c⟩
  unfold b_law_pick
  rfl'
  rw [h1]
  rfl'
  refine c_take (by omega) (by omega) h4 fun r c' r0 r1 hc => ?_
  rfl'
  rw [h1]
  have hr : r.toNat < ds.length := by omega
  exact ⟨ds[r.toNat], by rw [atI_nat r0 r1]; exact List.getElem?_eq_getElem hr, q _ _ (List.getElem_mem hr) hc⟩
theorem erase_perm {α : Type} : ∀ (l : List α) (i : Nat) (h : i < l.length), (l[i] :: l.eraseIdx i).Perm l
  | _ :: _, 0, _ => List.Perm.refl _
  | x :: r, i + 1, h => (List.Perm.swap x (r[i]'(Nat.lt_of_succ_lt_succ h)) (r.eraseIdx i)).trans ((erase_perm r i (Nat.lt_of_succ_lt_succ h)).cons x)
def NetOk (n : Nat) (ns : List Int) : Prop := ns.length = n ∧ Low n ns
theorem perm_low {n : Nat} {ms : List Int} (h : ms.Perm ((List.range n).map fun i : Nat => (i : Int))) : ms.length = n ∧ Low n ms := by
  refine ⟨by rw [h.length_eq, List.length_map, List.length_range], fun z hz => ?_⟩
  obtain ⟨j, hj, rfl⟩ := List.mem_map.mp (h.mem_iff.mp hz)
  have := List.mem_range.mp hj
  omega
theorem enD_dI (ms : List Int) : enD (dI ms) = ms.zipIdx.map fun p => .tuple [.int (p.2 : Nat), .int p.1] := by
  unfold enD
  rw [List.mapIdx_eq_zipIdx_map]
  show ((ms.map _).zipIdx).map _ = _
  rw [List.zipIdx_map, List.map_map]
  rfl
end Lp

namespace Lp
open PySem PySem.Spec PyProof.Rows L2
local macro_rules | `(tactic| rfl') => `(tactic| try dsimp only [dVar_, gv_sh, gv_ow, gv_bx, gv_raw, gv_st, dC, dRaw, dOp, dUn, dTest, dTruth, dAnd, dOr, dNot, dYes, dIf, dAndV, dOrV, dNotV, dNotT, dChain, dNil, dCons, dTup, dLst, dats, dCB, dNoP, dPart, dSl, dNext, dBreak, dCont, dNever, dDrop, dRet, dRetN, dIfS, dSetG, dPar, dPar3, dAppend, dAppPop, dSetIx, dExt, dAug, dSet0, dSAdd, dSNotIn, dIter_, gi_l, gi_t, gi_b, dRng1, dRng2, dName, dGNil, dGCons, dGTup, dAsg, dFor, dWhile, dCall, dCallR, dArgs_, ga_f, ga_t, argsOf, dLc, wipeE, dListRg, dIndex, dSortSet, dSortSc, dEnum, dEnA, dZip, dIsi, dIsi2, isaT, φI, φB, φC, φNeg, add_i, add_l, add_t, mul_i, mul_l, φIx, sl_l, sl_t, eq_i, eq_s, eq_l, eq_t, eq_b, eq_n, φIsN, isN_n, isN_b, isN_i, isN_s, isN_l, isN_t, φLen, φList, φTuple, φAbs, φInt, φMax, φIsB, φIsNB, its_l, its_t, rd_sh, rd_nw, rd_br, rp_sh, rp_nw, rp_br, rp_bx, rp_raw, rp_sr, rr_sh, rr_nw, rr_br, ra_sh, ra_br, ra_bx, ra_raw, va_sh, va_nt, va_nf, va_raw, hb_n, hb_sh, hb_bx, hb_raw, hb_br, sh_n, sh_c, tr_n, tr_b, tr_i, tr_l, tr_t, ty_n, ty_b, ty_i, ty_s, ty_l, ty_t, if_ff, if_tt, Env.set, List.getElem?_cons_succ, List.getElem?_cons_zero, List.set_cons_succ, List.set_cons_zero, List.reverse_cons, List.reverse_nil, List.nil_append, List.cons_append, Option.bind_some, ite_true, ite_false])
end Lp

namespace Lp
open PySem PySem.Spec PyProof.Rows L2
local macro_rules | `(tactic| rfl') => `(tactic| try dsimp only [dVar_, gv_sh, gv_ow, gv_bx, gv_raw, gv_st, dC, dRaw, dOp, dUn, dTest, dTruth, dAnd, dOr, dNot, dYes, dIf, dAndV, dOrV, dNotV, dNotT, dChain, dNil, dCons, dTup, dLst, dats, dCB, dNoP, dPart, dSl, dNext, dBreak, dCont, dNever, dDrop, dRet, dRetN, dIfS, dSetG, dPar, dPar3, dAppend, dAppPop, dSetIx, dExt, dAug, dSet0, dSAdd, dSNotIn, dIter_, gi_l, gi_t, gi_b, dRng1, dRng2, dName, dGNil, dGCons, dGTup, dAsg, dFor, dWhile, dCall, dCallR, dArgs_, ga_f, ga_t, argsOf, dLc, wipeE, dListRg, dIndex, dSortSet, dSortSc, dEnum, dEnA, dZip, dIsi, dIsi2, isaT, φI, φB, φC, φNeg, add_i, add_l, add_t, mul_i, mul_l, φIx, sl_l, sl_t, eq_i, eq_s, eq_l, eq_t, eq_b, eq_n, φIsN, isN_n, isN_b, isN_i, isN_s, isN_l, isN_t, φLen, φList, φTuple, φAbs, φInt, φMax, φIsB, φIsNB, its_l, its_t, rd_sh, rd_nw, rd_br, rp_sh, rp_nw, rp_br, rp_bx, rp_raw, rp_sr, rr_sh, rr_nw, rr_br, ra_sh, ra_br, ra_bx, ra_raw, va_sh, va_nt, va_nf, va_raw, hb_n, hb_sh, hb_bx, hb_raw, hb_br, sh_n, sh_c, tr_n, tr_b, tr_i, tr_l, tr_t, ty_n, ty_b, ty_i, ty_s, ty_l, ty_t, if_ff, if_tt, Env.set, List.getElem?_cons_succ, List.getElem?_cons_zero, List.set_cons_succ, List.set_cons_zero, List.reverse_cons, List.reverse_nil, List.nil_append, List.cons_append, Option.bind_some, ite_true, ite_false])
def dep : Nat → PyData → Bool
  | 0, _ => false
  | k + 1, .list ds => decide (ds.length ≤ 1000000) && ds.all (dep k)
  | k + 1, .tuple ds => decide (ds.length ≤ 1000000) && ds.all (dep k)
  | _ + 1, .dict _ => false
  | _ + 1, _ => true
def p_law_same (k : Nat) : DSp := fun args c Q => ∃ a b : PyData, args = [.sh a, .sh b] ∧ a = b ∧ dep k a = true ∧ Q (.sh (.bool true)) c
theorem mon_law_same (k : Nat) : MonF (p_law_same k) := fun args c A B h ⟨a, b, e, h1, h2, q⟩ => ⟨a, b, e, h1, h2, h _ _ q⟩
theorem zip_self (ds : List PyData) : zipDs ds ds = ds.map fun d => .tuple [d, d] := by
  unfold zipDs
  induction ds with
  | nil => rfl
  | cons x r ih => rw [List.zipWith_cons_cons, ih]; rfl
theorem same_seq {k : Nat} {ds : List PyData} {s : List SV} {c : Nat} {Q : R → Env → Prop} (hk : ds.all (dep k) = true) (hl : ds.length ≤ 16777216) (hs : ∃ x y, s = [x, y, .un, .un]) (q : Q (.nw (ds.map fun _ => .bool true)) ⟨s, c⟩) :
    lcD (dGTup 2 (dGCons (dName 2) (dGCons (dName 3) dGNil))) dYes (dCall (p_law_same k) (dCons (dVar 2) (dCons (dVar 3) dNil))) [2, 3] s Q (zipDs ds ds) [] c := by
  obtain ⟨x, y, rfl⟩ := hs
  rw [zip_self]
  refine lc_all (fun d => .tuple [d, d]) (fun _ => .bool true) ds [] (fun d hd K hK => ?_) (by show 0 + _ ≤ _; omega) q
  rfl'
  refine ⟨rfl, ?_⟩
  refine ⟨d, d, rfl, rfl, List.all_eq_true.mp hk d hd, ?_⟩
  rfl'
  exact hK _ _ rfl rfl
theorem eqv_self_b (b : Bool) : PyData.eqv (.bool b) (.bool b) = true := by cases b <;> rfl
theorem dep_list {k : Nat} {ds : List PyData} (h : dep (k + 1) (.list ds) = true) : ds.length ≤ 1000000 ∧ ds.all (dep k) = true := by
  unfold dep at h
  rw [Bool.and_eq_true] at h
  exact ⟨of_decide_eq_true h.1, h.2⟩
theorem dep_tuple {k : Nat} {ds : List PyData} (h : dep (k + 1) (.tuple ds) = true) : ds.length ≤ 1000000 ∧ ds.all (dep k) = true := by
  unfold dep at h
  rw [Bool.and_eq_true] at h
  exact ⟨of_decide_eq_true h.1, h.2⟩
theorem all_true (ds : List PyData) : (dB (ds.map fun _ => true)).length = ds.length ∧ (ds.map fun _ => true).all id = true := by
  refine ⟨by rw [List.length_map, List.length_map], ?_⟩
  rw [List.all_map]
  exact List.all_eq_true.mpr fun _ _ => rfl
end Lp

namespace Lp
open PySem PySem.Spec PyProof.Rows L2
local macro_rules | `(tactic| rfl') => `(tactic| try dsimp only [dVar_, gv_sh, gv_ow, gv_bx, gv_raw, gv_st, dC, dRaw, dOp, dUn, dTest, dTruth, dAnd, dOr, dNot, dYes, dIf, dAndV, dOrV, dNotV, dNotT, dChain, dNil, dCons, dTup, dLst, dats, dCB, dNoP, dPart, dSl, dNext, dBreak, dCont, dNever, dDrop, dRet, dRetN, dIfS, dSetG, dPar, dPar3, dAppend, dAppPop, dSetIx, dExt, dAug, dSet0, dSAdd, dSNotIn, dIter_, gi_l, gi_t, gi_b, dRng1, dRng2, dName, dGNil, dGCons, dGTup, dAsg, dFor, dWhile, dCall, dCallR, dArgs_, ga_f, ga_t, argsOf, dLc, wipeE, dListRg, dIndex, dSortSet, dSortSc, dEnum, dEnA, dZip, dIsi, dIsi2, isaT, φI, φB, φC, φNeg, add_i, add_l, add_t, mul_i, mul_l, φIx, sl_l, sl_t, eq_i, eq_s, eq_l, eq_t, eq_b, eq_n, φIsN, isN_n, isN_b, isN_i, isN_s, isN_l, isN_t, φLen, φList, φTuple, φAbs, φInt, φMax, φIsB, φIsNB, its_l, its_t, rd_sh, rd_nw, rd_br, rp_sh, rp_nw, rp_br, rp_bx, rp_raw, rp_sr, rr_sh, rr_nw, rr_br, ra_sh, ra_br, ra_bx, ra_raw, va_sh, va_nt, va_nf, va_raw, hb_n, hb_sh, hb_bx, hb_raw, hb_br, sh_n, sh_c, tr_n, tr_b, tr_i, tr_l, tr_t, ty_n, ty_b, ty_i, ty_s, ty_l, ty_t, if_ff, if_tt, Env.set, List.getElem?_cons_succ, List.getElem?_cons_zero, List.set_cons_succ, List.set_cons_zero, List.reverse_cons, List.reverse_nil, List.nil_append, List.cons_append, Option.bind_some, ite_true, ite_false])
inductive All2 {α β : Type} (P : α → β → Prop) : List α → List β → Prop
  | nil : All2 P [] []
  | cons {x : α} {y : β} {xs : List α} {ys : List β} : P x y → All2 P xs ys → All2 P (x :: xs) (y :: ys)
theorem All2.len {α β : Type} {P : α → β → Prop} : ∀ {xs : List α} {ys : List β}, All2 P xs ys → ys.length = xs.length
  | _, _, .nil => rfl
  | _, _, .cons _ r => by rw [List.length_cons, List.length_cons, r.len]
theorem All2.mem {α β : Type} {P : α → β → Prop} : ∀ {xs : List α} {ys : List β}, All2 P xs ys → ∀ y ∈ ys, ∃ x ∈ xs, P x y
  | _, _, .cons a r, y, h => by
    rcases List.mem_cons.mp h with rfl | h
    · exact ⟨_, List.mem_cons_self, a⟩
    · obtain ⟨x, hx, hp⟩ := r.mem y h
      exact ⟨x, List.mem_cons_of_mem _ hx, hp⟩
theorem All2.get {α β : Type} {P : α → β → Prop} : ∀ {xs : List α} {ys : List β}, All2 P xs ys → ∀ {i : Nat} {x : α}, xs[i]? = some x → ∃ y, ys[i]? = some y ∧ P x y
  | _, _, .nil, i, x, h => by simp at h
  | _, _, .cons a r, 0, x, h => by simp at h; subst h; exact ⟨_, rfl, a⟩
  | _, _, .cons a r, i + 1, x, h => by
    obtain ⟨y, h1, h2⟩ := r.get (i := i) (x := x) (by simpa using h)
    exact ⟨y, by simpa using h1, h2⟩
theorem lc_draw {α β : Type} {γ : DTG} {f : DTE} {vs : List Nat} {s : List SV} {Q : R → Env → Prop} {N : Nat} (h : α → PyData) (u : β → PyData) (P : α → β → Prop) : ∀ (xs : List α) (acc : List β) (n : Nat),
    (∀ x ∈ xs, ∀ m, m ≤ n + N * xs.length → ∀ K : R → Env → Prop, (∀ r ε y, r.pub = .sh (u y) → P x y → ε.c ≤ m + N → K r ε) → γ (h x) ⟨wipeE ⟨s, m⟩ vs, m⟩ fun ε1 => f ε1 K) →
    acc.length + xs.length ≤ 16777216 → (∀ ys m, All2 P xs ys → m ≤ n + N * xs.length → Q (.nw ((acc ++ ys).map u)) ⟨s, m⟩) → lcD γ dYes f vs s Q (xs.map h) (acc.map u) n
  | [], acc, n, _, _, q => by
    have := q [] n .nil (Nat.le_add_right _ _)
    rw [List.append_nil] at this
    exact this
  | x :: xs, acc, n, st, le, q => by
    rw [List.length_cons] at le
    rw [List.length_cons, Nat.mul_add, Nat.mul_one] at st q
    rw [List.map_cons]
    refine lc_cons ?_
    refine st x List.mem_cons_self n (Nat.le_add_right _ _) (fun r ε3 => match r.pub with
      | .sh e => (acc.map u).length < sizeLine ∧ lcD γ dYes f vs s Q (xs.map h) (acc.map u ++ [e]) ε3.c
      | _ => False) fun r ε y hr hy hc => ?_
    rw [hr]
    refine ⟨show (acc.map u).length < 16777216 by rw [List.length_map]; omega, ?_⟩
    have e : acc.map u ++ [u y] = (acc ++ [y]).map u := by rw [List.map_append]; rfl
    rw [e]
    refine lc_draw h u P xs (acc ++ [y]) ε.c (fun z hz m hm => st z (List.mem_cons_of_mem _ hz) m (by omega)) (by rw [List.length_append, List.length_singleton]; omega) fun ys m hys hm => ?_
    rw [List.append_assoc]
    exact q (y :: ys) m (.cons hy hys) (by omega)
end Lp

namespace Lp
open PySem PySem.Spec PyProof.Rows L2
local macro_rules | `(tactic| rfl') => `(tactic| try dsimp only [dVar_, gv_sh, gv_ow, gv_bx, gv_raw, gv_exn, gv_st, dC, dRaw, dOp, dUn, dTest, dTruth, dAnd, dOr, dNot, dYes, dIf, dAndV, dOrV, dNotV, dNotT, dChain, dNil, dCons, dTup, dLst, dats, dCB, dNoP, dPart, dSl, dNext, dBreak, dCont, dNever, dDrop, dRet, dRetN, dIfS, dSetG, dPar, dPar3, dAppend, dAppPop, dSetIx, dExt, dAug, dSet0, dSAdd, dSNotIn, dIter_, gi_l, gi_t, gi_b, dRng1, dRng2, dName, dGNil, dGCons, dGTup, dAsg, dFor, dWhile, dCall, dCallR, dArgs_, ga_f, ga_t, argsOf, dLc, wipeE, dListRg, dIndex, dSortSet, dSortSc, dEnum, dEnA, dZip, dIsi, dIsi2, isaT, φI, φB, φC, φNeg, add_i, add_l, add_t, mul_i, mul_l, φIx, sl_l, sl_t, eq_i, eq_s, eq_l, eq_t, eq_b, eq_n, φIsN, isN_n, isN_b, isN_i, isN_s, isN_l, isN_t, φLen, φList, φTuple, φAbs, φInt, φMax, φIsB, φIsNB, its_l, its_t, rd_sh, rd_nw, rd_br, rp_sh, rp_nw, rp_br, rp_bx, rp_raw, rp_sr, rr_sh, rr_nw, rr_br, ra_sh, ra_br, ra_bx, ra_raw, va_sh, va_nt, va_nf, va_raw, hb_n, hb_sh, hb_bx, hb_raw, hb_br, sh_n, sh_c, tr_n, tr_b, tr_i, tr_l, tr_t, ty_n, ty_b, ty_i, ty_s, ty_l, ty_t, if_ff, if_tt, Env.set, List.getElem?_cons_succ, List.getElem?_cons_zero, List.set_cons_succ, List.set_cons_zero, List.reverse_cons, List.reverse_nil, List.nil_append, List.cons_append, Option.bind_some, ite_true, ite_false])
/-- _law_strewn: _law_box_here, _law_some, _law_left, _law_found -/
def b_law_strewn_2 : DTS := (dSeq (dPar 2 true 3 true (dCB φList (dCons (dVar 1) dNil)) (dLst dNil))
  (dSeq (dWhile (dTest (dOp (φEq true) (dVar 2) (dLst dNil))) (dAppPop 3 2 (dCall p_law_take (dCons (dVar 0) (dCons (dCB φLen (dCons (dVar 2) dNil)) dNil)))))
  (dRet (dVar 3))))
abbrev k_law_strewn_2 : Nat := 2
def p_strewn_int : DSp := fun args c Q => ∃ (d : PyData) (ms : List Int), args = [.bx, .sh d] ∧ PyData.its d = some (dI ms) ∧ ms.length ≤ 100000 ∧ c + 3 * ms.length ≤ 900000000 ∧ ∀ es c', es.Perm ms → c' ≤ c + 3 * ms.length → Q (.nw (dI es)) c'
def p_strewn_tup : DSp := fun args c Q => ∃ (d : PyData) (ms : List (List Int)), args = [.bx, .sh d] ∧ PyData.its d = some (dT ms) ∧ ms.length ≤ 100000 ∧ c + 3 * ms.length ≤ 900000000 ∧ ∀ es c', es.Perm ms → c' ≤ c + 3 * ms.length → Q (.nw (dT es)) c'
def p_law_strewn_2 : DSp := fun args c Q => p_strewn_int args c Q ∨ p_strewn_tup args c Q
theorem mon_law_strewn_2 : MonF p_law_strewn_2 := fun args c A B h z => by
  rcases z with ⟨s, ds, e, h1, h2, h3, q⟩ | ⟨s, ds, e, h1, h2, h3, q⟩
  · exact .inl ⟨s, ds, e, h1, h2, h3, fun r c' a b => h _ _ (q r c' a b)⟩
  · exact .inr ⟨s, ds, e, h1, h2, h3, fun r c' a b => h _ _ (q r c' a b)⟩
theorem ne_nil_eqv {ms : List Int} : PyData.eqv (.list (dI ms)) (.list []) = decide (ms = []) := eqvL ms []
theorem perm_popI {ds es fs : List Int} {i : Nat} (hi : i < ds.length) (hp : (es ++ ds).Perm fs) : ((es ++ [ds[i]]) ++ ds.eraseIdx i).Perm fs := by
  refine List.Perm.trans ?_ hp
  rw [List.append_assoc]
  exact List.Perm.append_left es (erase_perm ds i hi)
theorem strewn2_loop {x : SV} {Δ : DEnds} {fs : List Int} (hfs : fs.length ≤ 100000) :
    ∀ (k : Nat) (ds es : List Int) (c : Nat), ds.length = k → (es ++ ds).Perm fs → c + 3 * ds.length ≤ 900000000 → (∀ es c', es.Perm fs → c' ≤ c + 3 * ds.length → Δ.nx ⟨[.bx, x, .ow [], .ow (dI es)], c'⟩) →
      whileN (dTest (dOp (φEq true) (dVar 2) (dLst dNil))) (dAppPop 3 2 (dCall p_law_take (dCons (dVar 0) (dCons (dCB φLen (dCons (dVar 2) dNil)) dNil)))) Δ (k + 1) ⟨[.bx, x, .ow (dI ds), .ow (dI es)], c⟩
  | k, ds, es, c, hl, hp, hc, q => by
    have s1 : SeqAt.shaped (.list (dI ds)) = true := shL ds
    have s0 : SeqAt.shaped (.list []) = true := shL []
    unfold whileN
    rfl'
    refine ⟨⟨s1, s0⟩, ?_⟩
    rw [ne_nil_eqv]
    refine in_2 (fun hne => ?_) fun hnil => ?_
    · have hlen : (es ++ ds).length = fs.length := hp.length_eq
      rw [List.length_append] at hlen
      have hpos : 0 < ds.length := List.length_pos_iff.mpr hne
      cases k with
      | zero => omega
      | succ k =>
        rw [dI_len]
        refine c_take (by omega) (by omega) (by omega) fun r c' r0 r1 hc' => ?_
        rfl'
        have hr : r.toNat < ds.length := by omega
        have h4 : (ds.eraseIdx r.toNat).length = ds.length - 1 := List.length_eraseIdx_of_lt hr
        refine ⟨r0, by rw [dI_len]; exact r1, by rw [dI_len]; omega, show (dI es).length < 16777216 by rw [dI_len]; omega, .int ds[r.toNat], dI_get (List.getElem?_eq_getElem hr), ?_⟩
        rw [dI_erase, dI_snoc]
        exact strewn2_loop hfs k (ds.eraseIdx r.toNat) (es ++ [ds[r.toNat]]) c' (by omega) (perm_popI hr hp) (by omega) fun es c2 h1 h2 => q es c2 h1 (by omega)
    · subst hnil
      rw [List.append_nil] at hp
      exact q es c hp (by omega)
theorem lay_tupsG : ∀ a : List (List Int), PyData.canLayAll0 (dT a) = true
  | [] => by simp [PyData.canLayAll0]
  | x :: a => by
    show PyData.canLayAll0 (.tuple (dI x) :: dT a) = true
    simp only [PyData.canLayAll0, PyData.canLay0, lay_tupsG a, lay_ints, Bool.and_self]
theorem depth_tupsG : ∀ a : List (List Int), PyData.depthAll (dT a) ≤ 1
  | [] => by simp [PyData.depthAll]
  | x :: a => by
    have := depth_tupsG a
    show PyData.depthAll (.tuple (dI x) :: dT a) ≤ 1
    simp only [PyData.depthAll, PyData.depth, depth_ints]
    omega
theorem shG (a : List (List Int)) : SeqAt.shaped (.list (dT a)) = true := by
  unfold SeqAt.shaped
  have := depth_tupsG a
  simp only [PyData.canLay0, PyData.depth, lay_tupsG, Bool.true_and]
  exact decide_eq_true (by omega)
theorem eqv_nilG : ∀ a : List (List Int), PyData.eqv (.list (dT a)) (.list []) = decide (a = [])
  | [] => by simp [PyData.eqv, PyData.eqvAll]
  | x :: a => by
    show PyData.eqv (.list (.tuple (dI x) :: dT a)) (.list []) = _
    simp [PyData.eqv, PyData.eqvAll]
theorem perm_popG {α : Type} {ds es fs : List α} {i : Nat} (hi : i < ds.length) (hp : (es ++ ds).Perm fs) : ((es ++ [ds[i]]) ++ ds.eraseIdx i).Perm fs := by
  refine List.Perm.trans ?_ hp
  rw [List.append_assoc]
  exact List.Perm.append_left es (erase_perm ds i hi)
theorem erase_mapG : ∀ (l : List (List Int)) (k : Nat), (dT l).eraseIdx k = dT (l.eraseIdx k)
  | [], _ => rfl
  | _ :: _, 0 => rfl
  | x :: l, k + 1 => by
    show .tuple (dI x) :: (dT l).eraseIdx k = .tuple (dI x) :: dT (l.eraseIdx k)
    rw [erase_mapG l k]
theorem dT_lenG (a : List (List Int)) : (dT a).length = a.length := List.length_map ..
theorem strewn3_loop {x : SV} {Δ : DEnds} {fs : List (List Int)} (hfs : fs.length ≤ 100000) :
    ∀ (k : Nat) (ds es : List (List Int)) (c : Nat), ds.length = k → (es ++ ds).Perm fs → c + 3 * ds.length ≤ 900000000 → (∀ es c', es.Perm fs → c' ≤ c + 3 * ds.length → Δ.nx ⟨[.bx, x, .ow [], .ow (dT es)], c'⟩) →
      whileN (dTest (dOp (φEq true) (dVar 2) (dLst dNil))) (dAppPop 3 2 (dCall p_law_take (dCons (dVar 0) (dCons (dCB φLen (dCons (dVar 2) dNil)) dNil)))) Δ (k + 1) ⟨[.bx, x, .ow (dT ds), .ow (dT es)], c⟩
  | k, ds, es, c, hl, hp, hc, q => by
    have s1 : SeqAt.shaped (.list (dT ds)) = true := shG ds
    have s0 : SeqAt.shaped (.list []) = true := shL []
    unfold whileN
    rfl'
    refine ⟨⟨s1, s0⟩, ?_⟩
    rw [eqv_nilG]
    refine in_2 (fun hne => ?_) fun hnil => ?_
    · have hlen : (es ++ ds).length = fs.length := hp.length_eq
      rw [List.length_append] at hlen
      have hpos : 0 < ds.length := List.length_pos_iff.mpr hne
      cases k with
      | zero => omega
      | succ k =>
        rw [dT_lenG]
        refine c_take (by omega) (by omega) (by omega) fun r c' r0 r1 hc' => ?_
        rfl'
        have hr : r.toNat < ds.length := by omega
        have h4 : (ds.eraseIdx r.toNat).length = ds.length - 1 := List.length_eraseIdx_of_lt hr
        refine ⟨r0, by rw [dT_lenG]; exact r1, by rw [dT_lenG]; omega, show (dT es).length < 16777216 by rw [dT_lenG]; omega, .tuple (dI ds[r.toNat]), by show (List.map _ _)[_]? = _; rw [List.getElem?_map, List.getElem?_eq_getElem hr]; rfl, ?_⟩
        have e1 : (dT ds).eraseIdx r.toNat = dT (ds.eraseIdx r.toNat) := by
          exact erase_mapG ds r.toNat
        have e2 : dT es ++ [PyData.tuple (dI ds[r.toNat])] = dT (es ++ [ds[r.toNat]]) := by
          show _ = List.map _ _
          rw [List.map_append]; rfl
        rw [e1, e2]
        exact strewn3_loop hfs k (ds.eraseIdx r.toNat) (es ++ [ds[r.toNat]]) c' (by omega) (perm_popG hr hp) (by omega) fun es c2 h1 h2 => q es c2 h1 (by omega)
    · subst hnil
      rw [List.append_nil] at hp
      exact q es c hp (by omega)
theorem m_law_strewn_2 : ∀ args c Q, p_law_strewn_2 args c Q → defF k_law_strewn_2 b_law_strewn_2 args c Q := by
  rintro _ c Q (⟨d, ms, rfl, h1, h2, h3, q⟩ | ⟨d, ms, rfl, h1, h2, h3, q⟩)
  · show b_law_strewn_2 _ ⟨[.bx, .sh d, .un, .un], c⟩
    unfold b_law_strewn_2
    refine sq_ ?_
    rfl'
    rw [h1]
    rfl'
    refine sq_ ?_
    rfl'
    refine ⟨ms.length + 1, strewn2_loop (es := []) h2 ms.length ms c rfl (List.Perm.refl _) h3 fun es c' hp hc => ?_⟩
    rfl'
    exact q es c' hp hc
  · show b_law_strewn_2 _ ⟨[.bx, .sh d, .un, .un], c⟩
    unfold b_law_strewn_2
    refine sq_ ?_
    rfl'
    rw [h1]
    rfl'
    refine sq_ ?_
    rfl'
    refine ⟨ms.length + 1, strewn3_loop (es := []) h2 ms.length ms c rfl (List.Perm.refl _) h3 fun es c' hp hc => ?_⟩
    rfl'
    exact q es c' hp hc
end Lp

namespace Lp
open PySem PySem.Spec PyProof.Rows L2
local macro_rules | `(tactic| rfl') => `(tactic| try dsimp only [dVar_, gv_sh, gv_ow, gv_bx, gv_raw, gv_exn, gv_st, dC, dRaw, dOp, dUn, dTest, dTruth, dAnd, dOr, dNot, dYes, dIf, dAndV, dOrV, dNotV, dNotT, dChain, dNil, dCons, dTup, dLst, dats, dCB, dNoP, dPart, dSl, dNext, dBreak, dCont, dNever, dDrop, dRet, dRetN, dIfS, dSetG, dPar, dPar3, dAppend, dAppPop, dSetIx, dExt, dAug, dSet0, dSAdd, dSNotIn, dIter_, gi_l, gi_t, gi_b, dRng1, dRng2, dName, dGNil, dGCons, dGTup, dAsg, dFor, dWhile, dCall, dCallR, dArgs_, ga_f, ga_t, argsOf, dLc, wipeE, dListRg, dIndex, dSortSet, dSortSc, dEnum, dEnA, dZip, dIsi, dIsi2, isaT, φI, φB, φC, φNeg, add_i, add_l, add_t, mul_i, mul_l, φIx, sl_l, sl_t, eq_i, eq_s, eq_l, eq_t, eq_b, eq_n, φIsN, isN_n, isN_b, isN_i, isN_s, isN_l, isN_t, φLen, φList, φTuple, φAbs, φInt, φMax, φIsB, φIsNB, its_l, its_t, rd_sh, rd_nw, rd_br, rp_sh, rp_nw, rp_br, rp_bx, rp_raw, rp_sr, rr_sh, rr_nw, rr_br, ra_sh, ra_br, ra_bx, ra_raw, va_sh, va_nt, va_nf, va_raw, hb_n, hb_sh, hb_bx, hb_raw, hb_br, sh_n, sh_c, tr_n, tr_b, tr_i, tr_l, tr_t, ty_n, ty_b, ty_i, ty_s, ty_l, ty_t, if_ff, if_tt, Env.set, List.getElem?_cons_succ, List.getElem?_cons_zero, List.set_cons_succ, List.set_cons_zero, List.reverse_cons, List.reverse_nil, List.nil_append, List.cons_append, Option.bind_some, ite_true, ite_false])
end Lp

namespace Lp
open PySem PySem.Spec PyProof.Rows L2
local macro_rules | `(tactic| rfl') => `(tactic| try dsimp only [dVar_, gv_sh, gv_ow, gv_bx, gv_raw, gv_st, dC, dRaw, dOp, dUn, dTest, dTruth, dAnd, dOr, dNot, dYes, dIf, dAndV, dOrV, dNotV, dNotT, dChain, dNil, dCons, dTup, dLst, dats, dCB, dNoP, dPart, dSl, dNext, dBreak, dCont, dNever, dDrop, dRet, dRetN, dIfS, dSetG, dPar, dPar3, dAppend, dAppPop, dSetIx, dExt, dAug, dSet0, dSAdd, dSNotIn, dIter_, gi_l, gi_t, gi_b, dRng1, dRng2, dName, dGNil, dGCons, dGTup, dAsg, dFor, dWhile, dCall, dCallR, dArgs_, ga_f, ga_t, argsOf, dLc, wipeE, dListRg, dIndex, dSortSet, dSortSc, dEnum, dEnA, dZip, dIsi, dIsi2, isaT, φI, φB, φC, φNeg, add_i, add_l, add_t, mul_i, mul_l, φIx, sl_l, sl_t, eq_i, eq_s, eq_l, eq_t, eq_b, eq_n, φIsN, isN_n, isN_b, isN_i, isN_s, isN_l, isN_t, φLen, φList, φTuple, φAbs, φInt, φMax, φIsB, φIsNB, its_l, its_t, rd_sh, rd_nw, rd_br, rp_sh, rp_nw, rp_br, rp_bx, rp_raw, rp_sr, rr_sh, rr_nw, rr_br, ra_sh, ra_br, ra_bx, ra_raw, va_sh, va_nt, va_nf, va_raw, hb_n, hb_sh, hb_bx, hb_raw, hb_br, sh_n, sh_c, tr_n, tr_b, tr_i, tr_l, tr_t, ty_n, ty_b, ty_i, ty_s, ty_l, ty_t, if_ff, if_tt, Env.set, List.getElem?_cons_succ, List.getElem?_cons_zero, List.set_cons_succ, List.set_cons_zero, List.reverse_cons, List.reverse_nil, List.nil_append, List.cons_append, Option.bind_some, ite_true, ite_false])
theorem route_head {gs : List Int} (h : Stt gs) {p : Int} (hp : Per gs p) : ∃ r, routeF gs p = p :: r := by
  obtain ⟨L, e, nd, hin⟩ := h.rt hp
  have l1 := (route_len h hp).1
  rw [e, itrs_len] at l1
  obtain ⟨M, rfl⟩ : ∃ M, L = M + 1 := ⟨L - 1, by omega⟩
  refine ⟨(itrs gs p (M + 1)).tail, ?_⟩
  rw [e]
  unfold itrs
  rw [List.range_succ_eq_map]; rfl
theorem cyc_route {ns : List Int} (h : Stt ns) {x : Int} (hx : Per ns x) {c : Nat} (cy : Cyc ns x c) : routeF ns x = itrs ns x c := by
  refine (h.rt hx).eq ⟨c, rfl, cy.2.2, ?_⟩
  rw [cy.2.1]
  exact itrs_mem.mpr ⟨0, cy.1, rfl⟩
theorem cyc_ring {ns : List Int} (h : Stt ns) {x : Int} (hx : Per ns x) {c : Nat} (cy : Cyc ns x c) : ringF ns x = turnF (itrs ns x c) := ring_at h.lo hx.1 hx.2 cy
theorem mem_turnF {ms : List Int} {z : Int} : z ∈ turnF ms ↔ z ∈ ms := by
  unfold turnF
  rw [List.mem_append, Or.comm, ← List.mem_append, List.take_append_drop]
theorem on_iff {ns : List Int} (h : Stt ns) {x : Int} (hx : Per ns x) : x ∈ ringF ns x ↔ ∃ c, Cyc ns x c := by
  constructor
  · intro hm
    obtain ⟨c, er, cy, _⟩ := headF_form h.lo hx.1 hx.2
    rw [er] at hm
    exact ⟨c, (cy.at hm).1⟩
  · rintro ⟨c, cy⟩
    rw [cyc_ring h hx cy, mem_turnF]
    exact itrs_mem.mpr ⟨0, cy.1, rfl⟩
/-- all new pointers lie on the old ways -/
def OnWays (ns gs : List Int) : Prop := ∀ x, Per ns x → gt gs x ∈ routeF ns (gt ns x)
theorem own_cyc {ns : List Int} (h : Stt ns) {x : Int} (hx : Per ns x) {d : Nat} (cy : Cyc ns x d) : routeF ns (gt ns x) = itrs ns (gt ns x) d ∧ Cyc ns (gt ns x) d := by
  have hm : gt ns x ∈ itrs ns x d := cy.all 1
  have c2 := (cy.at hm).1
  exact ⟨cyc_route h (h.gt hx) c2, c2⟩
/-- at one ring of the state: K is kept as a ring, the others point at earlier ones -/
def LapOk (gs lap : List Int) : Prop := ∃ K T : List Int, K.Sublist lap ∧ K ≠ [] ∧ T.Nodup ∧ (∀ y, y ∈ T ↔ y ∈ lap) ∧ K = T.take K.length ∧
  (∀ i, i < K.length → gt gs (K.getD i 0) = K.getD ((i + 1) % K.length) 0) ∧ ∀ i, K.length ≤ i → i < T.length → ∃ j, j < i ∧ gt gs (T.getD i 0) = T.getD j 0
theorem LapOk.congr {gs gs' lap : List Int} (h : LapOk gs lap) (e : ∀ x ∈ lap, gt gs' x = gt gs x) : LapOk gs' lap := by
  obtain ⟨K, T, h1, h2, h3, h4, h5, h6, h7⟩ := h
  refine ⟨K, T, h1, h2, h3, h4, h5, fun i hi => ?_, fun i hi hj => ?_⟩
  · rw [← h6 i hi]
    refine e _ (h1.subset ?_)
    rw [List.getD_eq_getElem?_getD, List.getElem?_eq_getElem hi]; exact List.getElem_mem _
  · obtain ⟨j, hj1, hj2⟩ := h7 i hi hj
    refine ⟨j, hj1, ?_⟩
    rw [← hj2]
    refine e _ ((h4 _).mp ?_)
    rw [List.getD_eq_getElem?_getD, List.getElem?_eq_getElem hj]; exact List.getElem_mem _
structure Fut (ns gs : List Int) : Prop where
  st : Stt gs
  len : gs.length = ns.length
  off : ∀ x, Per ns x → x ∉ ringF ns x → gt gs x ∈ routeF ns (gt ns x)
  on : ∀ x, Per ns x → x ∈ ringF ns x → LapOk gs (ringF ns x)
theorem ring_way {ns : List Int} (h : Stt ns) {x z : Int} (hx : Per ns x) (hm : x ∈ ringF ns x) (hz : z ∈ ringF ns x) : z ∈ routeF ns (gt ns x) := by
  obtain ⟨c, cy⟩ := (on_iff h hx).mp hm
  obtain ⟨e1, c2⟩ := own_cyc h hx cy
  rw [cyc_ring h hx cy, mem_turnF] at hz
  rw [e1]
  exact ((cy.at (cy.all 1)).2 z).mpr hz
theorem getD_mem {l : List Int} {i : Nat} (h : i < l.length) : l.getD i 0 ∈ l := by
  rw [List.getD_eq_getElem?_getD, List.getElem?_eq_getElem h]; exact List.getElem_mem _
theorem LapOk.in {gs lap : List Int} (h : LapOk gs lap) {x : Int} (hx : x ∈ lap) : gt gs x ∈ lap := by
  obtain ⟨K, T, h1, h2, h3, h4, h5, h6, h7⟩ := h
  have hT := (h4 x).mpr hx
  obtain ⟨i, hi, rfl⟩ := List.mem_iff_getElem.mp hT
  have e : T.getD i 0 = T[i] := by rw [List.getD_eq_getElem?_getD, List.getElem?_eq_getElem hi]; rfl
  by_cases hk : i < K.length
  · have ek : K.getD i 0 = T[i] := by
      rw [h5, List.getD_eq_getElem?_getD, List.getElem?_take_of_lt hk, List.getElem?_eq_getElem hi]; rfl
    rw [← ek, h6 i hk]
    exact h1.subset (getD_mem (Nat.mod_lt _ (by omega)))
  · obtain ⟨j, hj, ej⟩ := h7 i (by omega) hi
    rw [← e, ej]
    exact (h4 _).mp (getD_mem (by omega))
theorem Fut.ways {ns gs : List Int} (h : Stt ns) (f : Fut ns gs) : OnWays ns gs := fun x hx => by
  by_cases hm : x ∈ ringF ns x
  · exact ring_way h hx hm ((f.on x hx hm).in hm)
  · exact f.off x hx hm
/-- the state itself -/
theorem Fut.self {ns : List Int} (h : Stt ns) : Fut ns ns := by
  refine ⟨h, rfl, fun x hx _ => ?_, fun x hx hm => ?_⟩
  · obtain ⟨r, e⟩ := route_head h (h.gt hx)
    rw [e]; exact List.mem_cons_self
  · obtain ⟨c, er, cy, h0, h1⟩ := headF_form h.lo hx.1 hx.2
    have hl : (ringF ns x).length = c := by rw [er, itrs_len]
    have gD : ∀ i, i < c → (ringF ns x).getD i 0 = itr ns (headF ns x) i := fun i hi => by
      rw [er, List.getD_eq_getElem?_getD, itrs_get hi]; rfl
    have c0 := cy.1
    refine ⟨ringF ns x, ringF ns x, List.Sublist.refl _, ring_ne h hx, by rw [er]; exact cy.2.2, fun _ => Iff.rfl, by rw [List.take_length], fun i hi => ?_, fun i hi hj => by omega⟩
    rw [hl] at hi ⊢
    rw [gD i hi, gD _ (Nat.mod_lt _ c0)]
    show itr ns (headF ns x) (i + 1) = _
    by_cases q : i + 1 = c
    · rw [q, Nat.mod_self, cy.2.1]; rfl
    · rw [Nat.mod_eq_of_lt (by omega)]
end Lp

namespace Lp
open PySem PySem.Spec PyProof.Rows L2
local macro_rules | `(tactic| rfl') => `(tactic| try dsimp only [dVar_, gv_sh, gv_ow, gv_bx, gv_raw, gv_st, dC, dRaw, dOp, dUn, dTest, dTruth, dAnd, dOr, dNot, dYes, dIf, dAndV, dOrV, dNotV, dNotT, dChain, dNil, dCons, dTup, dLst, dats, dCB, dNoP, dPart, dSl, dNext, dBreak, dCont, dNever, dDrop, dRet, dRetN, dIfS, dSetG, dPar, dPar3, dAppend, dAppPop, dSetIx, dExt, dAug, dSet0, dSAdd, dSNotIn, dIter_, gi_l, gi_t, gi_b, dRng1, dRng2, dName, dGNil, dGCons, dGTup, dAsg, dFor, dWhile, dCall, dCallR, dArgs_, ga_f, ga_t, argsOf, dLc, wipeE, dListRg, dIndex, dSortSet, dSortSc, dEnum, dEnA, dZip, dIsi, dIsi2, isaT, φI, φB, φC, φNeg, add_i, add_l, add_t, mul_i, mul_l, φIx, sl_l, sl_t, eq_i, eq_s, eq_l, eq_t, eq_b, eq_n, φIsN, isN_n, isN_b, isN_i, isN_s, isN_l, isN_t, φLen, φList, φTuple, φAbs, φInt, φMax, φIsB, φIsNB, its_l, its_t, rd_sh, rd_nw, rd_br, rp_sh, rp_nw, rp_br, rp_bx, rp_raw, rp_sr, rr_sh, rr_nw, rr_br, ra_sh, ra_br, ra_bx, ra_raw, va_sh, va_nt, va_nf, va_raw, hb_n, hb_sh, hb_bx, hb_raw, hb_br, sh_n, sh_c, tr_n, tr_b, tr_i, tr_l, tr_t, ty_n, ty_b, ty_i, ty_s, ty_l, ty_t, if_ff, if_tt, Env.set, List.getElem?_cons_succ, List.getElem?_cons_zero, List.set_cons_succ, List.set_cons_zero, List.reverse_cons, List.reverse_nil, List.nil_append, List.cons_append, Option.bind_some, ite_true, ite_false])
end Lp

namespace Lp
open PySem PySem.Spec PyProof.Rows L2
local macro_rules | `(tactic| rfl') => `(tactic| try dsimp only [dVar_, gv_sh, gv_ow, gv_bx, gv_raw, gv_exn, gv_st, dC, dRaw, dOp, dUn, dTest, dTruth, dAnd, dOr, dNot, dYes, dIf, dAndV, dOrV, dNotV, dNotT, dChain, dNil, dCons, dTup, dLst, dats, dCB, dNoP, dPart, dSl, dNext, dBreak, dCont, dNever, dDrop, dRet, dRetN, dIfS, dSetG, dPar, dPar3, dAppend, dAppPop, dSetIx, dExt, dAug, dSet0, dSAdd, dSNotIn, dIter_, gi_l, gi_t, gi_b, dRng1, dRng2, dName, dGNil, dGCons, dGTup, dAsg, dFor, dWhile, dCall, dCallR, dArgs_, ga_f, ga_t, argsOf, dLc, wipeE, dListRg, dIndex, dSortSet, dSortSc, dEnum, dEnA, dZip, dIsi, dIsi2, isaT, φI, φB, φC, φNeg, add_i, add_l, add_t, mul_i, mul_l, φIx, sl_l, sl_t, eq_i, eq_s, eq_l, eq_t, eq_b, eq_n, φIsN, isN_n, isN_b, isN_i, isN_s, isN_l, isN_t, φLen, φList, φTuple, φAbs, φInt, φMax, φIsB, φIsNB, its_l, its_t, rd_sh, rd_nw, rd_br, rp_sh, rp_nw, rp_br, rp_bx, rp_raw, rp_sr, rr_sh, rr_nw, rr_br, ra_sh, ra_br, ra_bx, ra_raw, va_sh, va_nt, va_nf, va_raw, hb_n, hb_sh, hb_bx, hb_raw, hb_br, sh_n, sh_c, tr_n, tr_b, tr_i, tr_l, tr_t, ty_n, ty_b, ty_i, ty_s, ty_l, ty_t, if_ff, if_tt, Env.set, List.getElem?_cons_succ, List.getElem?_cons_zero, List.set_cons_succ, List.set_cons_zero, List.reverse_cons, List.reverse_nil, List.nil_append, List.cons_append, Option.bind_some, ite_true, ite_false])
end Lp

namespace Lp
open PySem PySem.Spec PyProof.Rows L2
local macro_rules | `(tactic| rfl') => `(tactic| try dsimp only [dVar_, gv_sh, gv_ow, gv_bx, gv_raw, gv_st, dC, dRaw, dOp, dUn, dTest, dTruth, dAnd, dOr, dNot, dYes, dIf, dAndV, dOrV, dNotV, dNotT, dChain, dNil, dCons, dTup, dLst, dats, dCB, dNoP, dPart, dSl, dNext, dBreak, dCont, dNever, dDrop, dRet, dRetN, dIfS, dSetG, dPar, dPar3, dAppend, dAppPop, dSetIx, dExt, dAug, dSet0, dSAdd, dSNotIn, dIter_, gi_l, gi_t, gi_b, dRng1, dRng2, dName, dGNil, dGCons, dGTup, dAsg, dFor, dWhile, dCall, dCallR, dArgs_, ga_f, ga_t, argsOf, dLc, wipeE, dListRg, dIndex, dSortSet, dSortSc, dEnum, dEnA, dZip, dIsi, dIsi2, isaT, φI, φB, φC, φNeg, add_i, add_l, add_t, mul_i, mul_l, φIx, sl_l, sl_t, eq_i, eq_s, eq_l, eq_t, eq_b, eq_n, φIsN, isN_n, isN_b, isN_i, isN_s, isN_l, isN_t, φLen, φList, φTuple, φAbs, φInt, φMax, φIsB, φIsNB, its_l, its_t, rd_sh, rd_nw, rd_br, rp_sh, rp_nw, rp_br, rp_bx, rp_raw, rp_sr, rr_sh, rr_nw, rr_br, ra_sh, ra_br, ra_bx, ra_raw, va_sh, va_nt, va_nf, va_raw, hb_n, hb_sh, hb_bx, hb_raw, hb_br, sh_n, sh_c, tr_n, tr_b, tr_i, tr_l, tr_t, ty_n, ty_b, ty_i, ty_s, ty_l, ty_t, if_ff, if_tt, Env.set, List.getElem?_cons_succ, List.getElem?_cons_zero, List.set_cons_succ, List.set_cons_zero, List.reverse_cons, List.reverse_nil, List.nil_append, List.cons_append, Option.bind_some, ite_true, ite_false])
end Lp

namespace Lp
open PySem PySem.Spec PyProof.Rows L2
local macro_rules | `(tactic| rfl') => `(tactic| try dsimp only [dVar_, gv_sh, gv_ow, gv_bx, gv_raw, gv_st, dC, dRaw, dOp, dUn, dTest, dTruth, dAnd, dOr, dNot, dYes, dIf, dAndV, dOrV, dNotV, dNotT, dChain, dNil, dCons, dTup, dLst, dats, dCB, dNoP, dPart, dSl, dNext, dBreak, dCont, dNever, dDrop, dRet, dRetN, dIfS, dSetG, dPar, dPar3, dAppend, dAppPop, dSetIx, dExt, dAug, dSet0, dSAdd, dSNotIn, dIter_, gi_l, gi_t, gi_b, dRng1, dRng2, dName, dGNil, dGCons, dGTup, dAsg, dFor, dWhile, dCall, dCallR, dArgs_, ga_f, ga_t, argsOf, dLc, wipeE, dListRg, dIndex, dSortSet, dSortSc, dEnum, dEnA, dZip, dIsi, dIsi2, isaT, φI, φB, φC, φNeg, add_i, add_l, add_t, mul_i, mul_l, φIx, sl_l, sl_t, eq_i, eq_s, eq_l, eq_t, eq_b, eq_n, φIsN, isN_n, isN_b, isN_i, isN_s, isN_l, isN_t, φLen, φList, φTuple, φAbs, φInt, φMax, φIsB, φIsNB, its_l, its_t, rd_sh, rd_nw, rd_br, rp_sh, rp_nw, rp_br, rp_bx, rp_raw, rp_sr, rr_sh, rr_nw, rr_br, ra_sh, ra_br, ra_bx, ra_raw, va_sh, va_nt, va_nf, va_raw, hb_n, hb_sh, hb_bx, hb_raw, hb_br, sh_n, sh_c, tr_n, tr_b, tr_i, tr_l, tr_t, ty_n, ty_b, ty_i, ty_s, ty_l, ty_t, if_ff, if_tt, Env.set, List.getElem?_cons_succ, List.getElem?_cons_zero, List.set_cons_succ, List.set_cons_zero, List.reverse_cons, List.reverse_nil, List.nil_append, List.cons_append, Option.bind_some, ite_true, ite_false])
theorem Stt.call {ns : List Int} (h : Stt ns) {w : Int} (hw : Per ns w) : Stt (call1 ns w) := by
  have e := call1_len ns w
  exact ⟨by rw [e]; exact call1_low h.lo rfl hw.1 hw.2, by rw [e]; exact h.le, by rw [e]; exact h.ge⟩
theorem gt_set {gs : List Int} {w x v : Int} (w0 : 0 ≤ w) (w1 : w < (gs.length : Int)) (x0 : 0 ≤ x) : gt (gs.set w.toNat v) x = if x = w then v else gt gs x := by
  unfold gt
  rw [List.getD_eq_getElem?_getD, List.getD_eq_getElem?_getD, List.getElem?_set]
  by_cases e : x = w
  · subst e
    rw [if_pos rfl, if_pos rfl, if_pos (by omega)]; rfl
  · rw [if_neg (by omega), if_neg e]
section
variable {x0 x1 x2 x3 x4 x5 x6 x7 x8 : SV} {Δ : DEnds}
/-- the others of the lap, one after another -/
structure Tied (n : Nat) (g0 gs T : List Int) (k : Nat) : Prop where
  len : gs.length = n
  lo : Low n gs
  nd : T.Nodup
  per : ∀ z ∈ T, 0 ≤ z ∧ z < (n : Int)
  kl : k ≤ T.length
  k0 : 0 < k
  hook : ∀ i, k ≤ i → i < T.length → ∃ j, j < i ∧ gt gs (T.getD i 0) = T.getD j 0
  same : ∀ x, 0 ≤ x → x ∉ T.drop k → gt gs x = gt g0 x
theorem Tied.snoc {n : Nat} {g0 gs T : List Int} {k : Nat} (h : Tied n g0 gs T k) {w v : Int} (hw : w ∉ T) (w0 : 0 ≤ w) (w1 : w < (n : Int)) (hv : v ∈ T) : Tied n g0 (gs.set w.toNat v) (T ++ [w]) k := by
  have wl : w < (gs.length : Int) := by rw [h.len]; exact w1
  have vp := h.per v hv
  refine ⟨by rw [List.length_set]; exact h.len, h.lo.set vp.1 vp.2, Nodup.snoc h.nd hw, fun z hz => ?_, by rw [List.length_append]; have := h.kl; omega, h.k0, fun i hi ht => ?_, fun x x0 hx => ?_⟩
  · rcases List.mem_append.mp hz with q | q
    · exact h.per z q
    · rw [List.mem_singleton.mp q]; exact ⟨w0, w1⟩
  · rw [List.length_append, List.length_singleton] at ht
    by_cases q : i < T.length
    · obtain ⟨j, hj, e⟩ := h.hook i hi q
      have m1 : T.getD i 0 ∈ T := getD_mem q
      have g1 : (T ++ [w]).getD i 0 = T.getD i 0 := by rw [List.getD_eq_getElem?_getD, List.getD_eq_getElem?_getD, List.getElem?_append_left q]
      have g2 : (T ++ [w]).getD j 0 = T.getD j 0 := by rw [List.getD_eq_getElem?_getD, List.getD_eq_getElem?_getD, List.getElem?_append_left (by omega)]
      refine ⟨j, hj, ?_⟩
      rw [g1, g2, gt_set w0 wl (h.per _ m1).1, if_neg (fun z => hw (by rw [← z]; exact m1)), e]
    · have e : i = T.length := by omega
      obtain ⟨j, hj, ej⟩ := List.mem_iff_getElem.mp hv
      have g1 : (T ++ [w]).getD i 0 = w := by rw [e, List.getD_eq_getElem?_getD, List.getElem?_concat_length]; rfl
      have g2 : (T ++ [w]).getD j 0 = v := by rw [List.getD_eq_getElem?_getD, List.getElem?_append_left hj, List.getElem?_eq_getElem hj, ej]; rfl
      refine ⟨j, by omega, ?_⟩
      rw [g1, g2, gt_set w0 wl w0, if_pos rfl]
  · have hk := h.kl
    rw [List.drop_append_of_le_length hk] at hx
    have hx1 : x ∉ T.drop k := fun z => hx (List.mem_append_left _ z)
    have hx2 : x ≠ w := fun z => hx (List.mem_append_right _ (by rw [z]; exact List.mem_singleton.mpr rfl))
    rw [gt_set w0 wl x0, if_neg hx2, h.same x x0 hx1]
end
end Lp

namespace Lp
open PySem PySem.Spec PyProof.Rows L2
local macro_rules | `(tactic| rfl') => `(tactic| try dsimp only [dVar_, gv_sh, gv_ow, gv_bx, gv_raw, gv_exn, gv_st, dC, dRaw, dOp, dUn, dTest, dTruth, dAnd, dOr, dNot, dYes, dIf, dAndV, dOrV, dNotV, dNotT, dChain, dNil, dCons, dTup, dLst, dats, dCB, dNoP, dPart, dSl, dNext, dBreak, dCont, dNever, dDrop, dRet, dRetN, dIfS, dSetG, dPar, dPar3, dAppend, dAppPop, dSetIx, dExt, dAug, dSet0, dSAdd, dSNotIn, dIter_, gi_l, gi_t, gi_b, dRng1, dRng2, dName, dGNil, dGCons, dGTup, dAsg, dFor, dWhile, dCall, dCallR, dArgs_, ga_f, ga_t, argsOf, dLc, wipeE, dListRg, dIndex, dSortSet, dSortSc, dEnum, dEnA, dZip, dIsi, dIsi2, isaT, φI, φB, φC, φNeg, add_i, add_l, add_t, mul_i, mul_l, φIx, sl_l, sl_t, eq_i, eq_s, eq_l, eq_t, eq_b, eq_n, φIsN, isN_n, isN_b, isN_i, isN_s, isN_l, isN_t, φLen, φList, φTuple, φAbs, φInt, φMax, φIsB, φIsNB, its_l, its_t, rd_sh, rd_nw, rd_br, rp_sh, rp_nw, rp_br, rp_bx, rp_raw, rp_sr, rr_sh, rr_nw, rr_br, ra_sh, ra_br, ra_bx, ra_raw, va_sh, va_nt, va_nf, va_raw, hb_n, hb_sh, hb_bx, hb_raw, hb_br, sh_n, sh_c, tr_n, tr_b, tr_i, tr_l, tr_t, ty_n, ty_b, ty_i, ty_s, ty_l, ty_t, if_ff, if_tt, Env.set, List.getElem?_cons_succ, List.getElem?_cons_zero, List.set_cons_succ, List.set_cons_zero, List.reverse_cons, List.reverse_nil, List.nil_append, List.cons_append, Option.bind_some, ite_true, ite_false])
end Lp

namespace Lp
open PySem PySem.Spec PyProof.Rows L2
local macro_rules | `(tactic| rfl') => `(tactic| try dsimp only [dVar_, gv_sh, gv_ow, gv_bx, gv_raw, gv_st, dC, dRaw, dOp, dUn, dTest, dTruth, dAnd, dOr, dNot, dYes, dIf, dAndV, dOrV, dNotV, dNotT, dChain, dNil, dCons, dTup, dLst, dats, dCB, dNoP, dPart, dSl, dNext, dBreak, dCont, dNever, dDrop, dRet, dRetN, dIfS, dSetG, dPar, dPar3, dAppend, dAppPop, dSetIx, dExt, dAug, dSet0, dSAdd, dSNotIn, dIter_, gi_l, gi_t, gi_b, dRng1, dRng2, dName, dGNil, dGCons, dGTup, dAsg, dFor, dWhile, dCall, dCallR, dArgs_, ga_f, ga_t, argsOf, dLc, wipeE, dListRg, dIndex, dSortSet, dSortSc, dEnum, dEnA, dZip, dIsi, dIsi2, isaT, φI, φB, φC, φNeg, add_i, add_l, add_t, mul_i, mul_l, φIx, sl_l, sl_t, eq_i, eq_s, eq_l, eq_t, eq_b, eq_n, φIsN, isN_n, isN_b, isN_i, isN_s, isN_l, isN_t, φLen, φList, φTuple, φAbs, φInt, φMax, φIsB, φIsNB, its_l, its_t, rd_sh, rd_nw, rd_br, rp_sh, rp_nw, rp_br, rp_bx, rp_raw, rp_sr, rr_sh, rr_nw, rr_br, ra_sh, ra_br, ra_bx, ra_raw, va_sh, va_nt, va_nf, va_raw, hb_n, hb_sh, hb_bx, hb_raw, hb_br, sh_n, sh_c, tr_n, tr_b, tr_i, tr_l, tr_t, ty_n, ty_b, ty_i, ty_s, ty_l, ty_t, if_ff, if_tt, Env.set, List.getElem?_cons_succ, List.getElem?_cons_zero, List.set_cons_succ, List.set_cons_zero, List.reverse_cons, List.reverse_nil, List.nil_append, List.cons_append, Option.bind_some, ite_true, ite_false])
end Lp

namespace Lp
open PySem PySem.Spec PyProof.Rows L2
local macro_rules | `(tactic| rfl') => `(tactic| try dsimp only [dVar_, gv_sh, gv_ow, gv_bx, gv_raw, gv_st, dC, dRaw, dOp, dUn, dTest, dTruth, dAnd, dOr, dNot, dYes, dIf, dAndV, dOrV, dNotV, dNotT, dChain, dNil, dCons, dTup, dLst, dats, dCB, dNoP, dPart, dSl, dNext, dBreak, dCont, dNever, dDrop, dRet, dRetN, dIfS, dSetG, dPar, dPar3, dAppend, dAppPop, dSetIx, dExt, dAug, dSet0, dSAdd, dSNotIn, dIter_, gi_l, gi_t, gi_b, dRng1, dRng2, dName, dGNil, dGCons, dGTup, dAsg, dFor, dWhile, dCall, dCallR, dArgs_, ga_f, ga_t, argsOf, dLc, wipeE, dListRg, dIndex, dSortSet, dSortSc, dEnum, dEnA, dZip, dIsi, dIsi2, isaT, φI, φB, φC, φNeg, add_i, add_l, add_t, mul_i, mul_l, φIx, sl_l, sl_t, eq_i, eq_s, eq_l, eq_t, eq_b, eq_n, φIsN, isN_n, isN_b, isN_i, isN_s, isN_l, isN_t, φLen, φList, φTuple, φAbs, φInt, φMax, φIsB, φIsNB, its_l, its_t, rd_sh, rd_nw, rd_br, rp_sh, rp_nw, rp_br, rp_bx, rp_raw, rp_sr, rr_sh, rr_nw, rr_br, ra_sh, ra_br, ra_bx, ra_raw, va_sh, va_nt, va_nf, va_raw, hb_n, hb_sh, hb_bx, hb_raw, hb_br, sh_n, sh_c, tr_n, tr_b, tr_i, tr_l, tr_t, ty_n, ty_b, ty_i, ty_s, ty_l, ty_t, if_ff, if_tt, Env.set, List.getElem?_cons_succ, List.getElem?_cons_zero, List.set_cons_succ, List.set_cons_zero, List.reverse_cons, List.reverse_nil, List.nil_append, List.cons_append, Option.bind_some, ite_true, ite_false])
section
variable {ns : List Int} {w : Int} (h : Stt ns) (hw : Per ns w) (nw : gt ns w ≠ w)
include h hw
include nw
end
/-- people but w -/
def PerW (ns : List Int) (w : Int) (x : Int) : Prop := Per ns x ∧ x ≠ w
section
variable {gs : List Int} {w : Int}
variable (sg : Stt gs) (two : 2 ≤ gs.length) (hw : Per gs w) (no : ∀ x, PerW gs w x → gt gs x ≠ w)
include sg two hw no
end
end Lp

namespace Lp
open PySem PySem.Spec PyProof.Rows L2
local macro_rules | `(tactic| rfl') => `(tactic| try dsimp only [dVar_, gv_sh, gv_ow, gv_bx, gv_raw, gv_st, dC, dRaw, dOp, dUn, dTest, dTruth, dAnd, dOr, dNot, dYes, dIf, dAndV, dOrV, dNotV, dNotT, dChain, dNil, dCons, dTup, dLst, dats, dCB, dNoP, dPart, dSl, dNext, dBreak, dCont, dNever, dDrop, dRet, dRetN, dIfS, dSetG, dPar, dPar3, dAppend, dAppPop, dSetIx, dExt, dAug, dSet0, dSAdd, dSNotIn, dIter_, gi_l, gi_t, gi_b, dRng1, dRng2, dName, dGNil, dGCons, dGTup, dAsg, dFor, dWhile, dCall, dCallR, dArgs_, ga_f, ga_t, argsOf, dLc, wipeE, dListRg, dIndex, dSortSet, dSortSc, dEnum, dEnA, dZip, dIsi, dIsi2, isaT, φI, φB, φC, φNeg, add_i, add_l, add_t, mul_i, mul_l, φIx, sl_l, sl_t, eq_i, eq_s, eq_l, eq_t, eq_b, eq_n, φIsN, isN_n, isN_b, isN_i, isN_s, isN_l, isN_t, φLen, φList, φTuple, φAbs, φInt, φMax, φIsB, φIsNB, its_l, its_t, rd_sh, rd_nw, rd_br, rp_sh, rp_nw, rp_br, rp_bx, rp_raw, rp_sr, rr_sh, rr_nw, rr_br, ra_sh, ra_br, ra_bx, ra_raw, va_sh, va_nt, va_nf, va_raw, hb_n, hb_sh, hb_bx, hb_raw, hb_br, sh_n, sh_c, tr_n, tr_b, tr_i, tr_l, tr_t, ty_n, ty_b, ty_i, ty_s, ty_l, ty_t, if_ff, if_tt, Env.set, List.getElem?_cons_succ, List.getElem?_cons_zero, List.set_cons_succ, List.set_cons_zero, List.reverse_cons, List.reverse_nil, List.nil_append, List.cons_append, Option.bind_some, ite_true, ite_false])
end Lp

namespace Lp
open PySem PySem.Spec PyProof.Rows L2
local macro_rules | `(tactic| rfl') => `(tactic| try dsimp only [dVar_, gv_sh, gv_ow, gv_bx, gv_raw, gv_st, dC, dRaw, dOp, dUn, dTest, dTruth, dAnd, dOr, dNot, dYes, dIf, dAndV, dOrV, dNotV, dNotT, dChain, dNil, dCons, dTup, dLst, dats, dCB, dNoP, dPart, dSl, dNext, dBreak, dCont, dNever, dDrop, dRet, dRetN, dIfS, dSetG, dPar, dPar3, dAppend, dAppPop, dSetIx, dExt, dAug, dSet0, dSAdd, dSNotIn, dIter_, gi_l, gi_t, gi_b, dRng1, dRng2, dName, dGNil, dGCons, dGTup, dAsg, dFor, dWhile, dCall, dCallR, dArgs_, ga_f, ga_t, argsOf, dLc, wipeE, dListRg, dIndex, dSortSet, dSortSc, dEnum, dEnA, dZip, dIsi, dIsi2, isaT, φI, φB, φC, φNeg, add_i, add_l, add_t, mul_i, mul_l, φIx, sl_l, sl_t, eq_i, eq_s, eq_l, eq_t, eq_b, eq_n, φIsN, isN_n, isN_b, isN_i, isN_s, isN_l, isN_t, φLen, φList, φTuple, φAbs, φInt, φMax, φIsB, φIsNB, its_l, its_t, rd_sh, rd_nw, rd_br, rp_sh, rp_nw, rp_br, rp_bx, rp_raw, rp_sr, rr_sh, rr_nw, rr_br, ra_sh, ra_br, ra_bx, ra_raw, va_sh, va_nt, va_nf, va_raw, hb_n, hb_sh, hb_bx, hb_raw, hb_br, sh_n, sh_c, tr_n, tr_b, tr_i, tr_l, tr_t, ty_n, ty_b, ty_i, ty_s, ty_l, ty_t, if_ff, if_tt, Env.set, List.getElem?_cons_succ, List.getElem?_cons_zero, List.set_cons_succ, List.set_cons_zero, List.reverse_cons, List.reverse_nil, List.nil_append, List.cons_append, Option.bind_some, ite_true, ite_false])
end Lp

namespace Lp
open PySem PySem.Spec PyProof.Rows L2
local macro_rules | `(tactic| rfl') => `(tactic| try dsimp only [dVar_, gv_sh, gv_ow, gv_bx, gv_raw, gv_st, dC, dRaw, dOp, dUn, dTest, dTruth, dAnd, dOr, dNot, dYes, dIf, dAndV, dOrV, dNotV, dNotT, dChain, dNil, dCons, dTup, dLst, dats, dCB, dNoP, dPart, dSl, dNext, dBreak, dCont, dNever, dDrop, dRet, dRetN, dIfS, dSetG, dPar, dPar3, dAppend, dAppPop, dSetIx, dExt, dAug, dSet0, dSAdd, dSNotIn, dIter_, gi_l, gi_t, gi_b, dRng1, dRng2, dName, dGNil, dGCons, dGTup, dAsg, dFor, dWhile, dCall, dCallR, dArgs_, ga_f, ga_t, argsOf, dLc, wipeE, dListRg, dIndex, dSortSet, dSortSc, dEnum, dEnA, dZip, dIsi, dIsi2, isaT, φI, φB, φC, φNeg, add_i, add_l, add_t, mul_i, mul_l, φIx, sl_l, sl_t, eq_i, eq_s, eq_l, eq_t, eq_b, eq_n, φIsN, isN_n, isN_b, isN_i, isN_s, isN_l, isN_t, φLen, φList, φTuple, φAbs, φInt, φMax, φIsB, φIsNB, its_l, its_t, rd_sh, rd_nw, rd_br, rp_sh, rp_nw, rp_br, rp_bx, rp_raw, rp_sr, rr_sh, rr_nw, rr_br, ra_sh, ra_br, ra_bx, ra_raw, va_sh, va_nt, va_nf, va_raw, hb_n, hb_sh, hb_bx, hb_raw, hb_br, sh_n, sh_c, tr_n, tr_b, tr_i, tr_l, tr_t, ty_n, ty_b, ty_i, ty_s, ty_l, ty_t, if_ff, if_tt, Env.set, List.getElem?_cons_succ, List.getElem?_cons_zero, List.set_cons_succ, List.set_cons_zero, List.reverse_cons, List.reverse_nil, List.nil_append, List.cons_append, Option.bind_some, ite_true, ite_false])
end Lp

namespace Lp
open PySem PySem.Spec PyProof.Rows L2
local macro_rules | `(tactic| rfl') => `(tactic| try dsimp only [dVar_, gv_sh, gv_ow, gv_bx, gv_raw, gv_st, dC, dRaw, dOp, dUn, dTest, dTruth, dAnd, dOr, dNot, dYes, dIf, dAndV, dOrV, dNotV, dNotT, dChain, dNil, dCons, dTup, dLst, dats, dCB, dNoP, dPart, dSl, dNext, dBreak, dCont, dNever, dDrop, dRet, dRetN, dIfS, dSetG, dPar, dPar3, dAppend, dAppPop, dSetIx, dExt, dAug, dSet0, dSAdd, dSNotIn, dIter_, gi_l, gi_t, gi_b, dRng1, dRng2, dName, dGNil, dGCons, dGTup, dAsg, dFor, dWhile, dCall, dCallR, dArgs_, ga_f, ga_t, argsOf, dLc, wipeE, dListRg, dIndex, dSortSet, dSortSc, dEnum, dEnA, dZip, dIsi, dIsi2, isaT, φI, φB, φC, φNeg, add_i, add_l, add_t, mul_i, mul_l, φIx, sl_l, sl_t, eq_i, eq_s, eq_l, eq_t, eq_b, eq_n, φIsN, isN_n, isN_b, isN_i, isN_s, isN_l, isN_t, φLen, φList, φTuple, φAbs, φInt, φMax, φIsB, φIsNB, its_l, its_t, rd_sh, rd_nw, rd_br, rp_sh, rp_nw, rp_br, rp_bx, rp_raw, rp_sr, rr_sh, rr_nw, rr_br, ra_sh, ra_br, ra_bx, ra_raw, va_sh, va_nt, va_nf, va_raw, hb_n, hb_sh, hb_bx, hb_raw, hb_br, sh_n, sh_c, tr_n, tr_b, tr_i, tr_l, tr_t, ty_n, ty_b, ty_i, ty_s, ty_l, ty_t, if_ff, if_tt, Env.set, List.getElem?_cons_succ, List.getElem?_cons_zero, List.set_cons_succ, List.set_cons_zero, List.reverse_cons, List.reverse_nil, List.nil_append, List.cons_append, Option.bind_some, ite_true, ite_false])
section
variable {a : List Int} {w : Int} (h : Stt a) (hw : Per a w)
include h hw
end
section
variable {a : List Int} {w : Int} (h : Stt a) (hw : Per a w)
include h hw
end
end Lp

namespace Lp
open PySem PySem.Spec PyProof.Rows L2
local macro_rules | `(tactic| rfl') => `(tactic| try dsimp only [dVar_, gv_sh, gv_ow, gv_bx, gv_raw, gv_st, dC, dRaw, dOp, dUn, dTest, dTruth, dAnd, dOr, dNot, dYes, dIf, dAndV, dOrV, dNotV, dNotT, dChain, dNil, dCons, dTup, dLst, dats, dCB, dNoP, dPart, dSl, dNext, dBreak, dCont, dNever, dDrop, dRet, dRetN, dIfS, dSetG, dPar, dPar3, dAppend, dAppPop, dSetIx, dExt, dAug, dSet0, dSAdd, dSNotIn, dIter_, gi_l, gi_t, gi_b, dRng1, dRng2, dName, dGNil, dGCons, dGTup, dAsg, dFor, dWhile, dCall, dCallR, dArgs_, ga_f, ga_t, argsOf, dLc, wipeE, dListRg, dIndex, dSortSet, dSortSc, dEnum, dEnA, dZip, dIsi, dIsi2, isaT, φI, φB, φC, φNeg, add_i, add_l, add_t, mul_i, mul_l, φIx, sl_l, sl_t, eq_i, eq_s, eq_l, eq_t, eq_b, eq_n, φIsN, isN_n, isN_b, isN_i, isN_s, isN_l, isN_t, φLen, φList, φTuple, φAbs, φInt, φMax, φIsB, φIsNB, its_l, its_t, rd_sh, rd_nw, rd_br, rp_sh, rp_nw, rp_br, rp_bx, rp_raw, rp_sr, rr_sh, rr_nw, rr_br, ra_sh, ra_br, ra_bx, ra_raw, va_sh, va_nt, va_nf, va_raw, hb_n, hb_sh, hb_bx, hb_raw, hb_br, sh_n, sh_c, tr_n, tr_b, tr_i, tr_l, tr_t, ty_n, ty_b, ty_i, ty_s, ty_l, ty_t, if_ff, if_tt, Env.set, List.getElem?_cons_succ, List.getElem?_cons_zero, List.set_cons_succ, List.set_cons_zero, List.reverse_cons, List.reverse_nil, List.nil_append, List.cons_append, Option.bind_some, ite_true, ite_false])
section
variable {a : List Int} {w : Int} (h : Stt a) (hw : Per a w)
include h hw
end
end Lp

namespace Lp
open PySem PySem.Spec PyProof.Rows L2
local macro_rules | `(tactic| rfl') => `(tactic| try dsimp only [dVar_, gv_sh, gv_ow, gv_bx, gv_raw, gv_st, dC, dRaw, dOp, dUn, dTest, dTruth, dAnd, dOr, dNot, dYes, dIf, dAndV, dOrV, dNotV, dNotT, dChain, dNil, dCons, dTup, dLst, dats, dCB, dNoP, dPart, dSl, dNext, dBreak, dCont, dNever, dDrop, dRet, dRetN, dIfS, dSetG, dPar, dPar3, dAppend, dAppPop, dSetIx, dExt, dAug, dSet0, dSAdd, dSNotIn, dIter_, gi_l, gi_t, gi_b, dRng1, dRng2, dName, dGNil, dGCons, dGTup, dAsg, dFor, dWhile, dCall, dCallR, dArgs_, ga_f, ga_t, argsOf, dLc, wipeE, dListRg, dIndex, dSortSet, dSortSc, dEnum, dEnA, dZip, dIsi, dIsi2, isaT, φI, φB, φC, φNeg, add_i, add_l, add_t, mul_i, mul_l, φIx, sl_l, sl_t, eq_i, eq_s, eq_l, eq_t, eq_b, eq_n, φIsN, isN_n, isN_b, isN_i, isN_s, isN_l, isN_t, φLen, φList, φTuple, φAbs, φInt, φMax, φIsB, φIsNB, its_l, its_t, rd_sh, rd_nw, rd_br, rp_sh, rp_nw, rp_br, rp_bx, rp_raw, rp_sr, rr_sh, rr_nw, rr_br, ra_sh, ra_br, ra_bx, ra_raw, va_sh, va_nt, va_nf, va_raw, hb_n, hb_sh, hb_bx, hb_raw, hb_br, sh_n, sh_c, tr_n, tr_b, tr_i, tr_l, tr_t, ty_n, ty_b, ty_i, ty_s, ty_l, ty_t, if_ff, if_tt, Env.set, List.getElem?_cons_succ, List.getElem?_cons_zero, List.set_cons_succ, List.set_cons_zero, List.reverse_cons, List.reverse_nil, List.nil_append, List.cons_append, Option.bind_some, ite_true, ite_false])
end Lp

namespace Lp
open PySem PySem.Spec PyProof.Rows L2
local macro_rules | `(tactic| rfl') => `(tactic| try dsimp only [dVar_, gv_sh, gv_ow, gv_bx, gv_raw, gv_exn, gv_st, dC, dRaw, dOp, dUn, dTest, dTruth, dAnd, dOr, dNot, dYes, dIf, dAndV, dOrV, dNotV, dNotT, dChain, dNil, dCons, dTup, dLst, dats, dCB, dNoP, dPart, dSl, dNext, dBreak, dCont, dNever, dDrop, dRet, dRetN, dIfS, dSetG, dPar, dPar3, dAppend, dAppPop, dSetIx, dExt, dAug, dSet0, dSAdd, dSNotIn, dIter_, gi_l, gi_t, gi_b, dRng1, dRng2, dName, dGNil, dGCons, dGTup, dAsg, dFor, dWhile, dCall, dCallR, dArgs_, ga_f, ga_t, argsOf, dLc, wipeE, dListRg, dIndex, dSortSet, dSortSc, dEnum, dEnA, dZip, dIsi, dIsi2, isaT, φI, φB, φC, φNeg, add_i, add_l, add_t, mul_i, mul_l, φIx, sl_l, sl_t, eq_i, eq_s, eq_l, eq_t, eq_b, eq_n, φIsN, isN_n, isN_b, isN_i, isN_s, isN_l, isN_t, φLen, φList, φTuple, φAbs, φInt, φMax, φIsB, φIsNB, its_l, its_t, rd_sh, rd_nw, rd_br, rp_sh, rp_nw, rp_br, rp_bx, rp_raw, rp_sr, rr_sh, rr_nw, rr_br, ra_sh, ra_br, ra_bx, ra_raw, va_sh, va_nt, va_nf, va_raw, hb_n, hb_sh, hb_bx, hb_raw, hb_br, sh_n, sh_c, tr_n, tr_b, tr_i, tr_l, tr_t, ty_n, ty_b, ty_i, ty_s, ty_l, ty_t, if_ff, if_tt, Env.set, List.getElem?_cons_succ, List.getElem?_cons_zero, List.set_cons_succ, List.set_cons_zero, List.reverse_cons, List.reverse_nil, List.nil_append, List.cons_append, Option.bind_some, ite_true, ite_false])
end Lp

namespace Lp
open PySem PySem.Spec PyProof.Rows L2
local macro_rules | `(tactic| rfl') => `(tactic| try dsimp only [dVar_, gv_sh, gv_ow, gv_bx, gv_raw, gv_exn, gv_st, dC, dRaw, dOp, dUn, dTest, dTruth, dAnd, dOr, dNot, dYes, dIf, dAndV, dOrV, dNotV, dNotT, dChain, dNil, dCons, dTup, dLst, dats, dCB, dNoP, dPart, dSl, dNext, dBreak, dCont, dNever, dDrop, dRet, dRetN, dIfS, dSetG, dPar, dPar3, dAppend, dAppPop, dSetIx, dExt, dAug, dSet0, dSAdd, dSNotIn, dIter_, gi_l, gi_t, gi_b, dRng1, dRng2, dName, dGNil, dGCons, dGTup, dAsg, dFor, dWhile, dCall, dCallR, dArgs_, ga_f, ga_t, argsOf, dLc, wipeE, dListRg, dIndex, dSortSet, dSortSc, dEnum, dEnA, dZip, dIsi, dIsi2, isaT, φI, φB, φC, φNeg, add_i, add_l, add_t, mul_i, mul_l, φIx, sl_l, sl_t, eq_i, eq_s, eq_l, eq_t, eq_b, eq_n, φIsN, isN_n, isN_b, isN_i, isN_s, isN_l, isN_t, φLen, φList, φTuple, φAbs, φInt, φMax, φIsB, φIsNB, its_l, its_t, rd_sh, rd_nw, rd_br, rp_sh, rp_nw, rp_br, rp_bx, rp_raw, rp_sr, rr_sh, rr_nw, rr_br, ra_sh, ra_br, ra_bx, ra_raw, va_sh, va_nt, va_nf, va_raw, hb_n, hb_sh, hb_bx, hb_raw, hb_br, sh_n, sh_c, tr_n, tr_b, tr_i, tr_l, tr_t, ty_n, ty_b, ty_i, ty_s, ty_l, ty_t, if_ff, if_tt, Env.set, List.getElem?_cons_succ, List.getElem?_cons_zero, List.set_cons_succ, List.set_cons_zero, List.reverse_cons, List.reverse_nil, List.nil_append, List.cons_append, Option.bind_some, ite_true, ite_false])
end Lp

namespace Lp
open PySem PySem.Spec PyProof.Rows L2
end Lp

namespace Lp
open PySem PySem.Spec PyProof.Rows L2
section
variable {P : Program} {w : World} {A : Around} {E : Value → Shared → Prop} {s : Shared}
end
section
variable {X : Cx}
end
section
variable {w : Wx} {K : PySem.W.Frag} {te : TE} {f : DTE}
end
end Lp

namespace Lp
open PySem PySem.Spec PyProof.Rows L2
section
variable {X : Cx}
end
section
variable {w : Wx} {K : PySem.W.Frag} {te : TE} {f : DTE}
end
end Lp

namespace Lp
open PySem PySem.Spec PyProof.Rows L2
section
variable {X : Cx} {pins : List (Addr × Obj)} {σ : L2.St} {H : Hp} {s : Shared} {a C : Addr} {B newId initId : String} {bm : List Value} {E : Value → Shared → Prop} {A : Around}
end
section
open Builtin Builtin.ObjectAttr PySem.W PySem.Calls PySem.HandSPX
variable {prog : Program} {w : World} {A : Around} {R : Result → Shared → Prop} {hp : Heap} {g : Array GenState} {d : Drawn} {t : Nat} {os : OsState}
end
section
variable {X : Cx} {pins : List (Addr × Obj)} {σ : L2.St} {H : Hp} {s : Shared} {a C : Addr} {B newId initId : String} {bm : List Value} {E : Value → Shared → Prop} {A : Around} {f : Str} {y : V} {u : Value}
end
section
variable {X : Cx} {o e : Expr} {es : List Expr} {to te : TE} {ta : TA} {f : Str} {p p' p1 p2 pos : Pos} {B newId initId : String} {bm : List Value}
end
end Lp

namespace Lp
open PySem PySem.Spec PyProof.Rows L2
abbrev DSpX := List SV → Nat → (R → Nat → Prop) → (Xn → Nat → Prop) → Prop
def dArgsX (F : DSpX) (rs : List R) (ε : Env) (Q : R → Env → Prop) (Ex : Xn → Env → Prop) : Prop := match argsOf rs with
  | some args => hasBr rs = false ∧ F args ε.c (fun r c => Q r ⟨ε.s, c⟩) (fun x c => Ex x ⟨ε.s, c⟩)
  | none => False
def dCallX (F : DSpX) (Ex : Xn → Env → Prop) (f : DTA) (ε : Env) (Q : R → Env → Prop) : Prop := f ε fun rs ε1 => dArgsX F rs ε1 Q Ex
section
variable {w : World} {cl : Str → Option Addr} {P0 : Hp} {W : WX} {Ex : Xn → Env → Prop}
end
section
variable {P : Program} {w : World} {K : PySem.W.Frag} {mg : Str → Option Value} {base : Heap} {cl : Str → Option Addr}
end
def dRaise (nm fld : Str) (f : DTE) (Ex : Xn → Env → Prop) (_ : DEnds) (ε : Env) : Prop := f ε fun r ε1 => match r with
  | .sh (.int i) => Ex ⟨nm, [(fld, .int i)]⟩ ε1
  | .sh (.tuple ds) => Ex ⟨nm, [(fld, .tuple ds)]⟩ ε1
  | _ => False
section
variable {w : World} {cl : Str → Option Addr} {P0 : Hp} {W : WX} {Ex : Xn → Env → Prop} {K : PySem.W.Frag} {C : Addr} {nm fld : Str} {te : TE} {f : DTE}
end
end Lp

namespace PySem.W
open PySem PySem.Spec PySem.Calls PyProof.Rows
section
variable {M : Model} {K : Frag}
end
end PySem.W
namespace Lp
open PySem PySem.Spec PyProof.Rows L2
section
variable {X : Cx}
end
section
variable {X : Cx} {pins : List (Addr × Obj)} {σ : L2.St} {H : Hp} {s : Shared}
end
section
variable {X : Cx} {n : Str} {cs : List Value} {te : Expr} {i : Nat} {body suite : List Stmt} {b₀ : Stmt} {pos pos' : Pos} {tb : WX → TS} {ts : Addr → Value → Option Addr → TS}
end
end Lp

namespace Lp
open PySem PySem.Spec PyProof.Rows L2
/-- None, or a caught exception, and its class -/
def TyE (K : PySem.W.Frag) (H : Hp) (v : V) (t : Value) : Prop := (v = .non ∧ t = .type "NoneType") ∨ ∃ (a C : Addr) (d : Option Addr), v = .ref a ∧ t = .ref C ∧ H a = some (exc a (.ref C) d) ∧ (d = none ∨ ∃ dd fs, d = some dd ∧ H dd = some (.xd fs)) ∧ ExcC K C
section
variable {X : Cx} {pins : List (Addr × Obj)} {σ : L2.St} {H : Hp} {s : Shared}
end
def baseX : Str → Str
  | "NoPerson" => "LookupError" | "NoNumber" => "LookupError" | "NoDeed" => "LookupError"
  | "OtherSize" => "ValueError" | "NoRoot" => "ValueError" | "MissingRoot" => "ValueError" | "NotKin" => "ValueError" | "NotPast" => "ValueError" | "BadDeed" => "ValueError" | "BadText" => "ValueError" | "BadLine" => "ValueError"
  | "Unreachable" => "RuntimeError" | "NoCommon" => "RuntimeError" | "Denied" => "RuntimeError" | "IsRoot" => "RuntimeError"
  | "TooMany" => "OverflowError"
  | _ => ""
def subX (c n : Str) : Bool := c == n || baseX c == n
def dIsX (nms : List Str) (f : DTE) (ε : Env) (Q : R → Env → Prop) : Prop := f ε fun r ε1 => match r with
  | .exn x => Q (.sh (.bool (nms.any (subX x.cls)))) ε1
  | .sh .none => Q (.sh (.bool false)) ε1
  | _ => False
def dAttr (n : Str) (f : DTE) (ε : Env) (Q : R → Env → Prop) : Prop := f ε fun r ε1 => match r with
  | .exn x => ∃ d, x.fs.lookup n = some d ∧ Q (.sh d) ε1
  | _ => False
section
variable {w : Wx} {K : PySem.W.Frag} {te : TE} {f : DTE}
theorem XF.dict {H : Hp} {d : Option Addr} {fs : List (Str × PyData)} (x : XF H d fs) : d = none ∨ ∃ dd vs, d = some dd ∧ H dd = some (.xd vs) := by
  cases d with
  | none => exact .inl rfl
  | some dd =>
    obtain ⟨vs, h, _⟩ := x
    exact .inr ⟨dd, vs, rfl, h⟩
theorem TyE.of {H L : Hp} {v : V} {x : Xn} {C : Addr} (h : XV w L v x) (s : Same L H) (hC : w.cl x.cls = some C) (T : ExcC K C) : TyE K H v (.ref C) := by
  obtain ⟨a, C', d, h1, h2, h3, h4⟩ := h
  rw [hC] at h2
  cases h2
  exact .inr ⟨a, C, d, h1, rfl, s _ _ h3, (h4.to s).dict, T⟩
end
end Lp

namespace Lp
open PySem PySem.Spec PyProof.Rows L2
section
variable {X : Cx} {o e : Expr} {es : List Expr} {to te : TE} {ta : TA} {f : Str} {p p' p1 p2 pos : Pos} {B newId initId : String} {bm : List Value}
end
section
variable {P : Program} {w : World} {K : PySem.W.Frag} {mg : Str → Option Value} {base : Heap} {cl : Str → Option Addr}
end
def dIsNE (neg : Bool) (f : DTE) (ε : Env) (Q : R → Env → Prop) : Prop := f ε fun r ε1 => match r with
  | .exn _ => Q (.sh (.bool neg)) ε1
  | r => match r.dat with
    | some d => Q (.sh (.bool (if neg then !isN d else isN d))) ε1
    | none => False
section
variable {w : Wx} {K : PySem.W.Frag} {te : TE} {f : DTE}
end
def gx (F : DSpX) (o : Option (List SV)) (b : Bool) (ε : Env) (Q : R → Env → Prop) (Ex : Xn → Env → Prop) : Prop := match o with
  | some args => b = false ∧ F args ε.c (fun r c => Q r ⟨ε.s, c⟩) (fun x c => Ex x ⟨ε.s, c⟩)
  | none => False
theorem dArgsX_ (F : DSpX) (rs : List R) (ε : Env) (Q : R → Env → Prop) (Ex : Xn → Env → Prop) : dArgsX F rs ε Q Ex = gx F (argsOf rs) (hasBr rs) ε Q Ex := rfl
theorem gx_s (F : DSpX) (args : List SV) (b : Bool) (ε : Env) (Q : R → Env → Prop) (Ex : Xn → Env → Prop) : gx F (some args) b ε Q Ex = (b = false ∧ F args ε.c (fun r c => Q r ⟨ε.s, c⟩) (fun x c => Ex x ⟨ε.s, c⟩)) := rfl
end Lp

namespace Lp
open PySem PySem.Spec PyProof.Rows L2
local macro_rules | `(tactic| rfl') => `(tactic| try dsimp only [dVar_, gv_sh, gv_ow, gv_bx, gv_raw, gv_exn, gv_st, dC, dRaw, dOp, dUn, dTest, dTruth, dAnd, dOr, dNot, dYes, dIf, dAndV, dOrV, dNotV, dNotT, dChain, dNil, dCons, dTup, dLst, dats, dCB, dNoP, dPart, dSl, dNext, dBreak, dCont, dNever, dDrop, dRet, dRetN, dIfS, dSetG, dPar, dPar3, dAppend, dAppPop, dSetIx, dExt, dAug, dSet0, dSAdd, dSNotIn, dIter_, gi_l, gi_t, gi_b, dRng1, dRng2, dName, dGNil, dGCons, dGTup, dAsg, dFor, dWhile, dCall, dCallR, dArgs_, ga_f, ga_t, argsOf, dLc, wipeE, dListRg, dIndex, dSortSet, dSortSc, dEnum, dEnA, dZip, dIsi, dIsi2, isaT, φI, φB, φC, φNeg, add_i, add_l, add_t, mul_i, mul_l, φIx, sl_l, sl_t, eq_i, eq_s, eq_l, eq_t, eq_b, eq_n, φIsN, isN_n, isN_b, isN_i, isN_s, isN_l, isN_t, φLen, φList, φTuple, φAbs, φInt, φMax, φIsB, φIsNB, its_l, its_t, rd_sh, rd_nw, rd_br, rp_sh, rp_nw, rp_br, rp_bx, rp_raw, rp_sr, rr_sh, rr_nw, rr_br, ra_sh, ra_br, ra_bx, ra_raw, va_sh, va_nt, va_nf, va_raw, hb_n, hb_sh, hb_bx, hb_raw, hb_br, sh_n, sh_c, tr_n, tr_b, tr_i, tr_l, tr_t, ty_n, ty_b, ty_i, ty_s, ty_l, ty_t, if_ff, if_tt, Env.set, List.getElem?_cons_succ, List.getElem?_cons_zero, List.set_cons_succ, List.set_cons_zero, List.reverse_cons, List.reverse_nil, List.nil_append, List.cons_append, Option.bind_some, ite_true, ite_false, dCallX, dArgsX_, gx_s, dRaise, dIsX, dAttr, dIsNE])
end Lp

namespace Lp
open PySem PySem.Spec PyProof.Rows L2
local macro_rules | `(tactic| rfl') => `(tactic| try dsimp only [dVar_, gv_sh, gv_ow, gv_bx, gv_raw, gv_exn, gv_st, dC, dRaw, dOp, dUn, dTest, dTruth, dAnd, dOr, dNot, dYes, dIf, dAndV, dOrV, dNotV, dNotT, dChain, dNil, dCons, dTup, dLst, dats, dCB, dNoP, dPart, dSl, dNext, dBreak, dCont, dNever, dDrop, dRet, dRetN, dIfS, dSetG, dPar, dPar3, dAppend, dAppPop, dSetIx, dExt, dAug, dSet0, dSAdd, dSNotIn, dIter_, gi_l, gi_t, gi_b, dRng1, dRng2, dName, dGNil, dGCons, dGTup, dAsg, dFor, dWhile, dCall, dCallR, dArgs_, ga_f, ga_t, argsOf, dLc, wipeE, dListRg, dIndex, dSortSet, dSortSc, dEnum, dEnA, dZip, dIsi, dIsi2, isaT, φI, φB, φC, φNeg, add_i, add_l, add_t, mul_i, mul_l, φIx, sl_l, sl_t, eq_i, eq_s, eq_l, eq_t, eq_b, eq_n, φIsN, isN_n, isN_b, isN_i, isN_s, isN_l, isN_t, φLen, φList, φTuple, φAbs, φInt, φMax, φIsB, φIsNB, its_l, its_t, rd_sh, rd_nw, rd_br, rp_sh, rp_nw, rp_br, rp_bx, rp_raw, rp_sr, rr_sh, rr_nw, rr_br, ra_sh, ra_br, ra_bx, ra_raw, va_sh, va_nt, va_nf, va_raw, hb_n, hb_sh, hb_bx, hb_raw, hb_br, sh_n, sh_c, tr_n, tr_b, tr_i, tr_l, tr_t, ty_n, ty_b, ty_i, ty_s, ty_l, ty_t, if_ff, if_tt, Env.set, List.getElem?_cons_succ, List.getElem?_cons_zero, List.set_cons_succ, List.set_cons_zero, List.reverse_cons, List.reverse_nil, List.nil_append, List.cons_append, Option.bind_some, ite_true, ite_false, dCallX, dArgsX_, gx_s, dRaise, dIsX, dAttr, dIsNE])
end Lp

namespace Lp
open PySem PySem.Spec PyProof.Rows L2
local macro_rules | `(tactic| rfl') => `(tactic| try dsimp only [dVar_, gv_sh, gv_ow, gv_bx, gv_raw, gv_exn, gv_st, dC, dRaw, dOp, dUn, dTest, dTruth, dAnd, dOr, dNot, dYes, dIf, dAndV, dOrV, dNotV, dNotT, dChain, dNil, dCons, dTup, dLst, dats, dCB, dNoP, dPart, dSl, dNext, dBreak, dCont, dNever, dDrop, dRet, dRetN, dIfS, dSetG, dPar, dPar3, dAppend, dAppPop, dSetIx, dExt, dAug, dSet0, dSAdd, dSNotIn, dIter_, gi_l, gi_t, gi_b, dRng1, dRng2, dName, dGNil, dGCons, dGTup, dAsg, dFor, dWhile, dCall, dCallR, dArgs_, ga_f, ga_t, argsOf, dLc, wipeE, dListRg, dIndex, dSortSet, dSortSc, dEnum, dEnA, dZip, dIsi, dIsi2, isaT, φI, φB, φC, φNeg, add_i, add_l, add_t, mul_i, mul_l, φIx, sl_l, sl_t, eq_i, eq_s, eq_l, eq_t, eq_b, eq_n, φIsN, isN_n, isN_b, isN_i, isN_s, isN_l, isN_t, φLen, φList, φTuple, φAbs, φInt, φMax, φIsB, φIsNB, its_l, its_t, rd_sh, rd_nw, rd_br, rp_sh, rp_nw, rp_br, rp_bx, rp_raw, rp_sr, rr_sh, rr_nw, rr_br, ra_sh, ra_br, ra_bx, ra_raw, va_sh, va_nt, va_nf, va_raw, hb_n, hb_sh, hb_bx, hb_raw, hb_br, sh_n, sh_c, tr_n, tr_b, tr_i, tr_l, tr_t, ty_n, ty_b, ty_i, ty_s, ty_l, ty_t, if_ff, if_tt, Env.set, List.getElem?_cons_succ, List.getElem?_cons_zero, List.set_cons_succ, List.set_cons_zero, List.reverse_cons, List.reverse_nil, List.nil_append, List.cons_append, Option.bind_some, ite_true, ite_false])
/-- _law_same: _law_found, _law_due_here, _law_mine, _law_its -/
def b_law_same_3 (p_law_same_3 : DSp) : DTS := (dSeq (dIfS (dTruth (dIsi2 "list" "tuple" (dVar 1))) (dSeq (dIfS (dOr (dTest (dOp (φEq true) (dIsi "list" (dVar 0)) (dIsi "list" (dVar 1)))) (dTest (dOp (φEq true) (dIsi "tuple" (dVar 0)) (dIsi "tuple" (dVar 1))))) (dRet (dC (.bool false))) dNext)
  (dRet (dAndV (dOp (φEq false) (dCB φLen (dCons (dVar 0) dNil)) (dCB φLen (dCons (dVar 1) dNil))) (dCB (φAll false) (dCons (dLc (dZip (dCons (dVar 0) (dCons (dVar 1) dNil))) (dGTup 2 (dGCons (dName 2) (dGCons (dName 3) dGNil))) dYes (dCall p_law_same_3 (dCons (dVar 2) (dCons (dVar 3) dNil))) [2, 3]) dNil))))) dNext)
  (dSeq (dIfS (dOr (dTest (dOp (φIsN false) (dVar 1) (dC .none))) (dTruth (dIsi2 "bool" "str" (dVar 1)))) (dRet (dAndV (dOp (φEq false) (dVar 0) (dVar 1)) (dAndV (dOp (φEq false) (dIsi "bool" (dVar 0)) (dIsi "bool" (dVar 1))) (dOp (φEq false) (dOp (φIsN false) (dVar 0) (dC .none)) (dOp (φIsN false) (dVar 1) (dC .none)))))) dNext)
  (dRet (dAndV (dIsi "int" (dVar 0)) (dAndV (dNotV (dIsi "bool" (dVar 0))) (dOp (φEq false) (dVar 0) (dVar 1)))))))
abbrev k_law_same_3 : Nat := 2
def p_law_same_3 (k : Nat) : DSp := p_law_same k
theorem mon_law_same_3 (k : Nat) : MonF (p_law_same_3 k) := mon_law_same k
theorem m_law_same_3 {k : Nat} : ∀ args c Q, p_law_same_3 (k + 1) args c Q → defF k_law_same_3 (b_law_same_3 (p_law_same_3 k)) args c Q := by
  rintro _ c Q ⟨a, _, rfl, rfl, hk, q⟩
  show b_law_same_3 (p_law_same k) _ ⟨[.sh a, .sh a, .un, .un], c⟩
  unfold b_law_same_3
  refine sq_ ?_
  cases a with
  | none =>
    rfl'
    refine if_f (by decide +kernel) ?_
    refine sq_ ?_
    rfl'
    refine ⟨⟨rfl, rfl⟩, ?_⟩
    refine if_t (by rfl) ?_
    refine ⟨⟨rfl, rfl⟩, ?_⟩
    refine if_t (by rfl) ?_
    exact ⟨⟨rfl, rfl⟩, q⟩
  | bool b =>
    rfl'
    refine if_f (by decide +kernel) ?_
    refine sq_ ?_
    rfl'
    refine if_f (by decide +kernel) ?_
    refine if_t (by decide +kernel) ?_
    refine ⟨⟨rfl, rfl⟩, ?_⟩
    rw [eqv_self_b]
    refine if_t (by rfl) ?_
    refine ⟨⟨rfl, rfl⟩, ?_⟩
    refine if_t (by rfl) ?_
    exact ⟨⟨rfl, rfl⟩, q⟩
  | int z =>
    rfl'
    refine if_f (by decide +kernel) ?_
    refine sq_ ?_
    rfl'
    refine if_f (by decide +kernel) ?_
    refine if_f (by decide +kernel) ?_
    refine if_t (by decide +kernel) ?_
    refine if_t (by decide +kernel) ?_
    rw [decide_eq_true rfl]
    exact q
  | str x =>
    rfl'
    refine if_f (by decide +kernel) ?_
    refine sq_ ?_
    rfl'
    refine if_f (by decide +kernel) ?_
    refine if_t (by decide +kernel) ?_
    refine if_t (decide_eq_true rfl) ?_
    refine ⟨⟨rfl, rfl⟩, ?_⟩
    refine if_t (by rfl) ?_
    exact ⟨⟨rfl, rfl⟩, q⟩
  | list ds =>
    obtain ⟨h1, h2⟩ := dep_list hk
    rfl'
    refine if_t (by decide +kernel) ?_
    refine sq_ ?_
    rfl'
    refine ⟨⟨rfl, rfl⟩, ?_⟩
    refine if_f (by rfl) ?_
    refine ⟨⟨rfl, rfl⟩, ?_⟩
    refine if_f (by rfl) ?_
    refine if_t (decide_eq_true rfl) ?_
    refine same_seq h2 (by omega) ⟨_, _, rfl⟩ ?_
    rfl'
    rw [dB_map ds fun _ => true]
    refine φAll_dB ?_
    rw [if_neg (by decide), (all_true ds).2]
    exact q
  | tuple ds =>
    obtain ⟨h1, h2⟩ := dep_tuple hk
    rfl'
    refine if_t (by decide +kernel) ?_
    refine sq_ ?_
    rfl'
    refine ⟨⟨rfl, rfl⟩, ?_⟩
    refine if_f (by rfl) ?_
    refine ⟨⟨rfl, rfl⟩, ?_⟩
    refine if_f (by rfl) ?_
    refine if_t (decide_eq_true rfl) ?_
    refine same_seq h2 (by omega) ⟨_, _, rfl⟩ ?_
    rfl'
    rw [dB_map ds fun _ => true]
    refine φAll_dB ?_
    rw [if_neg (by decide), (all_true ds).2]
    exact q
  | dict _ => unfold dep at hk; cases hk
/-- _law_random_state: _law_source, _law_size, _law_order, _law_kind, _law_spot, _law_found, _law_half, _law_at, _law_some -/
def b_law_random_state : DTS := (dSeq (dPar 2 false 3 false (dCall p_law_strewn_2 (dCons (dVar 0) (dCons (dListRg (dVar 1)) dNil))) (dCall p_law_take (dCons (dVar 0) (dCons (dC (.int 8)) dNil))))
  (dSeq (dIfS (dTest (dOp (φB fun i j => decide (i < j)) (dVar 3) (dC (.int 2)))) (dRet (dCB φTuple (dCons (dLc (dIter (dVar 2)) (dName 4) dYes (dCall p_law_take (dCons (dVar 0) (dCons (dVar 1) dNil))) [4]) dNil))) dNext)
  (dSeq (dIfS (dTest (dOp (φEq false) (dVar 3) (dC (.int 7)))) (dRet (dCB φTuple (dCons (dCall p_law_strewn_2 (dCons (dVar 0) (dCons (dVar 2) dNil))) dNil))) dNext)
  (dSeq (dPar 5 true 6 false (dOp φMul (dLst (dCons (dC (.int 0)) dNil)) (dVar 1)) (dCB φMax (dCons (dC (.int 1)) (dCons (dOp (φC CDivW fun i j => i / j) (dVar 1) (dC (.int 2))) dNil))))
  (dSeq (dFor (dEnA (dCons (dVar 2) dNil)) (dGTup 2 (dGCons (dName 7) (dGCons (dName 4) dGNil))) (dSeq (dSetG true 8 (dLst (dCons (dOp φIx (dVar 2) (dOp (φC (fun _ j => 0 < j) fun i j => i % j) (dOp φAdd (dVar 7) (dC (.int 1))) (dVar 1))) (dCons (dOp φIx (dVar 2) (dCB φMax (dCons (dC (.int 0)) (dCons (dOp (φI fun i j => i - j) (dVar 7) (dC (.int 1))) dNil)))) (dCons (dOp φIx (dVar 2) (dCB φMax (dCons (dC (.int 0)) (dCons (dOp (φI fun i j => i - j) (dOp (φI fun i j => i - j) (dVar 7) (dC (.int 1))) (dCall p_law_take (dCons (dVar 0) (dCons (dC (.int 3)) dNil)))) dNil)))) dNil)))))
  (dSeq (dAppend 8 (dOp φIx (dVar 2) (dCall p_law_take (dCons (dVar 0) (dCons (dOp φAdd (dC (.int 1)) (dOp (φC CDivW fun i j => i / j) (dVar 1) (dC (.int 4)))) dNil)))))
  (dSeq (dAppend 8 (dIf (dTest (dOp (φB fun i j => decide (i < j)) (dVar 7) (dVar 6))) (dOp φIx (dVar 2) (dOp (φC (fun _ j => 0 < j) fun i j => i % j) (dOp φAdd (dVar 7) (dC (.int 1))) (dVar 6))) (dOp φIx (dVar 2) (dCall p_law_take (dCons (dVar 0) (dCons (dVar 7) dNil))))))
  (dSetIx 5 (dOp φIx (dVar 8) (dOp (φI fun i j => i - j) (dVar 3) (dC (.int 2)))) (dVar 4))))))
  (dRet (dCB φTuple (dCons (dVar 5) dNil))))))))
abbrev k_law_random_state : Nat := 7
def p_law_random_state : DSp := fun args c Q => ∃ n : Int, args = [.bx, .sh (.int n)] ∧ 1 ≤ n ∧ n ≤ 1000 ∧ c ≤ 800000000 ∧ ∀ ns c', Stt ns → (ns.length : Int) = n → c' ≤ c + 15000 → Q (.sh (.tuple (dI ns))) c'
theorem mon_law_random_state : MonF p_law_random_state := fun args c A B h ⟨n, e, h1, h2, h3, q⟩ => ⟨n, e, h1, h2, h3, fun r c' a b d => h _ _ (q r c' a b d)⟩
abbrev rs_body : DTS := (dSeq (dSetG true 8 (dLst (dCons (dOp φIx (dVar 2) (dOp (φC (fun _ j => 0 < j) fun i j => i % j) (dOp φAdd (dVar 7) (dC (.int 1))) (dVar 1))) (dCons (dOp φIx (dVar 2) (dCB φMax (dCons (dC (.int 0)) (dCons (dOp (φI fun i j => i - j) (dVar 7) (dC (.int 1))) dNil)))) (dCons (dOp φIx (dVar 2) (dCB φMax (dCons (dC (.int 0)) (dCons (dOp (φI fun i j => i - j) (dOp (φI fun i j => i - j) (dVar 7) (dC (.int 1))) (dCall p_law_take (dCons (dVar 0) (dCons (dC (.int 3)) dNil)))) dNil)))) dNil)))))
  (dSeq (dAppend 8 (dOp φIx (dVar 2) (dCall p_law_take (dCons (dVar 0) (dCons (dOp φAdd (dC (.int 1)) (dOp (φC CDivW fun i j => i / j) (dVar 1) (dC (.int 4)))) dNil)))))
  (dSeq (dAppend 8 (dIf (dTest (dOp (φB fun i j => decide (i < j)) (dVar 7) (dVar 6))) (dOp φIx (dVar 2) (dOp (φC (fun _ j => 0 < j) fun i j => i % j) (dOp φAdd (dVar 7) (dC (.int 1))) (dVar 6))) (dOp φIx (dVar 2) (dCall p_law_take (dCons (dVar 0) (dCons (dVar 7) dNil))))))
  (dSetIx 5 (dOp φIx (dVar 8) (dOp (φI fun i j => i - j) (dVar 3) (dC (.int 2)))) (dVar 4)))))
theorem rs_loop {n k h : Int} {row : List Int} {Δ : DEnds} (n1 : 1 ≤ n) (n2 : n ≤ 1000) (k2 : 2 ≤ k) (k6 : k ≤ 6) (h1 : 1 ≤ h) (h2 : h ≤ n) (hrow : NetOk n.toNat row) :
    ∀ (ps : List (Int × Nat)) (fs : List Int) (x4 x7 x8 : SV) (c : Nat), (∀ q ∈ ps, row[q.2]? = some q.1) → NetOk n.toNat fs → c + 9 * ps.length ≤ 850000000 →
      (∀ fs c' x4 x7 x8, NetOk n.toNat fs → c' ≤ c + 9 * ps.length → Δ.nx ⟨[.bx, .sh (.int n), .sh (.list (dI row)), .sh (.int k), x4, .ow (dI fs), .sh (.int h), x7, x8], c'⟩) →
      forD (dGTup 2 (dGCons (dName 7) (dGCons (dName 4) dGNil))) rs_body Δ (ps.map fun p => .tuple [.int (p.2 : Nat), .int p.1]) ⟨[.bx, .sh (.int n), .sh (.list (dI row)), .sh (.int k), x4, .ow (dI fs), .sh (.int h), x7, x8], c⟩
  | [], fs, x4, x7, x8, c, _, hf, _, q => q fs c x4 x7 x8 hf (by omega)
  | (w, a) :: ps, fs, x4, x7, x8, c, hps, hf, hc, q => by
    rw [List.length_cons] at hc
    have ha : row[a]? = some w := hps (w, a) List.mem_cons_self
    have hw : 0 ≤ w ∧ w < ((n.toNat : Nat) : Int) := hrow.2 w (List.mem_of_getElem? ha)
    have ha2 : a < row.length := (List.getElem?_eq_some_iff.mp ha).1
    have hl := hrow.1
    have fl := hf.1
    have step : ∀ (v : Int) (c' : Nat) (x8 : SV), 0 ≤ v → v < n → c' ≤ c + 9 → ∃ m, ixN (dI fs).length w = some m ∧ forD (dGTup 2 (dGCons (dName 7) (dGCons (dName 4) dGNil))) rs_body Δ (ps.map fun p => .tuple [.int (p.2 : Nat), .int p.1]) ⟨[.bx, .sh (.int n), .sh (.list (dI row)), .sh (.int k), .sh (.int w), .ow ((dI fs).set m (.int v)), .sh (.int h), .sh (.int (a : Nat)), x8], c'⟩ := by
      intro v c' x8 v0 v1 hc'
      refine ⟨w.toNat, ixN_ok hw.1 (by rw [dI_len, fl]; exact hw.2), ?_⟩
      rw [dI_set]
      refine rs_loop n1 n2 k2 k6 h1 h2 hrow ps (fs.set w.toNat v) _ _ _ c' (fun q hq => hps q (List.mem_cons_of_mem _ hq)) ⟨by rw [List.length_set]; exact fl, hf.2.set v0 (by omega)⟩ (by omega) fun gs c2 x4 x7 x8 h1 h2 => q gs c2 x4 x7 x8 h1 (by rw [List.length_cons]; omega)
    have ixr : ∀ i : Int, 0 ≤ i → i < n → ∃ z, atI (dI row) i = some (.int z) ∧ 0 ≤ z ∧ z < n := fun i h0 h1 => by
      have h2 : i < (row.length : Int) := by omega
      have := gt_low hrow.2 h0 h2
      exact ⟨_, atI_dI h0 h2, this.1, by omega⟩
    refine for_cons ?_
    rfl'
    refine ⟨rfl, ?_⟩
    have m0 := Int.emod_nonneg ((a : Int) + 1) (show n ≠ 0 by omega)
    have m1 := Int.emod_lt_of_pos ((a : Int) + 1) (show 0 < n by omega)
    obtain ⟨z1, e1, z10, z11⟩ := ixr (((a : Int) + 1) % n) m0 m1
    refine sq_ ?_
    rfl'
    refine ⟨by omega, .int z1, e1, ?_⟩
    have al : (a : Int) < n := by omega
    obtain ⟨z2, e2, z20, z21⟩ := ixr (if (a : Int) - 1 > 0 then (a : Int) - 1 else 0) (by split <;> omega) (by split <;> omega)
    refine ⟨.int z2, e2, ?_⟩
    refine c_take (by decide) (by decide) (by omega) fun r c1 r0 r1 hc1 => ?_
    rfl'
    obtain ⟨z3, e3, z30, z31⟩ := ixr (if (a : Int) - 1 - r > 0 then (a : Int) - 1 - r else 0) (by split <;> omega) (by split <;> omega)
    refine ⟨.int z3, e3, ?_⟩
    refine sq_ ?_
    rfl'
    refine ⟨⟨by decide, by decide⟩, ?_⟩
    refine c_take (by omega) (by omega) (by omega) fun r4 c2 r40 r41 hc2 => ?_
    rfl'
    obtain ⟨z4, e4, z40, z41⟩ := ixr r4 r40 (by omega)
    refine ⟨.int z4, e4, (by show 3 < 16777216; decide), ?_⟩
    have fin : ∀ (z5 : Int) (c3 : Nat), 0 ≤ z5 → z5 < n → c3 ≤ c + 9 → ∃ d, atI [PyData.int z1, .int z2, .int z3, .int z4, .int z5] (k - 2) = some d ∧ ∃ m, ixN (dI fs).length w = some m ∧ forD (dGTup 2 (dGCons (dName 7) (dGCons (dName 4) dGNil))) rs_body Δ (ps.map fun p => .tuple [.int (p.2 : Nat), .int p.1]) ⟨[.bx, .sh (.int n), .sh (.list (dI row)), .sh (.int k), .sh (.int w), .ow ((dI fs).set m d), .sh (.int h), .sh (.int (a : Nat)), .ow [PyData.int z1, .int z2, .int z3, .int z4, .int z5]], c3⟩ := by
      intro z5 c3 z50 z51 hc3
      have : k = 2 ∨ k = 3 ∨ k = 4 ∨ k = 5 ∨ k = 6 := by omega
      rcases this with rfl | rfl | rfl | rfl | rfl
      · exact ⟨_, rfl, step z1 c3 _ z10 z11 hc3⟩
      · exact ⟨_, rfl, step z2 c3 _ z20 z21 hc3⟩
      · exact ⟨_, rfl, step z3 c3 _ z30 z31 hc3⟩
      · exact ⟨_, rfl, step z4 c3 _ z40 z41 hc3⟩
      · exact ⟨_, rfl, step z5 c3 _ z50 z51 hc3⟩
    refine sq_ ?_
    rfl'
    refine it_2 (fun hh => ?_) fun hh => ?_
    · have p0 := Int.emod_nonneg ((a : Int) + 1) (show h ≠ 0 by omega)
      have p1 := Int.emod_lt_of_pos ((a : Int) + 1) (show 0 < h by omega)
      obtain ⟨z5, e5, z50, z51⟩ := ixr (((a : Int) + 1) % h) p0 (by omega)
      refine ⟨by omega, .int z5, e5, (by show 4 < 16777216; decide), ?_⟩
      rfl'
      exact fin z5 c2 z50 z51 (by omega)
    · refine c_take (by omega) (by omega) (by omega) fun r5 c3 r50 r51 hc3 => ?_
      rfl'
      obtain ⟨z5, e5, z50, z51⟩ := ixr r5 r50 (by omega)
      refine ⟨.int z5, e5, (by show 4 < 16777216; decide), ?_⟩
      rfl'
      exact fin z5 c3 z50 z51 (by omega)
theorem m_law_random_state : ∀ args c Q, p_law_random_state args c Q → defF k_law_random_state b_law_random_state args c Q := by
  rintro _ c Q ⟨n, rfl, h1, h2, h3, q⟩
  show b_law_random_state _ ⟨[.bx, .sh (.int n), .un, .un, .un, .un, .un, .un, .un], c⟩
  unfold b_law_random_state
  have fin : ∀ ns c', NetOk n.toNat ns → c' ≤ c + 15000 → Q (.sh (.tuple (dI ns))) c' := fun ns c' ok hc => q ns c' ⟨by rw [ok.1]; exact ok.2, by rw [ok.1]; omega, by rw [ok.1]; omega⟩ (by rw [ok.1]; omega) hc
  refine sq_ ?_
  rfl'
  refine ⟨by omega, by omega, ?_⟩
  have hl0 : (rgD 0 n.toNat).length = n.toNat := by unfold rgD; rw [List.length_map, List.length_range]
  refine .inl ⟨_, (List.range n.toNat).map fun i : Nat => (i : Int), rfl, ?_, by rw [List.length_map, List.length_range]; omega, by rw [List.length_map, List.length_range]; omega, fun row c1 hp hc1 => ?_⟩
  · show some (rgD 0 n.toNat) = _
    unfold rgD dI
    rw [List.map_map]
    congr 1
    refine List.map_congr_left fun i _ => ?_
    simp
  have hrow := perm_low hp
  rw [List.length_map, List.length_range] at hc1
  rfl'
  refine c_take (by decide) (by decide) (by omega) fun k c2 k0 k1 hc2 => ?_
  refine sq_ ?_
  rfl'
  refine it_2 (fun hk => ?_) fun hk => ?_
  · refine lc_draw PyData.int PyData.int (fun _ y => 0 ≤ y ∧ y < n) (N := 3) row [] c2 (fun x hx m hm K hK => ?_) (by show 0 + _ ≤ _; rw [hrow.1]; omega) fun ys m hys hm => ?_
    · rfl'
      rw [hrow.1] at hm
      exact c_take h1 (by omega) (by omega) fun r c3 r0 r1 hc3 => hK _ _ r rfl ⟨r0, r1⟩ hc3
    · rfl'
      rw [hrow.1] at hm
      have hl := hys.len
      refine fin ys m ⟨by rw [hl]; exact hrow.1, fun z hz => ?_⟩ (by omega)
      obtain ⟨x, _, hp⟩ := hys.mem z hz
      omega
  refine sq_ ?_
  rfl'
  refine it_2 (fun h7 => ?_) fun h7 => ?_
  · refine .inl ⟨_, row, rfl, its_l _, by rw [hrow.1]; omega, by rw [hrow.1]; omega, fun es c3 hp3 hc3 => ?_⟩
    rfl'
    rw [hrow.1] at hc3
    exact fin es c3 ⟨by rw [hp3.length_eq]; exact hrow.1, fun z hz => hrow.2 z (hp3.mem_iff.mp hz)⟩ (by omega)
  refine sq_ ?_
  rfl'
  refine ⟨⟨by omega, by omega, show 1 * n.toNat ≤ 16777216 by omega⟩, ?_⟩
  refine ⟨⟨by decide, by decide +kernel⟩, ?_⟩
  refine sq_ ?_
  rfl'
  have hfs : (List.replicate n.toNat [PyData.int 0]).flatten = dI (List.replicate n.toNat 0) := by
    show _ = (List.replicate n.toNat (0 : Int)).map _
    rw [List.map_replicate]
    generalize n.toNat = m
    clear hrow hl0 hc1 hp q fin
    induction m with
    | zero => rfl
    | succ m ih => rw [List.replicate_succ, List.flatten_cons, ih, List.replicate_succ]; rfl
  rw [hfs, enD_dI]
  refine ⟨rfl, rs_loop h1 h2 (by omega) (by omega) (by split <;> omega) (by split <;> omega) hrow row.zipIdx _ _ _ _ c2 (fun q hq => List.mem_zipIdx_iff_getElem?.mp hq) ⟨List.length_replicate, fun z hz => by rw [List.eq_of_mem_replicate hz]; omega⟩ (by rw [List.length_zipIdx, hrow.1]; omega) fun fs c3 x4 x7 x8 h6 h8 => ?_⟩
  rfl'
  rw [List.length_zipIdx, hrow.1] at h8
  exact fin fs c3 h6 (by omega)
end Lp

namespace Lp
open PySem PySem.Spec PyProof.Rows L2
def rgcD (i c : Int) (n : Nat) : List PyData := (List.range n).map fun k => .int (i + (k : Nat) * c)
/-- how many -/
def rgcN (i j c : Int) : Nat := (Builtin.Range.rangeSize i j c).toNat
section
variable {w : Wx}
end
theorem DVs.snoc' {H : Hp} {v : V} {d : PyData} (k : DV H v d) : ∀ {vs : List V} {ds : List PyData}, DVs H vs ds → DVs H (vs ++ [v]) (ds ++ [d])
  | _, _, .nil => .cons k .nil
  | _, _, .cons h1 h2 => .cons h1 (DVs.snoc' k h2)
theorem DVs.rev {H : Hp} : ∀ {vs : List V} {ds : List PyData}, DVs H vs ds → DVs H vs.reverse ds.reverse
  | _, _, .nil => .nil
  | _, _, .cons h1 h2 => by rw [List.reverse_cons, List.reverse_cons]; exact DVs.snoc' h1 (DVs.rev h2)
end Lp

namespace Lp
open PySem PySem.Spec PyProof.Rows L2
section
variable {X : Cx} {e a b c : Expr} {ta : TE} {t : TA} {p pos : Pos}
end
section
variable {w : Wx}
def dTupRg1 (f : DTE) (ε : Env) (Q : R → Env → Prop) : Prop := f ε fun r ε1 => match r.dat with
  | some (.int n) => 0 ≤ n ∧ n ≤ 1000000 ∧ Q (.sh (.tuple (rgcD 0 1 n.toNat))) ε1
  | _ => False
def dTupRg3 (f : DTA) (ε : Env) (Q : R → Env → Prop) : Prop := f ε fun rs ε1 => match rs with
  | [.sh (.int i), .sh (.int j), .sh (.int c)] => RgC i j c (rgcN i j c) ∧ rgcN i j c ≤ 1000000 ∧ Q (.sh (.tuple (rgcD i c (rgcN i j c)))) ε1
  | _ => False
end
def rStrI : List V → Hp → VK → Prop := fun xs H Q => ∃ i : Int, xs = [.int i] ∧ i.natAbs.log2 < 1920 ∧ Q (.str (toString i)) H
theorem call_strI {X : Cx} : CallR X (.type "str") rStrI := by
  intro pins s σ H xs us Q I r h
  obtain ⟨i, rfl, h1, q⟩ := h
  obtain ⟨u, rfl, ru⟩ := vals1 r
  obtain ⟨t, rfl⟩ := ru
  exact PySem.P.str_of_int h1 ⟨.str _, H, I.tok _, ⟨_, rfl⟩, q⟩
def φStrI (ds : List PyData) (Q : R → Prop) : Prop := match ds with
  | [.int i] => i.natAbs.log2 < 1920 ∧ Q (.sh (.str (toString i)))
  | _ => False
theorem rc_strI {K : PySem.W.Frag} : RCK rStrI φStrI := by
  constructor
  · intro x A B hAB q
    unfold φStrI at q ⊢
    split at q
    · exact ⟨q.1, hAB _ q.2⟩
    · exact q.elim
  · intro L H xs ds Q s hx q
    unfold φStrI at q
    split at q
    · rename_i i
      cases hx with
      | cons a r =>
        cases r
        exact ⟨i, by rw [a.int], q.1, q.2 _ L H (Ext.refl _ _ _) s (.str _)⟩
    · exact q.elim
end Lp

namespace Lp
open PySem PySem.Spec PyProof.Rows L2
section
variable {X : Cx}
end
end Lp

namespace Lp
open PySem PySem.Spec PyProof.Rows L2
section
variable {w : Wx} {ta tb tc td : TE} {f g k l : DTE}
end
end Lp

namespace Lp
open PySem PySem.Spec PyProof.Rows L2
section
variable {w : Wx} {Z : Zx} {O : Addr → Prop} {σ : L2.St} {ε : Env} {L H : Hp}
end
section
variable {w : Wx} {t : TS} {d : DTS}
end
end Lp

namespace Lp
open PySem PySem.Spec PyProof.Rows L2
def R.rows : R → Option (List DRow)
  | .dnw xs => some xs
  | .dbr _ xs => some xs
  | .dsh xs => some xs
  | _ => none
/-- a tuple of ints -/
def R.key (r : R) : Option (List Int) := match r.dat with
  | some (.tuple es) => intsD es
  | _ => none
section
variable {w : Wx} {K : PySem.W.Frag} {Z : Zx} {O : Addr → Prop} {σ : L2.St} {ε : Env} {Hs L H : Hp} {v : V} {r : R}
theorem VR.rows {xs : List DRow} (x : VR w Z O σ Hs L H v r) (s : Same L H) (e : r.rows = some xs) : ∃ a, v = .ref a ∧ IsDct H a xs ∧ KD L xs := by
  cases r with
  | dnw ys =>
    cases e
    obtain ⟨a, rfl, _, _, _, _, h5, h6⟩ := x
    exact ⟨a, rfl, h5, h6⟩
  | dbr i ys =>
    cases e
    obtain ⟨a, rfl, _, _, _, _, h5, h6⟩ := x
    exact ⟨a, rfl, h5, h6⟩
  | dsh ys =>
    cases e
    obtain ⟨a, rfl, ⟨ob, h5⟩, h6⟩ := x
    exact ⟨a, rfl, ⟨ob, s _ _ h5⟩, h6⟩
  | _ => cases e
theorem KD.at {xs : List DRow} (x : KD L xs) (s : Same L H) {a : Addr} (h : IsDct H a xs) : DAtH K H a xs := ⟨h, fun y hy => ((x y hy).1.to s).seq⟩
theorem VR.key {k : List Int} (x : VR w Z O σ Hs L H v r) (e : r.key = some k) : ∃ b, v = .ref b ∧ Sol L b (k.map V.int) := by
  unfold R.key at e
  split at e
  · rename_i es h
    obtain ⟨a, xs, rfl, h1, h2⟩ := (x.vl h).tup
    have := intsD_is e
    subst this
    rw [ints_dvs h2] at h1
    exact ⟨a, rfl, h1⟩
  · cases e
end
section
variable {w : Wx} {K : PySem.W.Frag} {ta tb tc : TE} {f g h : DTE}
end
theorem hu1 {k : Nat} {A : Around} (hr : Room k A) : A.units + 1 < cLine := by have := hr.un; omega
section
variable {X : Cx} {K : PySem.W.Frag}
end
section
variable (xs : List DRow) (i : Nat)
end
end Lp

namespace Lp
open PySem PySem.Spec PyProof.Rows L2
section
variable {w : Wx} {K : PySem.W.Frag} {ta : TE} {f : DTE}
end
end Lp

namespace Lp
open PySem PySem.Spec PyProof.Rows L2
theorem dvs_rows {L : Hp} : ∀ {xs : List DRow}, (∀ x ∈ xs, DV L x.v x.d) → DVs L (xs.map DRow.v) (xs.map DRow.d)
  | [], _ => .nil
  | x :: xs, h => .cons (h x List.mem_cons_self) (dvs_rows fun y hy => h y (List.mem_cons_of_mem _ hy))
theorem DVd.dv {L : Hp} {v : V} {xs : List DRow} (h : DVd L v xs) : DV L v (.dict (kvT xs)) := by
  obtain ⟨a, rfl, h1, h2⟩ := h
  exact .dct h1 (fun x hx => (h2 x hx).1) (dvs_rows fun x hx => (h2 x hx).2)
section
variable {w : Wx} {K : PySem.W.Frag} {ta tb tc : TE} {f g h : DTE}
end
section
variable {X : Cx} {i o : Expr} {pos : Pos} {ty td : TE}
end
section
variable (xs : List DRow) (rs : List R)
end
end Lp

namespace Lp
open PySem PySem.Spec PyProof.Rows L2
def sigs (z : Str) : List Str := z.cps.toList.map fun c => (⟨#[c]⟩ : Str)
def dSs (ys : List Str) : List PyData := ys.map PyData.str
theorem dvs_strs {H : Hp} : ∀ ys : List Str, DVs H (ys.map V.str) (dSs ys)
  | [] => .nil
  | y :: ys => .cons (.str y) (dvs_strs ys)
theorem dvs_strsV {H : Hp} : ∀ {ys : List Str} {vs : List V}, DVs H vs (dSs ys) → vs = ys.map V.str
  | [], _, h => by
    cases h; rfl
  | y :: ys, _, h => by
    cases h with
    | cons a r =>
      cases a
      rw [dvs_strsV r]; rfl
def rLenS : List V → Hp → VK → Prop := fun xs H Q => ∃ z, xs = [.str z] ∧ z.length ≤ sizeLine ∧ Q (.int z.length) H
def φLenS (ds : List PyData) (Q : R → Prop) : Prop := match ds with
  | [.str z] => z.length ≤ sizeLine ∧ Q (.sh (.int z.length))
  | _ => False
theorem rc_lenS : RCK rLenS φLenS := by
  constructor
  · intro x A B hAB q
    unfold φLenS at q ⊢
    split at q
    · exact ⟨q.1, hAB _ q.2⟩
    · exact q.elim
  · intro L H xs ds Q s hx q
    unfold φLenS at q
    split at q
    · rename_i z
      cases hx with
      | cons a r =>
        cases r
        exact ⟨z, by rw [a.str], q.1, q.2 _ L H (Ext.refl _ _ _) s (.int _)⟩
    · exact q.elim
def rIntS : List V → Hp → VK → Prop := fun xs H Q => ∃ a n, xs = [.str a] ∧ PySem.intText? a = some n ∧ a.length ≤ 640 ∧ Q (.int n) H
def φIntS (ds : List PyData) (Q : R → Prop) : Prop := match ds with
  | [.str a] => ∃ n, PySem.intText? a = some n ∧ a.length ≤ 640 ∧ Q (.sh (.int n))
  | _ => False
theorem rc_intS : RCK rIntS φIntS := by
  constructor
  · intro x A B hAB q
    unfold φIntS at q ⊢
    split at q
    · obtain ⟨n, h1, h2, q⟩ := q
      exact ⟨n, h1, h2, hAB _ q⟩
    · exact q.elim
  · intro L H xs ds Q s hx q
    unfold φIntS at q
    split at q
    · rename_i z
      obtain ⟨n, h1, h2, q⟩ := q
      cases hx with
      | cons a r =>
        cases r
        exact ⟨z, n, by rw [a.str], h1, h2, q _ L H (Ext.refl _ _ _) s (.int _)⟩
    · exact q.elim
def φListS (ds : List PyData) (Q : R → Prop) : Prop := match ds with
  | [.str a] => a.length ≤ 16777216 ∧ Q (.nw (dSs (sigs a)))
  | _ => False
def rInS : R2 := fun x y H Q => ∃ (c : Nat) (z : Str), x = .str ⟨#[c]⟩ ∧ y = .str z ∧ Q (.bl (decide (c ∈ z.cps.toList))) H
def φInS (x y : PyData) (Q : R → Prop) : Prop := match x, y with
  | .str a, .str z => ∃ c, a = ⟨#[c]⟩ ∧ Q (.sh (.bool (decide (c ∈ z.cps.toList))))
  | _, _ => False
theorem r2_inS : R2K rInS φInS := by
  constructor
  · intro x y A B hAB q
    unfold φInS at q ⊢
    split at q
    · obtain ⟨c, h, q⟩ := q
      exact ⟨c, h, hAB _ q⟩
    · exact q.elim
  · intro L H x y dx dy Q s hx hy q
    unfold φInS at q
    split at q
    · obtain ⟨c, rfl, q⟩ := q
      exact ⟨c, _, hx.str, hy.str, q _ L H (Ext.refl _ _ _) s (.bl _)⟩
    · exact q.elim
def rAddS : R2 := fun x y H Q => ∃ i j, x = .str i ∧ y = .str j ∧ i.length + j.length ≤ sizeLine ∧ Q (.str (i ++ j)) H
def φAddS (x y : PyData) (Q : R → Prop) : Prop := match x, y with
  | .str a, .str z => a.length + z.length ≤ sizeLine ∧ Q (.sh (.str (a ++ z)))
  | _, _ => False
theorem r2_addS : R2K rAddS φAddS := by
  constructor
  · intro x y A B hAB q
    unfold φAddS at q ⊢
    split at q
    · exact ⟨q.1, hAB _ q.2⟩
    · exact q.elim
  · intro L H x y dx dy Q s hx hy q
    unfold φAddS at q
    split at q
    · exact ⟨_, _, hx.str, hy.str, q.1, q.2 _ L H (Ext.refl _ _ _) s (.str _)⟩
    · exact q.elim
def φMulS (x y : PyData) (Q : R → Prop) : Prop := match x, y with
  | .str a, .int k => (a.length ≤ 1000 ∧ 0 ≤ k ∧ k ≤ 1000) ∧ Q (.sh (.str (Txt.mul a k)))
  | _, _ => False
def φIxS (x y : PyData) (Q : R → Prop) : Prop := match x, y with
  | .str z, .int i => z.length ≤ sizeLine ∧ ∃ c, atI z.cps.toList i = some c ∧ Q (.sh (.str ⟨#[c]⟩))
  | _, _ => False
theorem r2_ixS : R2K rIxS φIxS := by
  constructor
  · intro x y A B hAB q
    unfold φIxS at q ⊢
    split at q
    · obtain ⟨h1, c, h2, q⟩ := q
      exact ⟨h1, c, h2, hAB _ q⟩
    · exact q.elim
  · intro L H x y dx dy Q s hx hy q
    unfold φIxS at q
    split at q
    · obtain ⟨h1, c, h2, q⟩ := q
      exact ⟨_, _, c, hx.str, hy.int, h1, h2, q _ L H (Ext.refl _ _ _) s (.str _)⟩
    · exact q.elim
def φSlS (d : PyData) (l h : Option Int) (Q : R → Prop) : Prop := match d with
  | .str z => z.length ≤ sizeLine ∧ Q (.sh (.str (cutS z l h)))
  | _ => False
section
variable {w : Wx} {K : PySem.W.Frag} {ta tb te : TE} {f g : DTE}
abbrev rSpl : V → List V → Hp → VK → Prop := fun x xs H Q => ∃ a b, x = .str a ∧ xs = [.str b] ∧ (b.length == 0) = false ∧ a.length + 2 ≤ sizeLine ∧ rNewStrs (Txt.split a b) H Q
def dSplit (f g : DTE) (ε : Env) (Q : R → Env → Prop) : Prop := f ε fun x ε1 => match x.dat with
  | some (.str a) => g ε1 fun y ε2 => match y.dat with
    | some (.str b) => (b.length == 0) = false ∧ a.length + 2 ≤ sizeLine ∧ Q (.nw (dSs (Txt.split a b))) ε2
    | _ => False
  | _ => False
theorem se_split (hf : SE w ta f) (hg : SE w tb g) : SE w (tM1 rSpl ta tb) (dSplit f g) := by
  constructor
  · intro ε A B h q
    refine hf.mono _ _ _ (fun x ε1 q => ?_) q
    split at q
    · refine hg.mono _ _ _ (fun y ε2 q => ?_) q
      split at q
      · exact ⟨q.1, q.2.1, h _ _ q.2.2⟩
      · exact q.elim
    · exact q.elim
  · intro Z O σ ε L H Q X q
    refine hf.run Z O σ ε L H _ X (hf.mono _ _ _ (fun x ε1 q => ?_) q)
    intro v L1 H1 X1 e1 r1
    split at q
    · rename_i a ea
      refine ⟨⟨a, (r1.vl ea).str⟩, hg.run Z O σ ε1 L1 H1 _ X1 (hg.mono _ _ _ (fun y ε2 q => ?_) q)⟩
      intro u L2 H2 X2 e2 r2
      split at q
      · rename_i b eb
        refine ⟨a, b, (r1.vl ea).str, by rw [(r2.vl eb).str], q.1, q.2.1, fun p np => ?_⟩
        have ec : Ext none L2 H2 L2 (upd H2 p (.lst ((Txt.split a b).map V.str))) := Ext.own np
        have X3 := X2.step ec (same_own X2.lh (X2.lh.free np))
        exact q.2.2 _ L2 _ X3 ((e1.trans e2).trans ec.any) (VR.back (VR0.vr (r := .nw (dSs (Txt.split a b))) ⟨p, _, rfl, np, X2.lh.free np, upd_same, dvs_strs _⟩ X2) (e1.trans e2))
      · exact q.elim
    · exact q.elim
abbrev rJn (K : PySem.W.Frag) : V → List V → Hp → VK → Prop := fun x xs H Q => ∃ a p, ∃ ys : List Str, x = .str a ∧ xs = [.ref p] ∧ (SqL K H p (ys.map V.str) ∨ SqT K H p (ys.map V.str)) ∧
      (ys.map (·.length)).sum + ys.length * a.length ≤ 16777216 ∧ Q (.str (Txt.join a ys)) H
theorem pe_joinK {X : Cx} {o e : Expr} {to te : TE} {apos pos : Pos} (eK : X.K = K) (ho : PE X o to) (he : PE X e te) (hs : starEach [e] X.env = [(false, eval e X.env)] := by rfl) (hbase : attributeBase o "join" X.env (eval o X.env) = eval o X.env := by rfl) (hline : (apos.endLine == pos.line) = true := by rfl) :
    PE X (.Call (.Attribute o "join" apos) [e] [] pos) (tM1 (rJn K) to te) := by
  subst eK
  exact pe_join ho he hs hbase hline
def dJoin (f g : DTE) (ε : Env) (Q : R → Env → Prop) : Prop := f ε fun x ε1 => match x.dat with
  | some (.str a) => g ε1 fun y ε2 => match y.dat with
    | some (.list ds) => ∃ ys, ds = dSs ys ∧ (ys.map (·.length)).sum + ys.length * a.length ≤ 16777216 ∧ Q (.sh (.str (Txt.join a ys))) ε2
    | _ => False
  | _ => False
theorem se_join (hf : SE w ta f) (hg : SE w tb g) : SE w (tM1 (rJn K) ta tb) (dJoin f g) := by
  constructor
  · intro ε A B h q
    refine hf.mono _ _ _ (fun x ε1 q => ?_) q
    split at q
    · refine hg.mono _ _ _ (fun y ε2 q => ?_) q
      split at q
      · obtain ⟨ys, h1, h2, q⟩ := q
        exact ⟨ys, h1, h2, h _ _ q⟩
      · exact q.elim
    · exact q.elim
  · intro Z O σ ε L H Q X q
    refine hf.run Z O σ ε L H _ X (hf.mono _ _ _ (fun x ε1 q => ?_) q)
    intro v L1 H1 X1 e1 r1
    split at q
    · rename_i a ea
      refine ⟨⟨a, (r1.vl ea).str⟩, hg.run Z O σ ε1 L1 H1 _ X1 (hg.mono _ _ _ (fun y ε2 q => ?_) q)⟩
      intro u L2 H2 X2 e2 r2
      split at q
      · rename_i ds eb
        obtain ⟨ys, rfl, h2, q⟩ := q
        obtain ⟨p, xs, rfl, k1, k2⟩ := (r2.vl eb).lst X2.lh
        rw [dvs_strsV k2] at k1
        exact ⟨a, p, ys, (r1.vl ea).str, rfl, .inl (SqL.of k1), h2, q _ L2 H2 X2 (e1.trans e2) (.str _)⟩
      · exact q.elim
    · exact q.elim
def dIterT (f : DTE) (ε : Env) (Q : List PyData → Bool → Env → Prop) : Prop := f ε fun r ε1 => match r.dat with
  | some (.str z) => Q (dSs (sigs z)) true ε1
  | _ => False
theorem walkS_T {L : Hp} {z : Str} : WalkS false L (Its z) (dSs (sigs z)) := by
  have hl : (dSs (sigs z)).length = z.cps.size := by unfold dSs sigs; rw [List.length_map, List.length_map, Array.length_toList]
  refine ⟨fun i L' H' s1 s2 hi => by rw [hl] at hi; exact hi, fun L' H' s1 s2 => by rw [hl]; exact Nat.le_refl _, fun i d L' H' x H2 s1 s2 hd y => ?_⟩
  obtain ⟨rfl, c, hc, rfl⟩ := y
  unfold dSs sigs at hd
  rw [List.getElem?_map, List.getElem?_map, Array.getElem?_toList, hc] at hd
  cases hd
  exact ⟨L', Ext.refl _ _ _, s2, .str _⟩
theorem si_T (hf : SE w ta f) : SI w false (iStr ta) (dIterT f) := by
  constructor
  · intro ε A B h q
    refine hf.mono _ _ _ (fun r ε1 q => ?_) q
    split at q
    · exact h _ _ _ q
    · exact q.elim
  · intro Z O σ ε L H R X q
    refine hf.run Z O σ ε L H _ X (hf.mono _ _ _ (fun r ε1 q => ?_) q)
    intro v L1 H1 X1 e1 r1
    split at q
    · rename_i z ez
      exact ⟨z, (r1.vl ez).str, q _ L1 H1 X1 e1 walkS_T.e fun _ => walkS_T⟩
    · exact q.elim
end
end Lp

namespace Lp
open PySem PySem.Spec PyProof.Rows L2
local macro_rules | `(tactic| rfl') => `(tactic| try dsimp only [dVar_, gv_sh, gv_ow, gv_bx, gv_raw, gv_exn, gv_st, dC, dRaw, dOp, dUn, dTest, dTruth, dAnd, dOr, dNot, dYes, dIf, dAndV, dOrV, dNotV, dNotT, dChain, dNil, dCons, dTup, dLst, dats, dCB, dNoP, dPart, dSl, dNext, dBreak, dCont, dNever, dDrop, dRet, dRetN, dIfS, dSetG, dPar, dPar3, dAppend, dAppPop, dSetIx, dExt, dAug, dSet0, dSAdd, dSNotIn, dIter_, gi_l, gi_t, gi_b, dRng1, dRng2, dName, dGNil, dGCons, dGTup, dAsg, dFor, dWhile, dCall, dCallR, dArgs_, ga_f, ga_t, argsOf, dLc, wipeE, dListRg, dIndex, dSortSet, dSortSc, dEnum, dEnA, dZip, dIsi, dIsi2, isaT, φI, φB, φC, φNeg, add_i, add_l, add_t, mul_i, mul_l, φIx, sl_l, sl_t, eq_i, eq_s, eq_l, eq_t, eq_b, eq_n, φIsN, isN_n, isN_b, isN_i, isN_s, isN_l, isN_t, φLen, φList, φTuple, φAbs, φInt, φMax, φIsB, φIsNB, its_l, its_t, rd_sh, rd_nw, rd_br, rp_sh, rp_nw, rp_br, rp_bx, rp_raw, rp_sr, rr_sh, rr_nw, rr_br, ra_sh, ra_br, ra_bx, ra_raw, va_sh, va_nt, va_nf, va_raw, hb_n, hb_sh, hb_bx, hb_raw, hb_br, sh_n, sh_c, tr_n, tr_b, tr_i, tr_l, tr_t, ty_n, ty_b, ty_i, ty_s, ty_l, ty_t, if_ff, if_tt, Env.set, List.getElem?_cons_succ, List.getElem?_cons_zero, List.set_cons_succ, List.set_cons_zero, List.reverse_cons, List.reverse_nil, List.nil_append, List.cons_append, Option.bind_some, ite_true, ite_false, dCallX, dArgsX_, gx_s, dRaise, dIsX, dAttr, dIsNE, dTupRg1, dTupRg3, dSplit, dJoin, dIterT, φLenS, φIntS, φListS, φInS, φAddS, φMulS, φIxS, φSlS, φStrI])
def digB (w : Str) : Bool := w.cps.toList.all fun c => decide (c ∈ ("0123456789" : Str).cps.toList)
def fstS (w : Str) : Str := ⟨#[w.cps.toList.headD 0]⟩
def numB (w : Str) : Bool := decide (1 ≤ (w.length : Int)) && (decide ((w.length : Int) ≤ 13) && (digB w && (decide (w = "0") || !decide (fstS w = "0"))))
def valS (w : Str) : Int := (PySem.intText? w).getD 0
theorem dig_all : ∀ c ∈ ("0123456789" : Str).cps.toList, 48 ≤ c ∧ c ≤ 57 := by decide +kernel
theorem num_val {w : Str} (h : numB w = true) : PySem.intText? w = some (valS w) ∧ w.length ≤ 640 ∧ 0 ≤ valS w := by
  unfold numB at h
  rw [Bool.and_eq_true, Bool.and_eq_true, Bool.and_eq_true] at h
  obtain ⟨h1, h2, h3, _⟩ := h
  have h1 := of_decide_eq_true h1
  have h2 := of_decide_eq_true h2
  have hl : w.length ≤ 13 := by omega
  have hne : w.cps.toList ≠ [] := fun e => by
    have : w.length = 0 := by
      show w.cps.size = 0
      rw [← Array.length_toList, e]; rfl
    omega
  have hd : NumText.AllDigits w.cps.toList := fun c hc => by
    unfold digB at h3
    exact dig_all c (of_decide_eq_true (List.all_eq_true.mp h3 c hc))
  have e := intText_digits hd hne (by omega)
  refine ⟨?_, by omega, ?_⟩
  · unfold valS; rw [e]; rfl
  · unfold valS; rw [e]; exact Int.natCast_nonneg _
theorem fst_at {w : Str} (h : 1 ≤ (w.length : Int)) : ∃ c, atI w.cps.toList 0 = some c ∧ (⟨#[c]⟩ : Str) = fstS w := by
  have hl : w.cps.toList.length = w.length := Array.length_toList
  unfold fstS
  cases e : w.cps.toList with
  | nil => rw [e] at hl; rw [← hl] at h; exact absurd h (by decide)
  | cons c r => exact ⟨c, by rw [atI_nat (by decide) (by rw [List.length_cons]; omega)]; rfl, rfl⟩
/-- is_number: word, sign -/
def b_is_number : DTS := (dSeq (dIfS (dOr (dNot (dTest (dChain (φB fun i j => decide (i ≤ j)) (φB fun i j => decide (i ≤ j)) (dC (.int 1)) (dCB φLenS (dCons (dVar 0) dNil)) (dC (.int (13)))))) (dNot (dTruth (dCB (φAll false) (dCons (dLc (dIterT (dVar 0)) (dName 1) dYes (dOp φInS (dVar 1) (dC (.str "0123456789"))) [1]) dNil))))) (dRet (dC (.bool false))) dNext)
  (dRet (dOrV (dOp (φEq false) (dVar 0) (dC (.str "0"))) (dOp (φEq true) (dOp φIxS (dVar 0) (dC (.int 0))) (dC (.str "0"))))))
abbrev k_is_number : Nat := 1
def p_is_number : DSp := fun args c Q => ∃ w : Str, args = [.sh (.str w)] ∧ w.length ≤ 1000 ∧ Q (.sh (.bool (numB w))) c
theorem mon_is_number : MonF p_is_number := fun args c A B h ⟨w, e, h1, q⟩ => ⟨w, e, h1, h _ _ q⟩
theorem m_is_number : ∀ args c Q, p_is_number args c Q → defF k_is_number b_is_number args c Q := by
  rintro _ c Q ⟨w, rfl, h1, q⟩
  show b_is_number _ ⟨[.sh (.str w), .un], c⟩
  unfold b_is_number
  refine sq_ ?_
  rfl'
  have tail : digB w = true → 1 ≤ (w.length : Int) → (w.length : Int) ≤ 13 → if decide (w = "0") = true then Q (.sh (.bool true)) c else (w.length ≤ sizeLine ∧ ∃ c0, atI w.cps.toList 0 = some c0 ∧ Q (.sh (.bool (!decide ((⟨#[c0]⟩ : Str) = "0")))) c) := fun h2 h3 h4 => by
    unfold numB at q
    rw [decide_eq_true h3, decide_eq_true h4, h2] at q
    refine it_2 (fun e => ?_) fun e => ?_
    · rw [decide_eq_true e] at q; exact q
    · rw [decide_eq_false e] at q
      obtain ⟨c0, e1, e2⟩ := fst_at h3
      refine ⟨show w.length ≤ 16777216 by omega, c0, e1, ?_⟩
      rw [e2]; exact q
  have no : (1 ≤ (w.length : Int) → (w.length : Int) ≤ 13 → digB w = false) → Q (.sh (.bool false)) c := fun h => by
    unfold numB at q
    by_cases a : 1 ≤ (w.length : Int)
    · by_cases b : (w.length : Int) ≤ 13
      · rw [decide_eq_true a, decide_eq_true b, h a b] at q; exact q
      · rw [decide_eq_true a, decide_eq_false b] at q; exact q
    · rw [decide_eq_false a] at q; exact q
  refine ⟨show w.length ≤ 16777216 by omega, ?_⟩
  refine it_2 (fun h2 => ?_) fun h2 => ?_
  · rfl'
    by_cases h3 : (w.length : Int) ≤ 13
    · refine in_f h3 ?_
      rw [show dSs (sigs w) = w.cps.toList.map (fun c => PyData.str ⟨#[c]⟩) from by unfold dSs sigs; rw [List.map_map]; rfl]
      refine lc_all (fun c : Nat => PyData.str ⟨#[c]⟩) (fun c => .bool (decide (c ∈ ("0123456789" : Str).cps.toList))) _ [] (fun x _ K hK => ?_) (by
        rw [List.length_nil, Nat.zero_add, Array.length_toList]
        show w.length ≤ _
        omega) ?_
      · rfl'
        exact ⟨x, rfl, hK _ _ rfl rfl⟩
      · rw [List.nil_append, dB_map]
        rfl'
        refine φAll_dB ?_
        rw [List.all_map, if_neg Bool.false_ne_true]
        cases e : digB w with
        | true =>
          rw [show (w.cps.toList.all (id ∘ fun c => decide (c ∈ ("0123456789" : Str).cps.toList))) = true from e]
          rfl'
          refine if_f rfl ?_
          exact tail e h2 h3
        | false =>
          rw [show (w.cps.toList.all (id ∘ fun c => decide (c ∈ ("0123456789" : Str).cps.toList))) = false from e]
          rfl'
          refine if_t rfl ?_
          exact no fun _ _ => e
    · refine in_t h3 ?_
      exact no fun _ a => absurd a h3
  · refine if_t rfl ?_
    exact no fun a => absurd a h2
/-- is_number_below: word, limit -/
def b_is_number_below : DTS := (dRet (dAndV (dCall p_is_number (dCons (dVar 0) dNil)) (dOp (φB fun i j => decide (i < j)) (dCB φIntS (dCons (dVar 0) dNil)) (dVar 1))))
abbrev k_is_number_below : Nat := 0
def belB (n : Int) (w : Str) : Bool := numB w && decide (valS w < n)
def p_is_number_below : DSp := fun args c Q => ∃ (w : Str) (n : Int), args = [.sh (.str w), .sh (.int n)] ∧ w.length ≤ 1000 ∧ Q (.sh (.bool (belB n w))) c
theorem mon_is_number_below : MonF p_is_number_below := fun args c A B h ⟨w, n, e, h1, q⟩ => ⟨w, n, e, h1, h _ _ q⟩
theorem m_is_number_below : ∀ args c Q, p_is_number_below args c Q → defF k_is_number_below b_is_number_below args c Q := by
  rintro _ c Q ⟨w, n, rfl, h1, q⟩
  show b_is_number_below _ ⟨[.sh (.str w), .sh (.int n)], c⟩
  unfold b_is_number_below
  rfl'
  refine ⟨w, rfl, h1, ?_⟩
  rfl'
  unfold belB at q
  by_cases z : numB w = true
  · rw [z] at q
    refine if_t z ?_
    obtain ⟨h2, h3, _⟩ := num_val z
    refine ⟨_, h2, h3, ?_⟩
    exact q
  · have z : numB w = false := by cases h : numB w with
      | true => exact absurd h z
      | false => rfl
    rw [z] at q
    refine if_f z ?_
    exact q
def firstF : List Bool → Option Nat
  | [] => none
  | true :: r => (firstF r).map (· + 1)
  | false :: _ => some 0
theorem enD_dB (bs : List Bool) : enD (dB bs) = (bs.zipIdx 0).map fun p => .tuple [.int (p.2 : Nat), .bool p.1] := by
  unfold enD dB
  rw [List.mapIdx_eq_zipIdx_map, List.zipIdx_map, List.map_map]; rfl
def partsF (m : Str) : List Str := Txt.split m " "
def okF (k : Int) (n : Int) (w : Str) : Bool := if k = 1 then numB w else if k = 2 then decide (w = "?") || belB n w else belB n w
def itF (k : Int) (w : Str) : PyData := if k = 2 ∧ w = "?" then .none else .int (valS w)
def badF (k : Int) (m : Str) : Option Nat := firstF ((partsF m).map (okF k (partsF m).length))
theorem part_len {m w : Str} (h : w ∈ partsF m) (hm : m.length ≤ 900) : w.length ≤ 900 := Nat.le_trans (PyProof.Rows.part_short h) hm
theorem parts_len {m : Str} (hm : m.length ≤ 900) : (partsF m).length ≤ 902 := Nat.le_trans (PyProof.Rows.split_le _ _) (by omega)
theorem dSs_len (ys : List Str) : (dSs ys).length = ys.length := List.length_map _
theorem first_all : ∀ {bs : List Bool}, firstF bs = none → ∀ b ∈ bs, b = true
  | [], _, _, h => nomatch h
  | false :: _, e, _, _ => nomatch e
  | true :: bs, e, b, h => by
    rcases List.mem_cons.mp h with h | h
    · exact h
    · refine first_all (bs := bs) ?_ b h
      cases z : firstF bs with
      | none => rfl
      | some i => rw [show firstF (true :: bs) = (firstF bs).map (· + 1) from rfl, z] at e; cases e
theorem bad_ok {k : Int} {m w : Str} (e : badF k m = none) (h : w ∈ partsF m) : okF k (partsF m).length w = true := first_all e _ (List.mem_map_of_mem h)
theorem ok_num {k n : Int} {w : Str} (h : okF k n w = true) (h2 : ¬ (k = 2 ∧ w = "?")) : numB w = true := by
  unfold okF at h
  by_cases a : k = 1
  · rw [if_pos a] at h; exact h
  · rw [if_neg a] at h
    by_cases b : k = 2
    · rw [if_pos b, Bool.or_eq_true] at h
      rcases h with h | h
      · exact absurd ⟨b, of_decide_eq_true h⟩ h2
      · unfold belB at h; rw [Bool.and_eq_true] at h; exact h.1
    · rw [if_neg b] at h
      unfold belB at h; rw [Bool.and_eq_true] at h; exact h.1
theorem it_num {k : Int} {w : Str} (h : ¬ (k = 2 ∧ w = "?")) : itF k w = .int (valS w) := if_neg h
theorem ok_of {k n : Int} {w : Str} (q : ¬ (k = 2 ∧ w = "?")) : okF k n w = (numB w && (decide (k = 1) || decide (valS w < n))) := by
  unfold okF
  by_cases a : k = 1
  · rw [if_pos a, decide_eq_true a, Bool.true_or, Bool.and_true]
  · rw [if_neg a, decide_eq_false a, Bool.false_or]
    by_cases b : k = 2
    · rw [if_pos b, decide_eq_false fun e => q ⟨b, e⟩, Bool.false_or]; rfl
    · rw [if_neg b]; rfl
end Lp

namespace Lp
open PySem PySem.Spec PyProof.Rows L2
section
variable {w : Wx} {Z : Zx} {O : Addr → Prop} {σ : L2.St} {ε : Env} {L H : Hp} {k : Nat} {a : Addr} {xs : List V} {ds : List PyData}
theorem VR0.old {Hs Hs' : Hp} {v : V} {r : R} (h : ∀ b, Hs b = none → Hs' b = none) (x : VR0 Hs L H v r) : VR0 Hs' L H v r := by
  cases r with
  | nw ds =>
    obtain ⟨b, ys, rfl, h1, h2⟩ := x
    exact ⟨b, ys, rfl, h b h1, h2⟩
  | dnw rows =>
    obtain ⟨b, rfl, h1, h2⟩ := x
    exact ⟨b, rfl, h b h1, h2⟩
  | _ => exact x
end
section
variable {w : Wx} {K : PySem.W.Frag}
end
end Lp

namespace Lp
open PySem PySem.Spec PyProof.Rows L2
def wO (x : SV) : SV := if Own x = true then .un else x
def wipeO : List SV → List SV
  | [] => []
  | x :: xs => wO x :: wipeO xs
theorem wo_n : wipeO [] = [] := rfl
theorem wo_c {x : SV} {l : List SV} : wipeO (x :: l) = wO x :: wipeO l := rfl
theorem wo_un : wO .un = .un := rfl
theorem wo_sh {d : PyData} : wO (.sh d) = .sh d := rfl
theorem wo_ow {d : List PyData} : wO (.ow d) = .un := rfl
theorem wo_bx : wO .bx = .bx := rfl
theorem wo_raw {v : V} : wO (.raw v) = .raw v := rfl
theorem wo_exn {v : Xn} : wO (.exn v) = .exn v := rfl
theorem wo_dsh {v : List DRow} : wO (.dsh v) = .dsh v := rfl
theorem wo_dco {v : List DRow} : wO (.dco v) = .un := rfl
theorem wipeO_len : ∀ l : List SV, (wipeO l).length = l.length
  | [] => rfl
  | x :: l => congrArg (· + 1) (wipeO_len l)
theorem wipeO_get : ∀ (l : List SV) (i : Nat) (x : SV), (wipeO l)[i]? = some x → x = .un ∨ (Own x = false ∧ l[i]? = some x)
  | [], i, x, h => by simp [wipeO] at h
  | y :: l, 0, x, h => by
    have h : (if Own y = true then SV.un else y) = x := by simpa [wipeO, wO] using h
    cases e : Own y with
    | true => rw [if_pos e] at h; exact .inl h.symm
    | false => rw [if_neg (by rw [e]; decide)] at h; subst h; exact .inr ⟨e, rfl⟩
  | y :: l, i + 1, x, h => by
    have h : (wipeO l)[i]? = some x := by simpa [wipeO] using h
    rcases wipeO_get l i x h with r | ⟨a, b⟩
    · exact .inl r
    · exact .inr ⟨a, by simpa using b⟩
section
variable {w : Wx} {ta tb : TE} {f g : DTE} {tt : TT} {T : DTT} {tr : TS} {rest : DTS} {K : PySem.W.Frag}
/-- what stood before is there after a run beside it; one new list may have changed -/
theorem Rep.after {Z : Zx} {O : Addr → Prop} {σ : L2.St} {ε : Env} {L H H' : Hp} {i : Nat} {v : V} {c : Nat} (X : Rep w Z O L H σ ε)
    (hh : ∀ a o, H a = some o → Z.b ≠ some a → (L a ≠ none ∨ O a ∨ Z.H0 a ≠ none) → H' a = some o) (hb : ∀ b, Z.b = some b → Box H' b c) (nn : ∀ a, H a ≠ none → H' a ≠ none) :
    Rep w Z O L H' (σ.set i (some v)) ⟨ε.s.set i .un, c⟩ := by
  have nbL : ∀ a, L a ≠ none → Z.b ≠ some a := fun a h e => h (X.bo a e).1
  refine ⟨fun a o h => hh a o (X.lh a o h) (nbL a (by rw [h]; exact fun z => nomatch z)) (.inl (by rw [h]; exact fun z => nomatch z)), X.pn, ⟨X.ex.ll, fun a o h nb => hh a o (X.ex.hh a o h nb) nb (.inr (.inr (by rw [h]; exact fun z => nomatch z))), fun a h => nn a (X.ex.dom a h), X.ex.fr⟩, fun b e => ⟨(X.bo b e).1, hb b e, (X.bo b e).2.2⟩, fun a h => ⟨nn a (X.oh a h).1, (X.oh a h).2⟩, ?_, fun j y hy => ?_, fun j k y z a hjk hy hz oy oz e => ?_, X.ph⟩
  · show (σ.set i (some v)).length = (ε.s.set i .un).length
    rw [List.length_set, List.length_set]; exact X.len
  · rcases get_set hy with ⟨rfl, rfl, hl⟩ | ⟨ne, hy1⟩
    · exact ⟨some v, by rw [List.getElem?_set, if_pos rfl, if_pos (by rw [X.len]; exact hl)], trivial⟩
    · obtain ⟨o, q1, q2⟩ := X.sl j y hy1
      refine ⟨o, by rw [List.getElem?_set, if_neg ne]; exact q1, ?_⟩
      have keep : ∀ (a : Addr) (u : HO), O a → H a = some u → Z.H0 a = none → H' a = some u := fun a u oa h h0 => hh a u h (X.nob h0) (.inr (.inl oa))
      cases y with
      | ow ds => obtain ⟨a, xs, e1, e2, e3, e4, e5, e6⟩ := q2; exact ⟨a, xs, e1, e2, e3, e4, keep a _ e2 e5 e4, e6⟩
      | st S n => obtain ⟨a, e1, e2, e3, e4, e5⟩ := q2; exact ⟨a, e1, e2, e3, e4, keep a _ e2 e5 e4⟩
      | dco xs => obtain ⟨a, e1, e2, e3, e4, ⟨ob, e5⟩, e6⟩ := q2; exact ⟨a, e1, e2, e3, e4, ⟨ob, keep a _ e2 e5 e4⟩, e6⟩
      | sto M => obtain ⟨a, A, e1, e2, e3, e4, e5, e6⟩ := q2; exact ⟨a, A, e1, e2, e3, e4, keep a _ e2 e5 e4, e6⟩
      | _ => exact q2
  · rcases get_set hy with ⟨rfl, rfl, _⟩ | ⟨ne, hy1⟩
    · cases oy
    · rcases get_set hz with ⟨rfl, rfl, _⟩ | ⟨ne', hz1⟩
      · cases oz
      · rw [List.getElem?_set, if_neg ne] at e
        rw [List.getElem?_set, if_neg ne']
        exact X.di j k y z a hjk hy1 hz1 oy oz e
end
end Lp

namespace Lp
open PySem PySem.Spec PyProof.Rows L2
def dNest3 (i : Nat) (f g h : DTE) (T : DTT) (rest : DTS) (Δ : DEnds) (ε : Env) : Prop :=
  f ε fun r ε1 => g ε1 fun q ε2 => h ε2 fun u ε3 => match r, q, u with
    | .sh d0, .nw ds, .sh d2 => ds.length < sizeLine ∧ i < ε3.s.length ∧ T ⟨wipeO (ε3.s.set i (.sh (.list [d0, .list ds, d2]))), ε3.c⟩ fun k ε4 => if k = true then Δ.rt (.sh (.bool false)) ⟨ε3.s.set i .un, ε4.c⟩ else rest Δ ⟨ε3.s.set i .un, ε4.c⟩
    | _, _, _ => False
section
variable {w : Wx} {ta tb tc : TE} {f g h : DTE} {tt : TT} {T : DTT} {tr : TS} {rest : DTS} {K : PySem.W.Frag}
theorem ss_nest3 {i : Nat} {z : Int} (ph : ∀ Z, w.Φ Z) (hf : SE w ta f) (hg : SE w tb g) (hh : SE w tc h) (hT : ST w tt T) (hr : SS w tr rest) :
    SS w (tSeq (tAsg (tLst (tCons ta (tCons tb (tCons tc tNil)))) (gName i)) (tSeq (tIfS tt (tRet (tC (.bl false))) tNext) (tSeq (tDrop (tBM K "list" rAppend (tOp (rIx K) (tVar i) (tC (.int 1))) (tCons (tC (.int z)) tNil))) tr))) (dNest3 i f g h T rest) := by
  constructor
  · intro Δ Δ' ε l q
    refine hf.mono _ _ _ (fun r ε1 q => hg.mono _ _ _ (fun s ε2 q => hh.mono _ _ _ (fun u ε3 q => ?_) q) q) q
    split at q
    · refine ⟨q.1, q.2.1, hT.mono _ _ _ (fun k ε3 q => ?_) q.2.2⟩
      cases k with
      | true => rw [if_pos rfl] at q ⊢; exact l.rt _ _ q
      | false => rw [if_neg Bool.false_ne_true] at q ⊢; exact hr.mono _ _ _ l q
    · exact q.elim
  · intro Z O σ ε L H D Δ X E q
    show ta σ H _
    refine hf.run Z O σ ε L H _ X (hf.mono _ _ _ (fun r ε1 q => ?_) q)
    intro v0 L1 H1 X1 e1 r0
    refine hg.run Z O σ ε1 L1 H1 _ X1 (hg.mono _ _ _ (fun s ε2 q => ?_) q)
    intro v1 L2 H2 X2 e2 r1
    refine hh.run Z O σ ε2 L2 H2 _ X2 (hh.mono _ _ _ (fun u ε3 q => ?_) q)
    intro v2 L3 H3 X3 e3 r2
    cases r with
    | sh d0 => cases s with
     | nw ds => cases u with
      | sh d2 =>
       obtain ⟨qs, hi, q⟩ := q
       have r0 : DV L3 v0 d0 := (show DV L1 v0 d0 from r0).to (fun a o h => e3.ll a o (e2.ll a o h))
       have r2 : DV L3 v2 d2 := r2
       obtain ⟨a1, xs, rfl, _, o1, f1, l1, h1, d1⟩ := r1.mono X2 e3
       refine ⟨by show 3 ≤ sizeLine; decide, fun p np => ?_⟩
       have np1 : a1 ≠ p := fun e => by rw [e, np] at h1; cases h1
       have fp : Z.H0 p = none := X3.ex.free np
       obtain ⟨H4, hH4⟩ : ∃ H4, H4 = upd H3 p (.lst [v0, .ref a1, v2]) := ⟨_, rfl⟩
       obtain ⟨L4, hL4⟩ : ∃ L4 : Hp, L4 = fun a => if a = p ∨ a = a1 then H4 a else L3 a := ⟨_, rfl⟩
       have k1 : ∀ a, a = p ∨ a = a1 → L4 a = H4 a := fun a h => by rw [hL4]; exact if_pos h
       have k0 : ∀ a, ¬ (a = p ∨ a = a1) → L4 a = L3 a := fun a h => by rw [hL4]; exact if_neg h
       have up4 : ∀ a o, H3 a = some o → H4 a = some o := fun a o h => by rw [hH4, upd_ne (fun e => by rw [e, np] at h; cases h)]; exact h
       have hp : H4 p = some (.lst [v0, .ref a1, v2]) := by rw [hH4, upd_same]
       have s34 : Same L3 L4 := fun a o h => by
         by_cases m : a = p ∨ a = a1
         · rw [k1 a m]; exact up4 a o (X3.lh a o h)
         · rw [k0 a m]; exact h
       have s44 : Same L4 H4 := fun a o h => by
         by_cases m : a = p ∨ a = a1
         · rw [k1 a m] at h; exact h
         · rw [k0 a m] at h; exact up4 a o (X3.lh a o h)
       have nb : ∀ a, a = p ∨ a = a1 → Z.b ≠ some a := fun a m => by
         rcases m with rfl | rfl
         · exact X3.nob fp
         · exact X3.nob f1
       have dv : DV L4 (.ref p) (.list [d0, .list ds, d2]) :=
         .lst ((k1 p (.inl rfl)).trans hp) (.cons (r0.to s34) (.cons (.lst ((k1 a1 (.inr rfl)).trans (up4 _ _ h1)) (d1.to s34)) (.cons (r2.to s34) .nil)))
       have X4 : Rep w ⟨Z.b, L4, H4, fun _ => none⟩ (fun _ => False) L4 H4 (σ.set i (some (.ref p))) ⟨wipeO (ε3.s.set i (.sh (.list [d0, .list ds, d2]))), ε3.c⟩ := by
         refine ⟨s44, (fun a o h => nomatch h), Ext.refl _ _ _, fun b e => ?_, fun _ h => h.elim, ?_, fun j y hy => ?_, fun j k y y2 a _ hy _ oy _ _ => ?_, ph _⟩
         · obtain ⟨q1, q2, q3⟩ := X3.bo b e
           have m : ¬ (b = p ∨ b = a1) := fun m => nb b m e
           have bx : Box H4 b ε3.c := q2.keep (by rw [hH4, upd_ne fun e => m (.inl e)])
           exact ⟨by rw [k0 b m]; exact q1, bx, bx.there⟩
         · show (σ.set i _).length = (wipeO _).length
           rw [wipeO_len, List.length_set, List.length_set]; exact X3.len
         · rcases wipeO_get _ _ _ hy with rfl | ⟨ny, hy⟩
           · have hl : j < (σ.set i (some (.ref p))).length := by
               have := (List.getElem?_eq_some_iff.mp hy).1
               rw [wipeO_len, List.length_set] at this
               rw [List.length_set, X3.len]; exact this
             exact ⟨_, List.getElem?_eq_getElem hl, trivial⟩
           · rcases get_set hy with ⟨rfl, rfl, hl⟩ | ⟨ne, hy1⟩
             · exact ⟨some (.ref p), by rw [List.getElem?_set, if_pos rfl, if_pos (by rw [X3.len]; exact hl)], .ref p, rfl, dv⟩
             · obtain ⟨o, q1, q2⟩ := X3.sl j y hy1
               refine ⟨o, by rw [List.getElem?_set, if_neg ne]; exact q1, ?_⟩
               cases y with
               | un => trivial
               | sh d => obtain ⟨v, e1, e2⟩ := q2; exact ⟨v, e1, e2.to s34⟩
               | bx => exact q2
               | raw u => exact q2
               | exn x => obtain ⟨v, e1, e2⟩ := q2; exact ⟨v, e1, e2.to s34⟩
               | dsh xs => obtain ⟨v, e1, e2⟩ := q2; exact ⟨v, e1, e2.to s34⟩
               | gen g => obtain ⟨v, e1, e2⟩ := q2; exact ⟨v, e1, g.mono s34 e2⟩
               | _ => cases ny
         · rcases wipeO_get _ _ _ hy with rfl | ⟨ny, _⟩
           · cases oy
           · rw [ny] at oy; cases oy
       show tIfS tt _ _ _ (σ.set i (some (.ref p))) (upd H3 p _)
       rw [← hH4]
       refine hT.run _ _ _ _ L4 H4 _ X4 (hT.mono _ _ _ (fun k ε4 q => ?_) q)
       intro L5 H5 X5 e5
       have up5 : ∀ a o, H3 a = some o → Z.b ≠ some a → H5 a = some o := fun a o h n => e5.hh a o (up4 a o h) n
       have nn : ∀ a, H3 a ≠ none → H5 a ≠ none := fun a h => e5.dom a (by
         cases e : H3 a with
         | none => exact absurd e h
         | some o => rw [up4 a o e]; exact fun z => nomatch z)
       cases k with
       | true =>
         rw [if_pos rfl] at q
         rw [if_pos rfl]
         have X6 := X3.after (H' := H5) (i := i) (v := .ref p) (c := ε4.c) (fun a o h n _ => up5 a o h n) (fun b e => (X5.bo b e).2.1) nn
         exact E.rt O _ _ L3 H5 (.bl false) (.sh (.bool false)) X6 (.bl false) q
       | false =>
         rw [if_neg Bool.false_ne_true] at q
         rw [if_neg Bool.false_ne_true]
         have g1 : H5 a1 = some (.lst xs) := up5 _ _ h1 (X3.nob f1)
         have gp : H5 p = some (.lst [v0, .ref a1, v2]) := e5.hh p _ hp (X3.nob fp)
         have X6 := X3.after (H' := upd H5 a1 (.lst (xs ++ [.int z]))) (i := i) (v := .ref p) (c := ε4.c) (fun a o h n m => by
             have na : a ≠ a1 := fun e => by
               subst e
               rcases m with m | m | m
               · exact m l1
               · exact o1 m
               · exact m f1
             rw [upd_ne na]; exact up5 a o h n)
           (fun b e => (X5.bo b e).2.1.keep (upd_ne fun q => X3.nob f1 (by rw [← q]; exact e)))
           (fun a h => by
             by_cases e : a = a1
             · rw [e, upd_same]; exact fun z => nomatch z
             · rw [upd_ne e]; exact nn a h)
         have fin := hr.run Z O _ _ L3 _ D Δ X6 E q
         show ∃ v, (σ.set i (some (.ref p)))[i]? = some (some v) ∧ _
         refine ⟨.ref p, ?_, ?_⟩
         · rw [List.getElem?_set, if_pos rfl, if_pos (by rw [X3.len]; exact hi)]
         · refine .inl ⟨p, _, 1, .ref a1, rfl, rfl, SqL.of gp, rfl, .inl ⟨rfl, _, SqL.of g1⟩, a1, xs, .int z, rfl, rfl, g1, ?_, fin⟩
           rw [d1.len]; exact qs
      | _ => exact q.elim
     | _ => cases u <;> exact q.elim
    | _ => cases s <;> cases u <;> exact q.elim
end
end Lp

namespace Lp
open PySem PySem.Spec PyProof.Rows L2
def rStrX : List V → Hp → VK → Prop := fun xs H Q => (∃ i : Int, xs = [.int i] ∧ i.natAbs.log2 < 1920 ∧ Q (.str (toString i)) H) ∨ ∃ x : Str, xs = [.str x] ∧ Q (.str x) H
theorem call_strX {X : Cx} : CallR X (.type "str") rStrX := by
  refine CallR.or call_strI ?_
  intro pins s σ H xs us Q I r h
  obtain ⟨x, rfl, q⟩ := h
  obtain ⟨u, rfl, ru⟩ := vals1 r
  obtain ⟨t, rfl⟩ := ru
  exact PySem.P.str_of_str ⟨.str _, H, I, ⟨_, rfl⟩, q⟩
def φStrX (ds : List PyData) (Q : R → Prop) : Prop := match ds with
  | [.int i] => i.natAbs.log2 < 1920 ∧ Q (.sh (.str (toString i)))
  | [.str x] => Q (.sh (.str x))
  | _ => False
theorem rc_strX : RCK rStrX φStrX := by
  constructor
  · intro x A B hAB q
    unfold φStrX at q ⊢
    split at q
    · exact ⟨q.1, hAB _ q.2⟩
    · exact hAB _ q
    · exact q.elim
  · intro L H xs ds Q s hx q
    unfold φStrX at q
    split at q
    · rename_i i
      cases hx with
      | cons a r =>
        cases r
        exact .inl ⟨i, by rw [a.int], q.1, q.2 _ L H (Ext.refl _ _ _) s (.str _)⟩
    · rename_i x
      cases hx with
      | cons a r =>
        cases r
        exact .inr ⟨x, by rw [a.str], q _ L H (Ext.refl _ _ _) s (.str _)⟩
    · exact q.elim
end Lp

namespace Lp
open PySem PySem.Spec PyProof.Rows L2
local macro_rules | `(tactic| rfl') => `(tactic| try dsimp only [dVar_, gv_sh, gv_ow, gv_bx, gv_raw, gv_exn, gv_st, dC, dRaw, dOp, dUn, dTest, dTruth, dAnd, dOr, dNot, dYes, dIf, dAndV, dOrV, dNotV, dNotT, dChain, dNil, dCons, dTup, dLst, dats, dCB, dNoP, dPart, dSl, dNext, dBreak, dCont, dNever, dDrop, dRet, dRetN, dIfS, dSetG, dPar, dPar3, dAppend, dAppPop, dSetIx, dExt, dAug, dSet0, dSAdd, dSNotIn, dIter_, gi_l, gi_t, gi_b, dRng1, dRng2, dName, dGNil, dGCons, dGTup, dAsg, dFor, dWhile, dCall, dCallR, dArgs_, ga_f, ga_t, argsOf, dLc, wipeE, dListRg, dIndex, dSortSet, dSortSc, dEnum, dEnA, dZip, dIsi, dIsi2, isaT, φI, φB, φC, φNeg, add_i, add_l, add_t, mul_i, mul_l, φIx, sl_l, sl_t, eq_i, eq_s, eq_l, eq_t, eq_b, eq_n, φIsN, isN_n, isN_b, isN_i, isN_s, isN_l, isN_t, φLen, φList, φTuple, φAbs, φInt, φMax, φIsB, φIsNB, its_l, its_t, rd_sh, rd_nw, rd_br, rp_sh, rp_nw, rp_br, rp_bx, rp_raw, rp_sr, rr_sh, rr_nw, rr_br, ra_sh, ra_br, ra_bx, ra_raw, va_sh, va_nt, va_nf, va_raw, hb_n, hb_sh, hb_bx, hb_raw, hb_br, sh_n, sh_c, tr_n, tr_b, tr_i, tr_l, tr_t, ty_n, ty_b, ty_i, ty_s, ty_l, ty_t, if_ff, if_tt, Env.set, List.getElem?_cons_succ, List.getElem?_cons_zero, List.set_cons_succ, List.set_cons_zero, List.reverse_cons, List.reverse_nil, List.nil_append, List.cons_append, Option.bind_some, ite_true, ite_false, dCallX, dArgsX_, gx_s, dRaise, dIsX, dAttr, dIsNE, dTupRg1, dTupRg3, dNest3, φStrX, wo_n, wo_c, wo_un, wo_sh, wo_ow, wo_bx, wo_raw, wo_exn, wo_dsh, wo_dco, dSplit, dJoin, dIterT, φLenS, φIntS, φListS, φInS, φAddS, φMulS, φIxS, φSlS, φStrI])
abbrev St (i : Int) : Str := Str.ofString (toString i)
theorem lead_ne : ∀ n : Nat, 0 < n → (TL.numL n).headD 0 ≠ 48 := by
  intro n
  induction n using Nat.strongRecOn with
  | _ n ih =>
    intro h0
    by_cases h : n < 10
    · rw [TL.numL_lt h]
      show 48 + n ≠ 48
      omega
    · rw [TL.numL_step (by omega)]
      have := ih (n / 10) (by omega) (by omega)
      cases e : TL.numL (n / 10) with
      | nil => exact absurd e (TL.numL_ne _)
      | cons a r => rw [e] at this; exact this
theorem dig_mem {c : Nat} (h : 48 ≤ c ∧ c ≤ 57) : c ∈ ("0123456789" : Str).cps.toList := by
  have : ∀ k : Fin 10, 48 + k.val ∈ ("0123456789" : Str).cps.toList := by decide +kernel
  have := this ⟨c - 48, by omega⟩
  rw [show 48 + (c - 48) = c by omega] at this
  exact this
structure NumS (i : Int) : Prop where
  num : numB (St i) = true
  val : valS (St i) = i
  nq : St i ≠ "?"
  nd : St i ≠ "-"
  sp : 32 ∉ TL.tl (St i)
  le : (St i).length ≤ 13
  lg : i.natAbs.log2 < 1920
theorem num_S {i : Int} (h0 : 0 ≤ i) (h1 : i < 10000000000000) : NumS i := by
  obtain ⟨n, rfl⟩ := Int.eq_ofNat_of_zero_le h0
  have hn : n < 10 ^ 13 := by omega
  have et : (St (n : Int)).cps.toList = TL.numL n := TL.tl_num n
  have el : (St (n : Int)).length = (TL.numL n).length := by rw [← et]; exact Array.length_toList.symm
  have l13 := TL.numL_len (k := 13) (by decide) hn
  have l1 : 1 ≤ (TL.numL n).length := by
    cases e : TL.numL n with
    | nil => exact absurd e (TL.numL_ne _)
    | cons a r => rw [List.length_cons]; omega
  have dg := TL.numL_digits n
  have db : digB (St (n : Int)) = true := by
    unfold digB
    rw [et]
    exact List.all_eq_true.mpr fun c hc => decide_eq_true (dig_mem (dg c hc))
  have no : ∀ c : Nat, (c < 48 ∨ 57 < c) → St (n : Int) ≠ ⟨#[c]⟩ := fun c hc e => by
    have : (St (n : Int)).cps.toList = [c] := by rw [e]
    rw [et] at this
    exact TL.numL_free hc (by rw [this]; exact List.mem_singleton.mpr rfl)
  refine ⟨?_, ?_, no 63 (by omega), no 45 (by omega), ?_, by omega, ?_⟩
  · unfold numB
    rw [el, decide_eq_true (show (1 : Int) ≤ ((TL.numL n).length : Int) by omega), decide_eq_true (show ((TL.numL n).length : Int) ≤ 13 by omega), db]
    by_cases z : n = 0
    · subst z
      rfl
    · have : fstS (St (n : Int)) ≠ "0" := fun e => by
        unfold fstS at e
        rw [et] at e
        have := congrArg (fun s : Str => s.cps.toList) e
        exact lead_ne n (by omega) (List.cons.inj this).1
      rw [decide_eq_false this]
      simp
  · unfold valS
    rw [TL.int_num (by omega)]; rfl
  · show 32 ∉ (St (n : Int)).cps.toList
    rw [et]
    exact TL.numL_free (by omega)
  · show n.log2 < 1920
    by_cases z : n = 0
    · subst z; decide
    · exact (Nat.log2_lt z).mpr (Nat.lt_of_lt_of_le hn (Nat.le_trans (show 10 ^ 13 ≤ 2 ^ 44 by decide) (Nat.pow_le_pow_right (by decide) (by decide))))
theorem joinL_len (S : List Nat) : ∀ ps : List (List Nat), (TL.joinL S ps).length ≤ (ps.map List.length).sum + ps.length * S.length
  | [] => Nat.zero_le _
  | [p] => by
    show p.length ≤ (p.length + 0) + 1 * S.length
    omega
  | p :: q :: r => by
    have := joinL_len S (q :: r)
    show (p ++ (S ++ TL.joinL S (q :: r))).length ≤ _
    rw [List.length_append, List.length_append, List.map_cons, List.sum_cons, List.length_cons, Nat.succ_mul]
    omega
theorem join_len (y : Str) (ys : List Str) : (Txt.join y ys).length ≤ (ys.map (·.length)).sum + ys.length * y.length := by
  have tlen : ∀ x : Str, (TL.tl x).length = x.length := fun x => Array.length_toList
  rw [← tlen, TL.join_eq, TL.tl_join]
  have := joinL_len (TL.tl y) (ys.map TL.tl)
  rw [List.map_map, List.length_map, tlen] at this
  rw [show ys.map (·.length) = ys.map (List.length ∘ TL.tl) from List.map_congr_left fun x _ => (tlen x).symm]
  exact this
theorem sum_le {α : Type} (f : α → Nat) (B : Nat) : ∀ ys : List α, (∀ y ∈ ys, f y ≤ B) → (ys.map f).sum ≤ ys.length * B
  | [], _ => by simp
  | y :: ys, h => by
    have := sum_le f B ys fun z hz => h z (List.mem_cons_of_mem _ hz)
    have := h y List.mem_cons_self
    rw [List.map_cons, List.sum_cons, List.length_cons, Nat.succ_mul]
    omega
/-- words: numbers, or nobody -/
def wS : Option Int → Str
  | none => "?"
  | some i => St i
abbrev jn (ps : List Str) : Str := Txt.join " " ps
def Wrd (B : Nat) (o : Option Int) : Prop := ∀ i, o = some i → 0 ≤ i ∧ i < 10000000000000 ∧ (St i).length ≤ B
theorem wrd_num {B : Nat} {i : Int} (h : Wrd B (some i)) : NumS i := num_S (h i rfl).1 (h i rfl).2.1
theorem wS_free {B : Nat} {o : Option Int} (h : Wrd B o) : 32 ∉ TL.tl (wS o) := by
  cases o with
  | none => show 32 ∉ ("?" : Str).cps.toList; decide +kernel
  | some i => exact (wrd_num h).sp
theorem wS_len {B : Nat} {o : Option Int} (hB : 1 ≤ B) (h : Wrd B o) : (wS o).length ≤ B := by
  cases o with
  | none => exact hB
  | some i => exact (h i rfl).2.2
theorem parts_back {B : Nat} {os : List (Option Int)} (hne : os ≠ []) (h : ∀ o ∈ os, Wrd B o) : partsF (jn (os.map wS)) = os.map wS := by
  refine TL.split_join (s := 32) (S := []) rfl (by decide +kernel) (fun e => hne (List.map_eq_nil_iff.mp e)) fun p hp => ?_
  obtain ⟨o, ho, rfl⟩ := List.mem_map.mp hp
  exact wS_free (h o ho)
theorem jn_len {B : Nat} (hB : 1 ≤ B) {os : List (Option Int)} (h : ∀ o ∈ os, Wrd B o) : (jn (os.map wS)).length ≤ os.length * (B + 1) ∧ ((os.map wS).map (·.length)).sum + (os.map wS).length * (" " : Str).length ≤ os.length * (B + 1) := by
  have a := join_len " " (os.map wS)
  have b := sum_le (fun s : Str => s.length) B (os.map wS) fun y hy => by
    obtain ⟨o, ho, rfl⟩ := List.mem_map.mp hy
    exact wS_len hB (h o ho)
  have c : (" " : Str).length = 1 := rfl
  rw [c, List.length_map] at a ⊢
  rw [List.length_map] at b
  rw [Nat.mul_succ]
  show (Txt.join (Str.ofString " ") (os.map wS)).length ≤ _ ∧ _
  omega
theorem first_none : ∀ {bs : List Bool}, (∀ b ∈ bs, b = true) → firstF bs = none
  | [], _ => rfl
  | true :: bs, h => by
    show (firstF bs).map _ = none
    rw [first_none fun b hb => h b (List.mem_cons_of_mem _ hb)]; rfl
  | false :: bs, h => absurd (h false List.mem_cons_self) (by decide)
theorem bad_none {k : Int} {m : Str} (h : ∀ w ∈ partsF m, okF k (partsF m).length w = true) : badF k m = none := first_none fun b hb => by
  obtain ⟨w, hw, rfl⟩ := List.mem_map.mp hb
  exact h w hw
/-- words of a wish: numbers below how many there are -/
theorem wish_read {os : List (Option Int)} {B : Nat} (hne : os ≠ []) (hB : ∀ o ∈ os, Wrd B o) (hl : ∀ i, some i ∈ os → i < os.length) : badF 2 (jn (os.map wS)) = none ∧ (partsF (jn (os.map wS))).map (itF 2) = dO os := by
  have e := parts_back hne hB
  constructor
  · refine bad_none fun w hw => ?_
    rw [e] at hw ⊢
    rw [List.length_map]
    obtain ⟨o, ho, rfl⟩ := List.mem_map.mp hw
    unfold okF
    rw [if_neg (by decide), if_pos rfl]
    cases o with
    | none => rfl
    | some i =>
      have n := wrd_num (hB _ ho)
      rw [Bool.or_eq_true]
      refine .inr ?_
      unfold belB
      show (numB (St i) && decide (valS (St i) < _)) = true
      rw [n.num, n.val, decide_eq_true (hl i ho)]; rfl
  · rw [e, List.map_map]
    refine List.map_congr_left fun o ho => ?_
    cases o with
    | none =>
      show itF 2 "?" = PyData.none
      unfold itF
      rw [if_pos ⟨rfl, rfl⟩]
    | some i =>
      have n := wrd_num (hB _ ho)
      show itF 2 (St i) = .int i
      rw [it_num fun z => n.nq z.2, n.val]
theorem some_map (xs : List Int) : (xs.map some).map wS = xs.map St := by rw [List.map_map]; rfl
theorem dO_some (xs : List Int) : dO (xs.map some) = dI xs := by unfold dO; rw [List.map_map]; rfl
theorem num_read {k : Int} (hk : k = 0 ∨ k = 1) {xs : List Int} {B : Nat} (hne : xs ≠ []) (hB : ∀ x ∈ xs, Wrd B (some x)) (hl : k = 0 → ∀ i ∈ xs, i < xs.length) : badF k (jn (xs.map St)) = none ∧ (partsF (jn (xs.map St))).map (itF k) = dI xs := by
  have e := parts_back (os := xs.map some) (B := B) (fun z => hne (List.map_eq_nil_iff.mp z)) fun o ho => by
    obtain ⟨x, hx, rfl⟩ := List.mem_map.mp ho
    exact hB x hx
  rw [some_map] at e
  have k2 : k ≠ 2 := by omega
  constructor
  · refine bad_none fun w hw => ?_
    rw [e] at hw ⊢
    rw [List.length_map]
    obtain ⟨x, hx, rfl⟩ := List.mem_map.mp hw
    have n := wrd_num (hB _ hx)
    rw [ok_of fun z => k2 z.1, n.num, n.val]
    rcases hk with h | h
    · rw [decide_eq_true (hl h x hx)]; simp
    · rw [decide_eq_true h]; rfl
  · rw [e, List.map_map]
    refine List.map_congr_left fun x hx => ?_
    have n := wrd_num (hB _ hx)
    show itF k (St x) = .int x
    rw [it_num fun z => k2 z.1, n.val]
/-- no text of numbers is the text of the empty word -/
theorem jn_ne {xs : List Int} {B : Nat} (hne : xs ≠ []) (hB : ∀ x ∈ xs, Wrd B (some x)) : jn (xs.map St) ≠ "-" := fun z => by
  have e := parts_back (os := xs.map some) (B := B) (fun z => hne (List.map_eq_nil_iff.mp z)) fun o ho => by
    obtain ⟨x, hx, rfl⟩ := List.mem_map.mp ho
    exact hB x hx
  rw [some_map, z] at e
  have e2 : partsF "-" = [("-" : Str)] := by decide +kernel
  rw [e2] at e
  cases xs with
  | nil => exact hne rfl
  | cons x r =>
    rw [List.map_cons] at e
    exact (wrd_num (hB x List.mem_cons_self)).nd (List.cons.inj e).1.symm
/-- spaced: items, item -/
def b_spaced : DTS := (dRet (dJoin (dC (.str " ")) (dLc (dIter (dVar 0)) (dName 1) dYes (dCB φStrX (dCons (dVar 1) dNil)) [1])))
abbrev k_spaced : Nat := 1
def p_spaced : DSp := fun args c Q => ∃ (d : PyData) (os : List (Option Int)) (ds : List PyData) (B : Nat), args = [.sh d] ∧ PyData.its d = some ds ∧ 1 ≤ B ∧ (∀ o ∈ os, Wrd B o) ∧ os.length * (B + 1) ≤ 900 ∧ ds = os.map (fun o => match o with | none => PyData.str "?" | some i => .int i) ∧ Q (.sh (.str (jn (os.map wS)))) c
theorem mon_spaced : MonF p_spaced := fun args c A B h ⟨d, os, ds, b, e, h1, h2, h3, h4, h5, q⟩ => ⟨d, os, ds, b, e, h1, h2, h3, h4, h5, h _ _ q⟩
theorem m_spaced : ∀ args c Q, p_spaced args c Q → defF k_spaced b_spaced args c Q := by
  rintro _ c Q ⟨d, os, ds, B, rfl, h1, h2, h3, h4, rfl, q⟩
  show b_spaced _ ⟨[.sh d, .un], c⟩
  unfold b_spaced
  have ol : os.length ≤ 900 := Nat.le_trans (Nat.le_mul_of_pos_right _ (by omega)) h4
  have main : lcD (dName 1) dYes (dCB φStrX (dCons (dVar 1) dNil)) [1] [.sh d, .un] (fun r ε1 => match r.dat with
      | some (.list ds) => ∃ ys, ds = dSs ys ∧ (ys.map (·.length)).sum + ys.length * (Str.ofString " ").length ≤ 16777216 ∧ Q (.sh (.str (Txt.join (Str.ofString " ") ys))) ε1.c
      | _ => False) (os.map fun o => match o with | none => PyData.str "?" | some i => .int i) [] c := by
    refine lc_all (fun o : Option Int => match o with | none => PyData.str "?" | some i => PyData.int i) (fun o => PyData.str (wS o)) os [] (fun o ho K hK => ?_) (by rw [List.length_nil]; omega) ?_
    · cases o with
      | none =>
        rfl'
        exact hK _ _ rfl rfl
      | some i =>
        rfl'
        exact ⟨(wrd_num (h3 _ ho)).lg, hK _ _ rfl rfl⟩
    · refine ⟨os.map wS, by unfold dSs; rw [List.map_map]; rfl, Nat.le_trans (jn_len h2 h3).2 (by omega), q⟩
  rcases its_cases h1 with rfl | rfl
  · rfl'
    exact main
  · rfl'
    exact main
/-- state_text: state -/
def b_state_text : DTS := (dRet (dCall p_spaced (dCons (dVar 0) dNil)))
abbrev k_state_text : Nat := 0
def p_state_text : DSp := fun args c Q => ∃ (d : PyData) (xs : List Int) (B : Nat), args = [.sh d] ∧ PyData.its d = some (dI xs) ∧ 1 ≤ B ∧ (∀ x ∈ xs, Wrd B (some x)) ∧ xs.length * (B + 1) ≤ 900 ∧ Q (.sh (.str (jn (xs.map St)))) c
theorem mon_state_text : MonF p_state_text := fun args c A B h ⟨d, xs, b, e, h1, h2, h3, h4, q⟩ => ⟨d, xs, b, e, h1, h2, h3, h4, h _ _ q⟩
theorem c_spacedI {d : PyData} {xs : List Int} {B : Nat} {c : Nat} {Q : R → Nat → Prop} (h1 : PyData.its d = some (dI xs)) (h2 : 1 ≤ B) (h3 : ∀ x ∈ xs, Wrd B (some x)) (h4 : xs.length * (B + 1) ≤ 900) (q : Q (.sh (.str (jn (xs.map St)))) c) : p_spaced [.sh d] c Q := by
  refine ⟨d, xs.map some, dI xs, B, rfl, h1, h2, fun o ho => ?_, by rw [List.length_map]; exact h4, by rw [List.map_map]; rfl, ?_⟩
  · obtain ⟨x, hx, rfl⟩ := List.mem_map.mp ho
    exact h3 x hx
  · rw [some_map]; exact q
theorem m_state_text : ∀ args c Q, p_state_text args c Q → defF k_state_text b_state_text args c Q := by
  rintro _ c Q ⟨d, xs, B, rfl, h1, h2, h3, h4, q⟩
  show b_state_text _ ⟨[.sh d], c⟩
  unfold b_state_text
  rfl'
  exact c_spacedI h1 h2 h3 h4 q
/-- word_text: word -/
def b_word_text : DTS := (dRet (dIf (dTruth (dVar 0)) (dCall p_spaced (dCons (dVar 0) dNil)) (dC (.str "-"))))
abbrev k_word_text : Nat := 0
def wdF (xs : List Int) : Str := if xs = [] then "-" else jn (xs.map St)
def p_word_text : DSp := fun args c Q => ∃ (d : PyData) (xs : List Int) (B : Nat), args = [.sh d] ∧ PyData.its d = some (dI xs) ∧ 1 ≤ B ∧ (∀ x ∈ xs, Wrd B (some x)) ∧ xs.length * (B + 1) ≤ 900 ∧ Q (.sh (.str (wdF xs))) c
theorem mon_word_text : MonF p_word_text := fun args c A B h ⟨d, xs, b, e, h1, h2, h3, h4, q⟩ => ⟨d, xs, b, e, h1, h2, h3, h4, h _ _ q⟩
theorem m_word_text : ∀ args c Q, p_word_text args c Q → defF k_word_text b_word_text args c Q := by
  rintro _ c Q ⟨d, xs, B, rfl, h1, h2, h3, h4, q⟩
  show b_word_text _ ⟨[.sh d], c⟩
  unfold b_word_text
  unfold wdF at q
  cases xs with
  | nil =>
    rw [if_pos rfl] at q
    rcases its_cases h1 with rfl | rfl
    · rfl'
      exact q
    · rfl'
      exact q
  | cons x r =>
    rw [if_neg (by simp)] at q
    rcases its_cases h1 with rfl | rfl
    · rfl'
      exact c_spacedI (its_l _) h2 h3 h4 q
    · rfl'
      exact c_spacedI (its_t _) h2 h3 h4 q
/-- wish_text: wish, item -/
def b_wish_text : DTS := (dRet (dCall p_spaced (dCons (dLc (dIter (dVar 0)) (dName 1) dYes (dIf (dTest (dOp (φIsN false) (dVar 1) (dC .none))) (dC (.str "?")) (dVar 1)) [1]) dNil)))
abbrev k_wish_text : Nat := 1
def p_wish_text : DSp := fun args c Q => ∃ (d : PyData) (os : List (Option Int)) (B : Nat), args = [.sh d] ∧ PyData.its d = some (dO os) ∧ 1 ≤ B ∧ (∀ o ∈ os, Wrd B o) ∧ os.length * (B + 1) ≤ 900 ∧ Q (.sh (.str (jn (os.map wS)))) c
theorem mon_wish_text : MonF p_wish_text := fun args c A B h ⟨d, os, b, e, h1, h2, h3, h4, q⟩ => ⟨d, os, b, e, h1, h2, h3, h4, h _ _ q⟩
theorem m_wish_text : ∀ args c Q, p_wish_text args c Q → defF k_wish_text b_wish_text args c Q := by
  rintro _ c Q ⟨d, os, B, rfl, h1, h2, h3, h4, q⟩
  show b_wish_text _ ⟨[.sh d, .un], c⟩
  unfold b_wish_text
  have ol : os.length ≤ 900 := Nat.le_trans (Nat.le_mul_of_pos_right _ (by omega)) h4
  have el : ∀ (E : List PyData) (K : R → Env → Prop), lcD (dName 1) dYes (dIf (dTest (dOp (φIsN false) (dVar 1) (dC .none))) (dC (.str "?")) (dVar 1)) [1] [.sh d, .un] K (dO os) [] c ↔ lcD (dName 1) dYes (dIf (dTest (dOp (φIsN false) (dVar 1) (dC .none))) (dC (.str "?")) (dVar 1)) [1] [.sh d, .un] K (dO os) [] c := fun _ _ => Iff.rfl
  have main : ∀ K : R → Env → Prop, K (.nw (os.map fun o => match o with | none => PyData.str "?" | some i => .int i)) ⟨[.sh d, .un], c⟩ → lcD (dName 1) dYes (dIf (dTest (dOp (φIsN false) (dVar 1) (dC .none))) (dC (.str "?")) (dVar 1)) [1] [.sh d, .un] K (dO os) [] c := fun K hK => by
    refine lc_all ofO (fun o => match o with | none => PyData.str "?" | some i => PyData.int i) os [] (fun o ho K hK => ?_) (by rw [List.length_nil]; omega) ?_
    · cases o with
      | none =>
        show dName 1 .none _ _
        rfl'
        exact hK _ _ rfl rfl
      | some i =>
        show dName 1 (.int i) _ _
        rfl'
        exact hK _ _ rfl rfl
    · exact hK
  rcases its_cases h1 with rfl | rfl
  · rfl'
    refine main _ ?_
    rfl'
    exact ⟨_, os, _, B, rfl, its_l _, h2, h3, h4, rfl, q⟩
  · rfl'
    refine main _ ?_
    rfl'
    exact ⟨_, os, _, B, rfl, its_l _, h2, h3, h4, rfl, q⟩
/-- check_words: right, at, is_right -/
def b_check_words : DTS := (dFor (dEnA (dCons (dVar 0) dNil)) (dGTup 2 (dGCons (dName 1) (dGCons (dName 2) dGNil))) (dIfS (dNot (dTruth (dVar 2))) dNever dNext))
abbrev k_check_words : Nat := 2
def p_check_words : DSp := fun args c Q => ∃ bs : List Bool, args = [.sh (.list (dB bs))] ∧ firstF bs = none ∧ Q (.sh .none) c
theorem mon_check_words : MonF p_check_words := fun args c A B h ⟨bs, e, h1, q⟩ => ⟨bs, e, h1, h _ _ q⟩
theorem words_loopP {x0 : SV} {Δ : DEnds} {c : Nat} : ∀ (bs : List Bool) (k : Nat) (y z : SV), firstF bs = none → (∀ y z, Δ.nx ⟨[x0, y, z], c⟩) →
    forD (dGTup 2 (dGCons (dName 1) (dGCons (dName 2) dGNil))) (dIfS (dNot (dTruth (dVar 2))) dNever dNext) Δ ((bs.zipIdx k).map fun p => .tuple [.int (p.2 : Nat), .bool p.1]) ⟨[x0, y, z], c⟩
  | [], k, y, z, _, q1 => q1 y z
  | true :: bs, k, y, z, h, q1 => by
    rw [List.zipIdx_cons, List.map_cons]
    refine for_cons ?_
    rfl'
    refine ⟨rfl, if_f rfl ?_⟩
    refine words_loopP bs (k + 1) _ _ ?_ q1
    cases z : firstF bs with
    | none => rfl
    | some i => rw [show firstF (true :: bs) = (firstF bs).map (· + 1) from rfl, z] at h; cases h
  | false :: bs, k, y, z, h, q1 => nomatch h
theorem m_check_words : ∀ args c Q, p_check_words args c Q → defF k_check_words b_check_words args c Q := by
  rintro _ c Q ⟨bs, rfl, h1, q⟩
  show b_check_words _ ⟨[.sh (.list (dB bs)), .un, .un], c⟩
  unfold b_check_words
  rfl'
  rw [enD_dB]
  exact ⟨rfl, words_loopP bs 0 _ _ h1 fun y z => q⟩
/-- state_in: text, words, word -/
def b_state_in : DTS := (dSeq (dSetG false 1 (dSplit (dVar 0) (dC (.str " "))))
  (dSeq (dDrop (dCall p_check_words (dCons (dLc (dIter (dVar 1)) (dName 2) dYes (dCall p_is_number_below (dCons (dVar 2) (dCons (dCB φLen (dCons (dVar 1) dNil)) dNil))) [2]) dNil)))
  (dRet (dCB φTuple (dCons (dLc (dIter (dVar 1)) (dName 2) dYes (dCB φIntS (dCons (dVar 2) dNil)) [2]) dNil)))))
abbrev k_state_in : Nat := 2
def p_state_in : DSp := fun args c Q => ∃ m : Str, args = [.sh (.str m)] ∧ m.length ≤ 900 ∧ badF 0 m = none ∧ Q (.sh (.tuple ((partsF m).map (itF 0)))) c
theorem mon_state_in : MonF p_state_in := fun args c A B h ⟨m, e, h1, h2, q⟩ => ⟨m, e, h1, h2, h _ _ q⟩
theorem m_state_in : ∀ args c Q, p_state_in args c Q → defF k_state_in b_state_in args c Q := by
  rintro _ c Q ⟨m, rfl, h1, hb, q⟩
  show b_state_in _ ⟨[.sh (.str m), .un, .un], c⟩
  unfold b_state_in
  refine sq_ ?_
  rfl'
  refine ⟨by decide, show m.length + 2 ≤ 16777216 by omega, ?_⟩
  refine sq_ ?_
  rfl'
  refine lc_all PyData.str (fun w => .bool (okF 0 (partsF m).length w)) (partsF m) [] (fun w hw K hK => ?_) (by rw [List.length_nil]; have := parts_len h1; omega) ?_
  · rfl'
    refine ⟨w, _, rfl, by have := part_len hw h1; omega, ?_⟩
    rw [dSs_len]
    exact hK _ _ rfl rfl
  rw [List.nil_append, dB_map]
  rfl'
  have e := hb
  refine ⟨_, rfl, hb, ?_⟩
  rfl'
  refine lc_all PyData.str (itF 0) (partsF m) [] (fun w hw K hK => ?_) (by rw [List.length_nil]; have := parts_len h1; omega) ?_
  · rfl'
    have nq : ¬ ((0 : Int) = 2 ∧ w = "?") := fun z => absurd z.1 (by decide)
    obtain ⟨a1, a2, _⟩ := num_val (ok_num (bad_ok e hw) nq)
    refine ⟨_, a1, a2, hK _ _ ?_ rfl⟩
    rw [it_num nq]; rfl
  rw [List.nil_append]
  rfl'
  exact q
/-- word_in: text, words, word -/
def b_word_in : DTS := (dSeq (dIfS (dTest (dOp (φEq false) (dVar 0) (dC (.str "-")))) (dRet (dLst dNil)) dNext)
  (dSeq (dSetG false 1 (dSplit (dVar 0) (dC (.str " "))))
  (dSeq (dDrop (dCall p_check_words (dCons (dLc (dIter (dVar 1)) (dName 2) dYes (dCall p_is_number (dCons (dVar 2) dNil)) [2]) dNil)))
  (dRet (dLc (dIter (dVar 1)) (dName 2) dYes (dCB φIntS (dCons (dVar 2) dNil)) [2])))))
abbrev k_word_in : Nat := 2
def rwF (m : Str) : List PyData := if m = "-" then [] else (partsF m).map (itF 1)
def p_word_in : DSp := fun args c Q => ∃ m : Str, args = [.sh (.str m)] ∧ m.length ≤ 900 ∧ (m ≠ "-" → badF 1 m = none) ∧ Q (.nw (rwF m)) c
theorem mon_word_in : MonF p_word_in := fun args c A B h ⟨m, e, h1, h2, q⟩ => ⟨m, e, h1, h2, h _ _ q⟩
theorem m_word_in : ∀ args c Q, p_word_in args c Q → defF k_word_in b_word_in args c Q := by
  rintro _ c Q ⟨m, rfl, h1, hb, q⟩
  show b_word_in _ ⟨[.sh (.str m), .un, .un], c⟩
  unfold b_word_in
  refine sq_ ?_
  rfl'
  refine it_2 (fun e0 => ?_) fun e0 => ?_
  · rw [show rwF m = [] from if_pos e0] at q; exact q
  have e := hb e0
  rw [show rwF m = (partsF m).map (itF 1) from if_neg e0] at q
  refine sq_ ?_
  rfl'
  refine ⟨by decide, show m.length + 2 ≤ 16777216 by omega, ?_⟩
  refine sq_ ?_
  rfl'
  refine lc_all PyData.str (fun w => .bool (okF 1 (partsF m).length w)) (partsF m) [] (fun w hw K hK => ?_) (by rw [List.length_nil]; have := parts_len h1; omega) ?_
  · rfl'
    refine ⟨w, rfl, by have := part_len hw h1; omega, ?_⟩
    exact hK _ _ rfl rfl
  rw [List.nil_append, dB_map]
  rfl'
  refine ⟨_, rfl, e, ?_⟩
  rfl'
  refine lc_all PyData.str (itF 1) (partsF m) [] (fun w hw K hK => ?_) (by rw [List.length_nil]; have := parts_len h1; omega) ?_
  · rfl'
    have nq : ¬ ((1 : Int) = 2 ∧ w = "?") := fun z => absurd z.1 (by decide)
    obtain ⟨a1, a2, _⟩ := num_val (ok_num (bad_ok e hw) nq)
    refine ⟨_, a1, a2, hK _ _ ?_ rfl⟩
    rw [it_num nq]; rfl
  rw [List.nil_append]
  rfl'
  exact q
/-- wish_in: text, words, word -/
def b_wish_in : DTS := (dSeq (dSetG false 1 (dSplit (dVar 0) (dC (.str " "))))
  (dSeq (dDrop (dCall p_check_words (dCons (dLc (dIter (dVar 1)) (dName 2) dYes (dOrV (dOp (φEq false) (dVar 2) (dC (.str "?"))) (dCall p_is_number_below (dCons (dVar 2) (dCons (dCB φLen (dCons (dVar 1) dNil)) dNil)))) [2]) dNil)))
  (dRet (dCB φTuple (dCons (dLc (dIter (dVar 1)) (dName 2) dYes (dIf (dTest (dOp (φEq false) (dVar 2) (dC (.str "?")))) (dC .none) (dCB φIntS (dCons (dVar 2) dNil))) [2]) dNil)))))
abbrev k_wish_in : Nat := 2
def p_wish_in : DSp := fun args c Q => ∃ m : Str, args = [.sh (.str m)] ∧ m.length ≤ 900 ∧ badF 2 m = none ∧ Q (.sh (.tuple ((partsF m).map (itF 2)))) c
theorem mon_wish_in : MonF p_wish_in := fun args c A B h ⟨m, e, h1, h2, q⟩ => ⟨m, e, h1, h2, h _ _ q⟩
theorem m_wish_in : ∀ args c Q, p_wish_in args c Q → defF k_wish_in b_wish_in args c Q := by
  rintro _ c Q ⟨m, rfl, h1, hb, q⟩
  show b_wish_in _ ⟨[.sh (.str m), .un, .un], c⟩
  unfold b_wish_in
  refine sq_ ?_
  rfl'
  refine ⟨by decide, show m.length + 2 ≤ 16777216 by omega, ?_⟩
  refine sq_ ?_
  rfl'
  refine lc_all PyData.str (fun w => .bool (okF 2 (partsF m).length w)) (partsF m) [] (fun w hw K hK => ?_) (by rw [List.length_nil]; have := parts_len h1; omega) ?_
  · rfl'
    refine it_2 (fun e => ?_) fun e => ?_
    · refine hK _ _ ?_ rfl
      show R.sh _ = _
      rw [show okF 2 (partsF m).length w = true from by
        unfold okF
        rw [if_neg (by decide), if_pos rfl, decide_eq_true e]; rfl]
    · refine ⟨w, _, rfl, by have := part_len hw h1; omega, ?_⟩
      rw [dSs_len]
      refine hK _ _ ?_ rfl
      show R.sh _ = _
      rw [show okF 2 (partsF m).length w = belB (partsF m).length w from by
        unfold okF
        rw [if_neg (by decide), if_pos rfl, decide_eq_false e]; rfl]
      rfl
  rw [List.nil_append, dB_map]
  rfl'
  have e := hb
  refine ⟨_, rfl, hb, ?_⟩
  rfl'
  refine lc_all PyData.str (itF 2) (partsF m) [] (fun w hw K hK => ?_) (by rw [List.length_nil]; have := parts_len h1; omega) ?_
  · rfl'
    refine it_2 (fun e2 => ?_) fun e2 => ?_
    · refine hK _ _ ?_ rfl
      rw [show itF 2 w = .none from if_pos ⟨rfl, e2⟩]; rfl
    · have nq : ¬ ((2 : Int) = 2 ∧ w = "?") := fun z => e2 z.2
      obtain ⟨a1, a2, _⟩ := num_val (ok_num (bad_ok e hw) nq)
      refine ⟨_, a1, a2, hK _ _ ?_ rfl⟩
      rw [it_num nq]; rfl
  rw [List.nil_append]
  rfl'
  exact q
end Lp

namespace Lp
open PySem PySem.Spec PyProof.Rows L2
local macro_rules | `(tactic| rfl') => `(tactic| try dsimp only [dVar_, gv_sh, gv_ow, gv_bx, gv_raw, gv_exn, gv_st, dC, dRaw, dOp, dUn, dTest, dTruth, dAnd, dOr, dNot, dYes, dIf, dAndV, dOrV, dNotV, dNotT, dChain, dNil, dCons, dTup, dLst, dats, dCB, dNoP, dPart, dSl, dNext, dBreak, dCont, dNever, dDrop, dRet, dRetN, dIfS, dSetG, dPar, dPar3, dAppend, dAppPop, dSetIx, dExt, dAug, dSet0, dSAdd, dSNotIn, dIter_, gi_l, gi_t, gi_b, dRng1, dRng2, dName, dGNil, dGCons, dGTup, dAsg, dFor, dWhile, dCall, dCallR, dArgs_, ga_f, ga_t, argsOf, dLc, wipeE, dListRg, dIndex, dSortSet, dSortSc, dEnum, dEnA, dZip, dIsi, dIsi2, isaT, φI, φB, φC, φNeg, add_i, add_l, add_t, mul_i, mul_l, φIx, sl_l, sl_t, eq_i, eq_s, eq_l, eq_t, eq_b, eq_n, φIsN, isN_n, isN_b, isN_i, isN_s, isN_l, isN_t, φLen, φList, φTuple, φAbs, φInt, φMax, φIsB, φIsNB, its_l, its_t, rd_sh, rd_nw, rd_br, rp_sh, rp_nw, rp_br, rp_bx, rp_raw, rp_sr, rr_sh, rr_nw, rr_br, ra_sh, ra_br, ra_bx, ra_raw, va_sh, va_nt, va_nf, va_raw, hb_n, hb_sh, hb_bx, hb_raw, hb_br, sh_n, sh_c, tr_n, tr_b, tr_i, tr_l, tr_t, ty_n, ty_b, ty_i, ty_s, ty_l, ty_t, if_ff, if_tt, Env.set, List.getElem?_cons_succ, List.getElem?_cons_zero, List.set_cons_succ, List.set_cons_zero, List.reverse_cons, List.reverse_nil, List.nil_append, List.cons_append, Option.bind_some, ite_true, ite_false])
theorem for_inv {γ : DTG} {p : DTS} {Δ : DEnds} {N : Nat} (I : Nat → Env → Prop) : ∀ (ds : List PyData) (k : Nat) (ε : Env), k + ds.length ≤ N → I k ε →
    (∀ d ∈ ds, ∀ (k : Nat) (ε : Env) (D : Env → Prop), k < N → I k ε → (∀ ε', I (k + 1) ε' → D ε') → γ d ε fun ε1 => p { nx := D, rt := Δ.rt, bk := Δ.nx, ct := D } ε1) →
    (∀ ε', I (k + ds.length) ε' → Δ.nx ε') → forD γ p Δ ds ε
  | [], k, ε, _, h, _, q => q ε h
  | d :: ds, k, ε, hN, h, st, q => for_cons (st d List.mem_cons_self k ε _ (by rw [List.length_cons] at hN; omega) h fun ε' h' => for_inv I ds (k + 1) ε' (by rw [List.length_cons] at hN; omega) h' (fun z hz => st z (List.mem_cons_of_mem _ hz)) fun ε2 h2 => q ε2 (by rw [List.length_cons, Nat.add_comm ds.length 1, ← Nat.add_assoc]; exact h2))
end Lp

namespace Lp
open PySem PySem.Spec PyProof.Rows L2
local macro_rules | `(tactic| rfl') => `(tactic| try dsimp only [dVar_, gv_sh, gv_ow, gv_bx, gv_raw, gv_exn, gv_st, dC, dRaw, dOp, dUn, dTest, dTruth, dAnd, dOr, dNot, dYes, dIf, dAndV, dOrV, dNotV, dNotT, dChain, dNil, dCons, dTup, dLst, dats, dCB, dNoP, dPart, dSl, dNext, dBreak, dCont, dNever, dDrop, dRet, dRetN, dIfS, dSetG, dPar, dPar3, dAppend, dAppPop, dSetIx, dExt, dAug, dSet0, dSAdd, dSNotIn, dIter_, gi_l, gi_t, gi_b, dRng1, dRng2, dName, dGNil, dGCons, dGTup, dAsg, dFor, dWhile, dCall, dCallR, dArgs_, ga_f, ga_t, argsOf, dLc, wipeE, dListRg, dIndex, dSortSet, dSortSc, dEnum, dEnA, dZip, dIsi, dIsi2, isaT, φI, φB, φC, φNeg, add_i, add_l, add_t, mul_i, mul_l, φIx, sl_l, sl_t, eq_i, eq_s, eq_l, eq_t, eq_b, eq_n, φIsN, isN_n, isN_b, isN_i, isN_s, isN_l, isN_t, φLen, φList, φTuple, φAbs, φInt, φMax, φIsB, φIsNB, its_l, its_t, rd_sh, rd_nw, rd_br, rp_sh, rp_nw, rp_br, rp_bx, rp_raw, rp_sr, rr_sh, rr_nw, rr_br, ra_sh, ra_br, ra_bx, ra_raw, va_sh, va_nt, va_nf, va_raw, hb_n, hb_sh, hb_bx, hb_raw, hb_br, sh_n, sh_c, tr_n, tr_b, tr_i, tr_l, tr_t, ty_n, ty_b, ty_i, ty_s, ty_l, ty_t, if_ff, if_tt, Env.set, List.getElem?_cons_succ, List.getElem?_cons_zero, List.set_cons_succ, List.set_cons_zero, List.reverse_cons, List.reverse_nil, List.nil_append, List.cons_append, Option.bind_some, ite_true, ite_false, dCallX, dArgsX_, gx_s, dRaise, dIsX, dAttr, dIsNE, dTupRg1, dTupRg3, dNest3, φStrX, wo_n, wo_c, wo_un, wo_sh, wo_ow, wo_bx, wo_raw, wo_exn, wo_dsh, wo_dco, dSplit, dJoin, dIterT, φLenS, φIntS, φListS, φInS, φAddS, φMulS, φIxS, φSlS, φStrI])
theorem st_len {i : Int} {k : Nat} (hk : 0 < k) (h0 : 0 ≤ i) (h1 : i < ((10 ^ k : Nat) : Int)) : (St i).length ≤ k := by
  obtain ⟨n, rfl⟩ := Int.eq_ofNat_of_zero_le h0
  have et : (St (n : Int)).cps.toList = TL.numL n := TL.tl_num n
  have el : (St (n : Int)).length = (TL.numL n).length := by rw [← et]; exact Array.length_toList.symm
  rw [el]
  exact TL.numL_len hk (by omega)
theorem wrd2 {i : Int} (h0 : 0 ≤ i) (h1 : i < 100) : Wrd 2 (some i) := fun j e => by
  cases e
  exact ⟨h0, by omega, st_len (by decide) h0 h1⟩
theorem wrd13 {i : Int} (h0 : 0 ≤ i) (h1 : i < 10000000000000) : Wrd 13 (some i) := fun j e => by
  cases e
  exact ⟨h0, h1, st_len (by decide) h0 h1⟩
theorem joinL_snoc (S q : List Nat) : ∀ ps : List (List Nat), ps ≠ [] → TL.joinL S (ps ++ [q]) = TL.joinL S ps ++ (S ++ q)
  | [], h => absurd rfl h
  | [p], _ => rfl
  | p :: r :: ps, _ => by
    show p ++ (S ++ TL.joinL S ((r :: ps) ++ [q])) = (p ++ (S ++ TL.joinL S (r :: ps))) ++ (S ++ q)
    rw [joinL_snoc S q (r :: ps) (by simp)]
    simp only [List.append_assoc]
theorem jn_snoc (ps : List Str) (h : ps ≠ []) : jn ps ++ " ?" = jn (ps ++ [("?" : Str)]) := by
  refine TL.ext_tl ?_
  show TL.tl (Txt.join (Str.ofString " ") ps ++ Str.ofString " ?") = TL.tl (Txt.join (Str.ofString " ") (ps ++ [Str.ofString "?"]))
  rw [TL.tl_append, TL.join_eq, TL.join_eq, TL.tl_join, TL.tl_join, List.map_append]
  show _ ++ _ = TL.joinL _ (ps.map TL.tl ++ [TL.tl "?"])
  rw [joinL_snoc _ _ _ (fun z => h (List.map_eq_nil_iff.mp z))]
  rfl
theorem dep_dO (k : Nat) (os : List (Option Int)) : (dO os).all (dep (k + 1)) = true := by
  unfold dO
  rw [List.all_map]
  refine List.all_eq_true.mpr fun o _ => ?_
  cases o <;> rfl
theorem dep_dI83 (k : Nat) (os : List Int) : (dI os).all (dep (k + 1)) = true := by
  rw [← dO_some]; exact dep_dO k _
theorem c_same83 {d : PyData} {c : Nat} {Q : R → Nat → Prop} (h : dep 3 d = true) (q : Q (.sh (.bool true)) c) : p_law_same_3 3 [.sh d, .sh d] c Q := ⟨d, d, rfl, rfl, h, q⟩
theorem dep_tO {k : Nat} {os : List (Option Int)} (h : os.length ≤ 1000) : dep (k + 2) (.tuple (dO os)) = true := by
  show (decide _ && _) = true
  rw [dep_dO, Bool.and_true]
  exact decide_eq_true (by unfold dO; rw [List.length_map]; omega)
theorem dep_tI {k : Nat} {os : List Int} (h : os.length ≤ 1000) : dep (k + 2) (.tuple (dI os)) = true := by
  rw [← dO_some]; exact dep_tO (by rw [List.length_map]; exact h)
theorem dep_lI {k : Nat} {os : List Int} (h : os.length ≤ 1000) : dep (k + 2) (.list (dI os)) = true := by
  show (decide _ && _) = true
  rw [dep_dI83, Bool.and_true]
  exact decide_eq_true (by unfold dI; rw [List.length_map]; omega)
theorem lc_str5 {s0 s1 s2 s3 s4 s5 s6 s7 s8 s9 s10 s11 s12 s13 s14 : SV} {c : Nat} {K : R → Env → Prop} {xs : List Int} {B : Nat} (hl : xs.length ≤ 1000) (hB : ∀ x ∈ xs, Wrd B (some x)) (q : K (.nw (dSs (xs.map St))) ⟨[s0, s1, s2, s3, s4, s5, s6, s7, s8, s9, s10, s11, s12, s13, s14], c⟩) :
    lcD (dName 5) dYes (dCB φStrI (dCons (dVar 5) dNil)) [5] [s0, s1, s2, s3, s4, s5, s6, s7, s8, s9, s10, s11, s12, s13, s14] K (dI xs) [] c := by
  refine lc_all PyData.int (fun x => PyData.str (St x)) xs [] (fun x hx K hK => ?_) (by rw [List.length_nil]; omega) ?_
  · rfl'
    exact ⟨(wrd_num (hB x hx)).lg, hK _ _ rfl rfl⟩
  · rw [List.nil_append]
    rw [show dSs (xs.map St) = xs.map fun x => PyData.str (St x) from by unfold dSs; rw [List.map_map]; rfl] at q
    exact q
theorem lc_str14 {s0 s1 s2 s3 s4 s5 s6 s7 s8 s9 s10 s11 s12 s13 s14 : SV} {c : Nat} {K : R → Env → Prop} {xs : List Int} {B : Nat} (hl : xs.length ≤ 1000) (hB : ∀ x ∈ xs, Wrd B (some x)) (q : K (.nw (dSs (xs.map St))) ⟨[s0, s1, s2, s3, s4, s5, s6, s7, s8, s9, s10, s11, s12, s13, s14], c⟩) :
    lcD (dName 14) dYes (dCB φStrI (dCons (dVar 14) dNil)) [14] [s0, s1, s2, s3, s4, s5, s6, s7, s8, s9, s10, s11, s12, s13, s14] K (dI xs) [] c := by
  refine lc_all PyData.int (fun x => PyData.str (St x)) xs [] (fun x hx K hK => ?_) (by rw [List.length_nil]; omega) ?_
  · rfl'
    exact ⟨(wrd_num (hB x hx)).lg, hK _ _ rfl rfl⟩
  · rw [List.nil_append]
    rw [show dSs (xs.map St) = xs.map fun x => PyData.str (St x) from by unfold dSs; rw [List.map_map]; rfl] at q
    exact q
theorem lc_wS5 {s0 s1 s2 s3 s4 s5 s6 s7 s8 s9 s10 s11 s12 s13 s14 : SV} {c : Nat} {K : R → Env → Prop} {os : List (Option Int)} {B : Nat} (hl : os.length ≤ 1000) (hB : ∀ o ∈ os, Wrd B o) (q : K (.nw (dSs (os.map wS))) ⟨[s0, s1, s2, s3, s4, s5, s6, s7, s8, s9, s10, s11, s12, s13, s14], c⟩) :
    lcD (dName 5) dYes (dIf (dTest (dOp (φIsN false) (dVar 5) (dC .none))) (dC (.str "?")) (dCB φStrI (dCons (dVar 5) dNil))) [5] [s0, s1, s2, s3, s4, s5, s6, s7, s8, s9, s10, s11, s12, s13, s14] K (dO os) [] c := by
  refine lc_all ofO (fun o => PyData.str (wS o)) os [] (fun o ho K hK => ?_) (by rw [List.length_nil]; omega) ?_
  · cases o with
    | none =>
      show dName 5 .none _ _
      rfl'
      exact hK _ _ rfl rfl
    | some i =>
      show dName 5 (.int i) _ _
      rfl'
      exact ⟨(wrd_num (hB _ ho)).lg, hK _ _ rfl rfl⟩
  · rw [List.nil_append]
    rw [show dSs (os.map wS) = os.map fun o => PyData.str (wS o) from by unfold dSs; rw [List.map_map]; rfl] at q
    exact q
/-- _law_right: _law_source, _law_turn, _law_size, _law_start, _law_hope, _law_spot, _law_tape, _law_call, _law_wide, _law_crowd, _law_large, _law_message, _law_due, _law_found, _law_item -/
def b_k83_law_right : DTS := (dSeq (dFor (dRng1 (dCons (dC (.int 2)) dNil)) (dName 1) (dSeq (dSetG false 2 (dOp φAdd (dC (.int 1)) (dCall p_law_take (dCons (dVar 0) (dCons (dCall p_law_pick (dCons (dVar 0) (dCons (dLst (dCons (dC (.int 4)) (dCons (dC (.int 40)) dNil))) dNil))) dNil)))))
  (dSeq (dSetG false 3 (dCall p_law_random_state (dCons (dVar 0) (dCons (dVar 2) dNil))))
  (dSeq (dSetG false 4 (dCB φTuple (dCons (dLc (dIter (dVar 3)) (dName 5) dYes (dIf (dTest (dOp (φEq false) (dCall p_law_take (dCons (dVar 0) (dCons (dC (.int 3)) dNil))) (dC (.int 0)))) (dC .none) (dVar 5)) [5]) dNil)))
  (dSeq (dSetG false 6 (dLc (dRng1 (dCons (dCall p_law_take (dCons (dVar 0) (dCons (dC (.int 61)) dNil))) dNil)) (dName 7) dYes (dCall p_law_take (dCons (dVar 0) (dCons (dCall p_law_pick (dCons (dVar 0) (dCons (dLst (dCons (dC (.int 3)) (dCons (dC (.int 40)) dNil))) dNil))) dNil))) [7]))
  (dSeq (dSetG false 8 (dLc (dRng1 (dCons (dOp φAdd (dC (.int 1)) (dCall p_law_take (dCons (dVar 0) (dCons (dC (.int 12)) dNil)))) dNil)) (dName 7) dYes (dCall p_law_take (dCons (dVar 0) (dCons (dOp (φC CPow fun i j => i ^ j.toNat) (dC (.int 10)) (dC (.int 13))) dNil))) [7]))
  (dSeq (dSetG false 9 (dOp φAdd (dC (.int 41)) (dCall p_law_take (dCons (dVar 0) (dCons (dC (.int 40)) dNil)))))
  (dSeq (dSetG false 10 (dCB φTuple (dCons (dLc (dRng1 (dCons (dVar 9) dNil)) (dName 5) dYes (dCall p_law_take (dCons (dVar 0) (dCons (dVar 9) dNil))) [5]) dNil)))
  (dSeq (dSetG false 11 (dJoin (dC (.str " ")) (dLc (dIter (dVar 10)) (dName 5) dYes (dCB φStrI (dCons (dVar 5) dNil)) [5])))
  (dSeq (dIfS (dNot (dTruth (dCall (p_law_same_3 3) (dCons (dLst (dCons (dCall p_state_in (dCons (dVar 11) dNil)) (dCons (dCall p_wish_in (dCons (dOp φAddS (dVar 11) (dC (.str " ?"))) dNil)) dNil))) (dCons (dLst (dCons (dVar 10) (dCons (dOp φAdd (dVar 10) (dTup (dCons (dC .none) dNil))) dNil))) dNil))))) (dRet (dC (.bool false))) dNext)
  (dSeq (dSetG true 12 (dLst (dCons (dJoin (dC (.str " ")) (dLc (dIter (dVar 3)) (dName 5) dYes (dCB φStrI (dCons (dVar 5) dNil)) [5])) (dCons (dIf (dTest (dOp (φEq true) (dVar 6) (dLst dNil))) (dJoin (dC (.str " ")) (dLc (dIter (dVar 6)) (dName 5) dYes (dCB φStrI (dCons (dVar 5) dNil)) [5])) (dC (.str "-"))) dNil))))
  (dSeq (dAppend 12 (dJoin (dC (.str " ")) (dLc (dIter (dVar 4)) (dName 5) dYes (dIf (dTest (dOp (φIsN false) (dVar 5) (dC .none))) (dC (.str "?")) (dCB φStrI (dCons (dVar 5) dNil))) [5])))
  (dSeq (dSetG false 13 (dLst (dCons (dCall p_state_text (dCons (dVar 3) dNil)) (dCons (dCall p_word_text (dCons (dVar 6) dNil)) (dCons (dCall p_wish_text (dCons (dVar 4) dNil)) dNil)))))
  (dSeq (dIfS (dNot (dTruth (dCall (p_law_same_3 3) (dCons (dVar 13) (dCons (dVar 12) dNil))))) (dRet (dC (.bool false))) dNext)
  (dSeq (dIfS (dNot (dTruth (dCall (p_law_same_3 3) (dCons (dLst (dCons (dCallR p_state_text (dCons (dCB φList (dCons (dVar 3) dNil)) dNil)) (dCons (dCallR p_word_text (dCons (dCB φTuple (dCons (dVar 6) dNil)) dNil)) (dCons (dCallR p_wish_text (dCons (dCB φList (dCons (dVar 4) dNil)) dNil)) dNil)))) (dCons (dVar 12) dNil))))) (dRet (dC (.bool false))) dNext)
  (dNest3 13 (dCall p_state_in (dCons (dOp φIx (dVar 12) (dC (.int 0))) dNil)) (dCall p_word_in (dCons (dOp φIx (dVar 12) (dC (.int 1))) dNil)) (dCall p_wish_in (dCons (dOp φIx (dVar 12) (dC (.int 2))) dNil)) (dNot (dTruth (dCall (p_law_same_3 3) (dCons (dVar 13) (dCons (dLst (dCons (dVar 3) (dCons (dVar 6) (dCons (dVar 4) dNil)))) dNil)))))
  (dSeq (dIfS (dNot (dTruth (dCall (p_law_same_3 3) (dCons (dCall p_word_in (dCons (dJoin (dC (.str " ")) (dLc (dIter (dVar 8)) (dName 14) dYes (dCB φStrI (dCons (dVar 14) dNil)) [14])) dNil)) (dCons (dVar 8) dNil))))) (dRet (dC (.bool false))) dNext)
  (dIfS (dNot (dTruth (dCall (p_law_same_3 3) (dCons (dLst (dCons (dCallR p_state_in (dCons (dOp φIx (dVar 12) (dC (.int 0))) dNil)) (dCons (dCallR p_word_in (dCons (dOp φIx (dVar 12) (dC (.int 1))) dNil)) (dCons (dCallR p_wish_in (dCons (dOp φIx (dVar 12) (dC (.int 2))) dNil)) dNil)))) (dCons (dLst (dCons (dVar 3) (dCons (dVar 6) (dCons (dVar 4) dNil)))) dNil))))) (dRet (dC (.bool false))) dNext))))))))))))))))))
  (dRet (dCall (p_law_same_3 3) (dCons (dLst (dCons (dCall p_word_text (dCons (dLst dNil) dNil)) (dCons (dCall p_word_text (dCons (dTup dNil) dNil)) (dCons (dCall p_word_in (dCons (dC (.str "-")) dNil)) dNil)))) (dCons (dLst (dCons (dC (.str "-")) (dCons (dC (.str "-")) (dCons (dLst dNil) dNil)))) dNil)))))
abbrev k_k83_law_right : Nat := 14
def p_k83_law_right : DSp := fun args c Q => args = [.bx] ∧ c ≤ 3000000 ∧ ∀ c', c' ≤ c + 1000000 → Q (.sh (.bool true)) c'
theorem m_k83_law_right : ∀ args c Q, p_k83_law_right args c Q → defF k_k83_law_right b_k83_law_right args c Q := by
  rintro _ c Q ⟨rfl, h1, q⟩
  show b_k83_law_right _ ⟨[.bx, .un, .un, .un, .un, .un, .un, .un, .un, .un, .un, .un, .un, .un, .un], c⟩
  unfold b_k83_law_right
  refine sq_ ?_
  rfl'
  refine ⟨by decide, rfl, ?_⟩
  refine for_inv (N := 2) (fun k ε => ∃ (y1 y2 y3 y4 y5 y6 y7 y8 y9 y10 y11 y12 y13 y14 : SV) (c' : Nat), c' ≤ c + 20000 * k ∧ ε = ⟨[.bx, y1, y2, y3, y4, y5, y6, y7, y8, y9, y10, y11, y12, y13, y14], c'⟩) _ 0 _ (by decide) ⟨_, _, _, _, _, _, _, _, _, _, _, _, _, _, c, Nat.le_refl _, rfl⟩ ?_ ?_
  · rintro d hd k _ D hk ⟨y1, y2, y3, y4, y5, y6, y7, y8, y9, y10, y11, y12, y13, y14, c0, hc0, rfl⟩ hD
    rfl'
    refine sq_ ?_
    rfl'
    refine ⟨_, _, rfl, its_l _, by simp, by decide, by omega, fun e c1 he hc1 => ?_⟩
    obtain ⟨m, rfl, m1, m40⟩ : ∃ m : Int, e = .int m ∧ 1 ≤ m ∧ m ≤ 40 := by
      simp only [List.mem_cons, List.not_mem_nil, or_false] at he
      rcases he with rfl | rfl
      · exact ⟨4, rfl, by decide, by decide⟩
      · exact ⟨40, rfl, by decide, by decide⟩
    rfl'
    refine ⟨_, rfl, m1, by omega, by omega, fun r c2 r0 r1 hc2 => ?_⟩
    rfl'
    refine sq_ ?_
    rfl'
    refine ⟨_, rfl, by omega, by omega, by omega, fun ns c3 hs hl hc3 => ?_⟩
    have nl : ns.length ≤ 40 := by omega
    rfl'
    refine sq_ ?_
    rfl'
    refine lc_draw PyData.int ofO (fun x (o : Option Int) => o = none ∨ o = some x) (N := 3) ns [] c3 (fun x hx m hm K hK => ?_) (by rw [List.length_nil]; omega) fun os c4 hos hc4 => ?_
    · rfl'
      refine ⟨_, rfl, by decide, by decide, by omega, fun r2 c5 r20 r21 hc5 => ?_⟩
      rfl'
      refine it_2 (fun e => ?_) fun e => ?_
      · exact hK _ _ none rfl (.inl rfl) (by omega)
      · exact hK _ _ (some x) rfl (.inr rfl) (by omega)
    rfl'
    refine sq_ ?_
    rfl'
    refine ⟨_, rfl, by decide, by decide, by omega, fun r2 c5 r20 r21 hc5 => ?_⟩
    rfl'
    refine ⟨by omega, ?_⟩
    rw [rg0]
    refine lc_draw (fun i : Nat => PyData.int (i : Nat)) PyData.int (fun _ (y : Int) => 0 ≤ y ∧ y < 40) (N := 6) (List.range r2.toNat) [] c5 (fun x hx m hm K hK => ?_) (by rw [List.length_nil, List.length_range]; omega) fun ts c6 hts hc6 => ?_
    · rw [List.length_range] at hm
      rfl'
      refine ⟨_, _, rfl, its_l _, by simp, by decide, by omega, fun e c6 he hc6 => ?_⟩
      obtain ⟨m, rfl, m1, m40⟩ : ∃ m : Int, e = .int m ∧ 1 ≤ m ∧ m ≤ 40 := by
        simp only [List.mem_cons, List.not_mem_nil, or_false] at he
        rcases he with rfl | rfl
        · exact ⟨3, rfl, by decide, by decide⟩
        · exact ⟨40, rfl, by decide, by decide⟩
      rfl'
      exact ⟨_, rfl, m1, by omega, by omega, fun r c7 r0 r1 hc7 => hK _ _ r rfl ⟨r0, by omega⟩ (by show c7 ≤ _; omega)⟩
    have tl60 : ts.length ≤ 60 := by
      have := hts.len
      rw [List.length_range] at this
      omega
    have tb : ∀ x ∈ ts, Wrd 2 (some x) := fun x hx => by
      obtain ⟨_, _, a, b⟩ := hts.mem x hx
      exact wrd2 a (by omega)
    rw [List.length_range] at hc6
    rfl'
    refine sq_ ?_
    rfl'
    refine ⟨_, rfl, by decide, by decide, by omega, fun r3 c7 r30 r31 hc7 => ?_⟩
    rfl'
    refine ⟨by omega, ?_⟩
    rw [rg0]
    refine lc_draw (fun i : Nat => PyData.int (i : Nat)) PyData.int (fun _ (y : Int) => 0 ≤ y ∧ y < 10000000000000) (N := 3) (List.range (1 + r3).toNat) [] c7 (fun x hx m hm K hK => ?_) (by rw [List.length_nil, List.length_range]; omega) fun us c8 hus hc8 => ?_
    · rw [List.length_range] at hm
      rfl'
      refine ⟨by unfold CPow; decide, ?_⟩
      refine ⟨_, rfl, by decide, by decide, by omega, fun r c7 r0 r1 hc7 => hK _ _ r rfl ⟨r0, r1⟩ (by show c7 ≤ _; omega)⟩
    have ul : us.length ≤ 12 ∧ 1 ≤ us.length := by
      have := hus.len
      rw [List.length_range] at this
      omega
    have ub : ∀ x ∈ us, Wrd 13 (some x) := fun x hx => by
      obtain ⟨_, _, a, b⟩ := hus.mem x hx
      exact wrd13 a b
    rw [List.length_range] at hc8
    rfl'
    refine sq_ ?_
    rfl'
    refine ⟨_, rfl, by decide, by decide, by omega, fun r4 c9 r40 r41 hc9 => ?_⟩
    rfl'
    refine sq_ ?_
    rfl'
    refine ⟨by omega, ?_⟩
    rw [rg0]
    refine lc_draw (fun i : Nat => PyData.int (i : Nat)) PyData.int (fun _ (y : Int) => 0 ≤ y ∧ y < 41 + r4) (N := 3) (List.range (41 + r4).toNat) [] c9 (fun x hx m hm K hK => ?_) (by rw [List.length_nil, List.length_range]; omega) fun ls c10 hls hc10 => ?_
    · rw [List.length_range] at hm
      rfl'
      refine ⟨_, rfl, by omega, by omega, by omega, fun r c7 r0 r1 hc7 => hK _ _ r rfl ⟨r0, r1⟩ (by show c7 ≤ _; omega)⟩
    have ll : (ls.length : Int) = 41 + r4 := by
      have := hls.len
      rw [List.length_range] at this
      omega
    have lb : ∀ x ∈ ls, Wrd 2 (some x) ∧ x < ls.length := fun x hx => by
      obtain ⟨_, _, a, b⟩ := hls.mem x hx
      exact ⟨wrd2 a (by omega), by omega⟩
    rw [List.length_range] at hc10
    rfl'
    refine sq_ ?_
    rfl'
    have lne : ls ≠ [] := fun z => by rw [z] at ll; simp at ll; omega
    have ll80 : ls.length ≤ 80 := by omega
    have jl : ∀ {xs : List Int} {B : Nat}, 1 ≤ B → (∀ x ∈ xs, Wrd B (some x)) → (jn (xs.map St)).length ≤ xs.length * (B + 1) ∧ ((xs.map St).map (·.length)).sum + (xs.map St).length * (" " : Str).length ≤ xs.length * (B + 1) := fun {xs B} hB h => by
      have := jn_len hB (os := xs.map some) fun o ho => by
        obtain ⟨x, hx, rfl⟩ := List.mem_map.mp ho
        exact h x hx
      rw [some_map, List.length_map] at this
      exact this
    have jL := jl (by decide) fun x hx => (lb x hx).1
    refine lc_str5 (by omega) (fun x hx => (lb x hx).1) ?_
    rfl'
    refine ⟨_, rfl, Nat.le_trans jL.2 (by omega), ?_⟩
    refine sq_ ?_
    rfl'
    obtain ⟨b1, b2⟩ := num_read (k := 0) (.inl rfl) lne (fun x hx => (lb x hx).1) (fun _ x hx => (lb x hx).2)
    have jL1 : (Txt.join (Str.ofString " ") (ls.map St)).length ≤ 240 := Nat.le_trans jL.1 (by omega)
    refine ⟨_, rfl, by omega, b1, ?_⟩
    rw [b2]
    have wb : ∀ o ∈ ls.map some ++ [none], Wrd 2 o := fun o ho => by
      rcases List.mem_append.mp ho with ho | ho
      · obtain ⟨x, hx, rfl⟩ := List.mem_map.mp ho
        exact (lb x hx).1
      · rw [List.mem_singleton.mp ho]; exact fun i e => nomatch e
    have e3 : Txt.join (Str.ofString " ") (ls.map St) ++ Str.ofString " ?" = jn ((ls.map some ++ [none]).map wS) := by
      rw [List.map_append, some_map]
      exact jn_snoc _ fun z => lne (List.map_eq_nil_iff.mp z)
    obtain ⟨d1, d2⟩ := wish_read (os := ls.map some ++ [none]) (by simp) wb fun i hi => by
      rw [List.length_append, List.length_map, List.length_singleton]
      rcases List.mem_append.mp hi with hi | hi
      · obtain ⟨x, hx, e⟩ := List.mem_map.mp hi
        cases e
        have := (lb _ hx).2
        omega
      · exact nomatch (List.mem_singleton.mp hi)
    rfl'
    refine ⟨show _ ≤ 16777216 by show _ + 2 ≤ _; omega, ?_⟩
    rw [e3]
    refine ⟨_, rfl, by
      refine Nat.le_trans (jn_len (by decide) wb).1 ?_
      rw [List.length_append, List.length_map, List.length_singleton]
      omega, d1, ?_⟩
    rw [d2]
    rfl'
    refine ⟨by rw [List.length_map]; show _ + 1 ≤ 16777216; omega, ?_⟩
    rw [show ls.map PyData.int ++ [PyData.none] = dO (ls.map some ++ [none]) from by unfold dO; rw [List.map_append, List.map_map]; rfl]
    refine c_same83 ?_ ?_
    · show (decide _ && (dep 2 _ && (dep 2 _ && true))) = true
      rw [dep_tO (by rw [List.length_append, List.length_map, List.length_singleton]; omega), show dep 2 (.tuple (List.map PyData.int ls)) = true from dep_tI (by omega)]; rfl
    rfl'
    refine if_f rfl ?_
    clear d2 d1 e3 wb jL1 b2 b1 jL lne ll80
    have nb : ∀ x ∈ ns, Wrd 2 (some x) := fun x hx => wrd2 (hs.lo x hx).1 (by have := (hs.lo x hx).2; omega)
    have ol : os.length = ns.length := hos.len
    have ob : ∀ o ∈ os, Wrd 2 o := fun o ho => by
      obtain ⟨x, hx, e⟩ := hos.mem o ho
      rcases e with rfl | rfl
      · exact fun i e => nomatch e
      · exact nb x hx
    have oh : ∀ i, some i ∈ os → i < os.length := fun i hi => by
      obtain ⟨x, hx, e⟩ := hos.mem _ hi
      rcases e with e | e
      · cases e
      · cases e
        rw [ol]; exact (hs.lo _ hx).2
    have nne : ns ≠ [] := fun z => by have := hs.ge; rw [z] at this; simp at this
    have one : os ≠ [] := fun z => nne (List.eq_nil_of_length_eq_zero (by rw [← ol, z]; rfl))
    have jN := jl (by decide) nb
    have jO := jn_len (by decide) ob
    have jT := jl (by decide) tb
    generalize Txt.join (Str.ofString " ") (ls.map St) = L11
    refine sqa_ fun D2 hD2 => ?_
    rfl'
    have go : D2 ⟨[.bx, .sh d, .sh (.int (1 + r)), .sh (.tuple (dI ns)), .sh (.tuple (dO os)), y5, .sh (.list (dI ts)), y7, .sh (.list (dI us)), .sh (.int (41 + r4)), .sh (.tuple (dI ls)), .sh (.str L11), .ow [.str (jn (ns.map St)), .str (wdF ts)], y13, y14], c10⟩ := by
      refine hD2 _ ?_
      refine sq_ ?_
      rfl'
      refine lc_wS5 (by omega) ob ?_
      rfl'
      refine ⟨_, rfl, Nat.le_trans jO.2 (by omega), ?_⟩
      refine ⟨by show 2 < 16777216; decide, ?_⟩
      refine sq_ ?_
      rfl'
      refine ⟨_, ns, 2, rfl, its_t _, by decide, nb, by omega, ?_⟩
      rfl'
      refine ⟨_, ts, 2, rfl, its_l _, by decide, tb, by omega, ?_⟩
      rfl'
      refine ⟨_, os, 2, rfl, its_t _, by decide, ob, by omega, ?_⟩
      rfl'
      refine sq_ ?_
      rfl'
      refine c_same83 rfl ?_
      refine ⟨rfl, if_f rfl ?_⟩
      refine sq_ ?_
      rfl'
      refine ⟨_, ns, 2, rfl, its_l _, by decide, nb, by omega, ?_⟩
      rfl'
      refine ⟨_, ts, 2, rfl, its_t _, by decide, tb, by omega, ?_⟩
      rfl'
      refine ⟨_, os, 2, rfl, its_l _, by decide, ob, by omega, ?_⟩
      rfl'
      refine c_same83 rfl ?_
      refine ⟨rfl, if_f rfl ?_⟩
      obtain ⟨n1, n2⟩ := num_read (k := 0) (.inl rfl) nne nb (fun _ x hx => (hs.lo x hx).2)
      obtain ⟨o1, o2⟩ := wish_read one ob oh
      have w1 : wdF ts ≠ "-" → badF 1 (wdF ts) = none := fun z => by
        unfold wdF at z ⊢
        by_cases te : ts = []
        · rw [if_pos te] at z; exact absurd rfl z
        · rw [if_neg te]
          exact (num_read (k := 1) (.inr rfl) te tb (fun e => absurd e (by decide))).1
      have w2 : rwF (wdF ts) = dI ts := by
        unfold wdF rwF
        by_cases te : ts = []
        · rw [if_pos te, if_pos rfl, te]; rfl
        · rw [if_neg te, if_neg (jn_ne te tb)]
          exact (num_read (k := 1) (.inr rfl) te tb (fun e => absurd e (by decide))).2
      have w3 : (wdF ts).length ≤ 900 := by
        unfold wdF
        by_cases te : ts = []
        · rw [if_pos te]; decide
        · rw [if_neg te]; exact Nat.le_trans jT.1 (by omega)
      have n3 : (jn (ns.map St)).length ≤ 900 := Nat.le_trans jN.1 (by omega)
      have o3 : (jn (os.map wS)).length ≤ 900 := Nat.le_trans jO.1 (by omega)
      have dep3 : dep 3 (.list [.tuple (dI ns), .list (dI ts), .tuple (dO os)]) = true := by
        show (decide _ && (dep 2 _ && (dep 2 _ && (dep 2 _ && true)))) = true
        rw [dep_tI (by omega), dep_lI (by omega), dep_tO (by omega)]; rfl
      rfl'
      refine ⟨_, rfl, _, rfl, n3, n1, ?_⟩
      refine ⟨_, rfl, _, rfl, w3, w1, ?_⟩
      refine ⟨_, rfl, _, rfl, o3, o1, ?_⟩
      rw [n2, w2, o2]
      rfl'
      refine ⟨by show (ts.map PyData.int).length < 16777216; rw [List.length_map]; omega, by show 13 < 15; decide, ?_⟩
      refine c_same83 dep3 ?_
      rfl'
      refine if_f rfl ?_
      have une : us ≠ [] := fun z => by rw [z] at ul; exact absurd ul.2 (by decide)
      have jU := jl (by decide) ub
      obtain ⟨u1, u2⟩ := num_read (k := 1) (.inr rfl) une ub (fun e => absurd e (by decide))
      refine sq_ ?_
      rfl'
      refine lc_str14 (by omega) ub ?_
      rfl'
      refine ⟨_, rfl, Nat.le_trans jU.2 (by omega), ?_⟩
      refine ⟨_, rfl, Nat.le_trans jU.1 (by omega), fun _ => u1, ?_⟩
      rw [show rwF (Txt.join (Str.ofString " ") (us.map St)) = dI us from by
        show rwF (jn (us.map St)) = _
        unfold rwF
        rw [if_neg (jn_ne une ub)]; exact u2]
      rfl'
      refine c_same83 (dep_lI (by omega)) ?_
      rfl'
      refine if_f rfl ?_
      refine ⟨_, rfl, _, rfl, n3, n1, ?_⟩
      rfl'
      refine ⟨_, rfl, _, rfl, w3, w1, ?_⟩
      rfl'
      refine ⟨_, rfl, _, rfl, o3, o1, ?_⟩
      rw [n2, w2, o2]
      rfl'
      refine c_same83 dep3 ?_
      rfl'
      refine if_f rfl ?_
      exact hD _ ⟨_, _, _, _, _, _, _, _, _, _, _, _, _, _, c10, by omega, rfl⟩
    refine lc_str5 (by omega) nb ?_
    rfl'
    refine ⟨_, rfl, Nat.le_trans jN.2 (by omega), ?_⟩
    refine ⟨⟨shL ts, rfl⟩, ?_⟩
    by_cases te : ts = []
    · subst te
      refine if_f (by decide) ?_
      exact go
    · have ev : PyData.eqv (.list (ts.map PyData.int)) (.list []) = false := by
        cases ts with
        | nil => exact absurd rfl te
        | cons x r => simp [PyData.eqv, PyData.eqvAll]
      refine if_t (by rw [ev]; rfl) ?_
      refine lc_str5 (by omega) tb ?_
      rfl'
      refine ⟨_, rfl, Nat.le_trans jT.2 (by omega), ?_⟩
      rw [show wdF ts = jn (ts.map St) from if_neg te] at go
      exact go
  · rintro _ ⟨y1, y2, y3, y4, y5, y6, y7, y8, y9, y10, y11, y12, y13, y14, c0, hc0, rfl⟩
    rfl'
    refine ⟨_, [], 1, rfl, its_l _, by decide, (fun _ h => nomatch h), by decide, ?_⟩
    rfl'
    refine ⟨_, [], 1, rfl, its_t _, by decide, (fun _ h => nomatch h), by decide, ?_⟩
    rfl'
    refine ⟨_, rfl, by decide, fun z => absurd rfl z, ?_⟩
    rw [show rwF (Str.ofString "-") = [] from if_pos rfl, show wdF [] = Str.ofString "-" from if_pos rfl]
    refine c_same83 rfl ?_
    have e2 : (rgD 0 (Int.toNat 2)).length = 2 := rfl
    rw [e2] at hc0
    exact q _ (by omega)
end Lp

namespace Lp
open PySem PySem.Spec PyProof.Rows L2
local macro_rules | `(tactic| rfl') => `(tactic| try dsimp only [dVar_, gv_sh, gv_ow, gv_bx, gv_raw, gv_st, dC, dRaw, dOp, dUn, dTest, dTruth, dAnd, dOr, dNot, dYes, dIf, dAndV, dOrV, dNotV, dNotT, dChain, dNil, dCons, dTup, dLst, dats, dCB, dNoP, dPart, dSl, dNext, dBreak, dCont, dNever, dDrop, dRet, dRetN, dIfS, dSetG, dPar, dPar3, dAppend, dAppPop, dSetIx, dExt, dAug, dSet0, dSAdd, dSNotIn, dIter_, gi_l, gi_t, gi_b, dRng1, dRng2, dName, dGNil, dGCons, dGTup, dAsg, dFor, dWhile, dCall, dCallR, dArgs_, ga_f, ga_t, argsOf, dLc, wipeE, dListRg, dIndex, dSortSet, dSortSc, dEnum, dEnA, dZip, dIsi, dIsi2, isaT, φI, φB, φC, φNeg, add_i, add_l, add_t, mul_i, mul_l, φIx, sl_l, sl_t, eq_i, eq_s, eq_l, eq_t, eq_b, eq_n, φIsN, isN_n, isN_b, isN_i, isN_s, isN_l, isN_t, φLen, φList, φTuple, φAbs, φInt, φMax, φIsB, φIsNB, its_l, its_t, rd_sh, rd_nw, rd_br, rp_sh, rp_nw, rp_br, rp_bx, rp_raw, rp_sr, rr_sh, rr_nw, rr_br, ra_sh, ra_br, ra_bx, ra_raw, va_sh, va_nt, va_nf, va_raw, hb_n, hb_sh, hb_bx, hb_raw, hb_br, sh_n, sh_c, tr_n, tr_b, tr_i, tr_l, tr_t, ty_n, ty_b, ty_i, ty_s, ty_l, ty_t, if_ff, if_tt, Env.set, List.getElem?_cons_succ, List.getElem?_cons_zero, List.set_cons_succ, List.set_cons_zero, List.reverse_cons, List.reverse_nil, List.nil_append, List.cons_append, Option.bind_some, ite_true, ite_false])
/-- all but b stand as they stood -/
def Sb (b : Addr) (H H' : Hp) : Prop := ∀ a o, a ≠ b → H a = some o → H' a = some o
theorem Sb.refl (b : Addr) (H : Hp) : Sb b H H := fun _ _ _ h => h
theorem Sb.trans {b : Addr} {H H1 H2 : Hp} (x : Sb b H H1) (y : Sb b H1 H2) : Sb b H H2 := fun a o n h => y a o n (x a o n h)
theorem Sb.upd {b : Addr} {H H1 : Hp} {o : HO} (x : Sb b H H1) : Sb b H (upd H1 b o) := fun a u n h => by
  rw [upd_ne n]; exact x a u n h
theorem same_new {H : Hp} {p : Addr} {o : HO} (h : H p = none) : Same H (upd H p o) := fun a u e => by
  rw [upd_ne (ne_of_none e h)]; exact e
def spTake : Sp := fun vs H Q _ => ∃ (b : Addr) (span : Int) (c : Nat), vs = [.ref b, .int span] ∧ Box H b c ∧ c ≤ 1000000000 ∧ 1 ≤ span ∧ span ≤ 10000000 ∧
  ∀ H' (r : Int), Sb b H H' → Box H' b (c + 1) → 0 ≤ r → r < span → Q (.int r) H'
def spTakeW : Sp := fun vs H Q _ => ∃ (b : Addr) (span : Int) (c : Nat), vs = [.ref b, .int span] ∧ Box H b c ∧ c ≤ 900000000 ∧ 1 ≤ span ∧ span ≤ 10000000000000 ∧
  ∀ H' (r : Int), Sb b H H' → Box H' b (c + 2) → 0 ≤ r → r < span → Q (.int r) H'
def spTakeB : Sp := fun vs H Q _ => ∃ (b : Addr) (span : Int) (c : Nat), vs = [.ref b, .int span] ∧ Box H b c ∧ c ≤ 900000000 ∧ 10000000 < span ∧ span ≤ 10000000000000 ∧
  ∀ H' (r : Int), Sb b H H' → Box H' b (c + 2) → 0 ≤ r → r < span → Q (.int r) H'
theorem take_imp {vs : List V} {H : Hp} {Q : VK} {E : XK} (h : spD 2 p_law_take vs H Q E) : spTakeW vs H Q E := by
  obtain ⟨b, L, c, args, hl, cz, ar, span, rfl, h1, h2, h3, q⟩ := h
  cases ar with
  | cons a0 r0 =>
    cases r0 with
    | cons a1 r1 =>
      cases r1
      obtain ⟨a, rfl, rfl⟩ := a0
      cases a1
      obtain ⟨sl, hb⟩ := cz
      obtain ⟨nl, bx⟩ := hb a rfl
      refine ⟨a, span, c, rfl, bx, h3, h1, h2, fun H' r sb bx' r0 r1 => ?_⟩
      have keep : Same L H' := fun x o e => sb x o (fun z => by rw [z, nl] at e; cases e) (sl x o e)
      refine q r (c + 2) r0 r1 (by omega) (.int r) L H' ⟨keep, fun x e => by cases e; exact ⟨nl, bx'⟩⟩ ⟨Same.refl L, fun x o e n => sb x o (fun z => n (by rw [z])) e, fun x hx => ?_, fun x n _ => n⟩ (.int r)
      by_cases z : x = a
      · rw [z]; exact bx'.there
      · cases e : H x with
        | none => exact absurd e hx
        | some o => rw [sb x o z e]; exact fun z => nomatch z
def spBox (K : PySem.W.Frag) : Sp := fun vs H Q _ => ∃ (a : Addr) (k : Int) (ns : List Int), vs = [.ref a, .int k] ∧ SqL K H a (IL ns) ∧ 0 ≤ k ∧ k ≤ 62 ∧
  ∀ H' p, Same H H' → H p = none → Box H' p 0 → Q (.ref p) H'
def spLaw (K : PySem.W.Frag) : Sp := fun vs H Q _ => ∃ (a : Addr) (ns : List Int), vs = [.ref a] ∧ SqL K H a (IL ns) ∧ ns.length ≤ 63 ∧ ∀ H', Q (.bl true) H'
theorem fn_none {P : Program} {w : World} {K : PySem.W.Frag} {mg : Str → Option Value} {base : Heap} {k : Nat} {f : Addr} {fd : FuncData} {ps : List Str} {sp : Sp} (h : ∀ vs H Q E, ¬ sp vs H Q E) : FnOk P w K mg base CX0 k f fd ps sp :=
  ⟨fun vs H Q E z => absurd z (h vs H Q E), fun A outer s H args us vs Q E hr he hb hv z => absurd z (h vs H Q E)⟩
theorem fn_or {P : Program} {w : World} {K : PySem.W.Frag} {mg : Str → Option Value} {base : Heap} {k : Nat} {f : Addr} {fd : FuncData} {ps : List Str} {s1 s2 : Sp} (F1 : FnOk P w K mg base CX0 k f fd ps s1) (F2 : FnOk P w K mg base CX0 k f fd ps s2) : FnOk P w K mg base CX0 k f fd ps (fun vs H Q E => s1 vs H Q E ∨ s2 vs H Q E) :=
  ⟨fun vs H Q E h => h.elim (F1.len vs H Q E) (F2.len vs H Q E), fun A outer s H args us vs Q E hr he hb hv hs => hs.elim (F1.run A outer s H args us vs Q E hr he hb hv) (F2.run A outer s H args us vs Q E hr he hb hv)⟩
theorem spD_none {n : Nat} {F : DSp} (h : ∀ args c Q, ¬ F args c Q) : ∀ vs H Q E, ¬ spD n F vs H Q E := fun vs H Q E ⟨b, L, c, args, _, _, _, z⟩ => h _ _ _ z
theorem yes_ok {te : TE} {σ : L2.St} {H : Hp} {R : V → Hp → Prop} {S : Hp → Prop} (h : te σ H R) : tYes σ H fun b H3 => if b = true then te σ H3 R else S H3 :=
  iteT (B := S H) h
theorem rep_bl (n : Nat) : (List.replicate n true).map V.bl = List.replicate n (.bl true) := by rw [List.map_replicate]
theorem rep_app (n : Nat) (x : V) : List.replicate n x ++ [x] = List.replicate (n + 1) x := by
  rw [List.replicate_succ']
theorem rep_all (n : Nat) : (List.replicate n true).all id = true := by
  rw [List.all_replicate]; split <;> rfl
/-- a list stands where its object stands -/
theorem SqL.keep {K : PySem.W.Frag} {H H' : Hp} {a : Addr} {xs : List V} (h : SqL K H a xs) (k : ∀ o, H a = some o → H' a = some o) : SqL K H' a xs := by
  rcases h with h | h
  · refine .inl ?_
    rcases h with h | ⟨o, h⟩
    · exact .inl (k _ h)
    · exact .inr ⟨o, k _ h⟩
  · exact .inr h
theorem at_lt {ns : List Int} {i : Int} (h0 : 0 ≤ i) (h1 : i < (ns.length : Int)) : ∃ z, atI (IL ns) i = some (.int z) := by
  refine ⟨gt ns i, ?_⟩
  rw [atI_nat h0 (by rw [List.length_map]; exact h1), List.getElem?_map, gt_get h0 h1]; rfl
def Stay (K : PySem.W.Frag) (D a : Addr) (xs : List V) (H : Hp) : Prop := (∃ o, H a = some o ∧ a ≠ D ∧ ∀ H', H' a = some o → SqL K H' a xs) ∨ ∀ H', SqL K H' a xs
theorem Stay.of {K : PySem.W.Frag} {D a : Addr} {xs : List V} {H : Hp} {u : HO} (h : SqL K H a xs) (n : H D = none) : Stay K D a xs (upd H D u) := by
  rcases h with h | h
  · refine .inl ?_
    rcases h with h | ⟨o, h⟩
    · have z : a ≠ D := ne_of_none h n
      exact ⟨_, by rw [upd_ne z]; exact h, z, fun H' e => .inl (.inl e)⟩
    · have z : a ≠ D := ne_of_none h n
      exact ⟨_, by rw [upd_ne z]; exact h, z, fun H' e => .inl (.inr ⟨o, e⟩)⟩
  · exact .inr fun H' => .inr h
theorem Stay.step {K : PySem.W.Frag} {D a b : Addr} {xs : List V} {H H6 H7 : Hp} {u : HO} (h : Stay K D a xs H) (s : Same H H6) (n : H b = none) (sb : Sb b H6 H7) : Stay K D a xs (upd H7 D u) := by
  rcases h with ⟨o, e, z, h⟩ | h
  · exact .inl ⟨o, by rw [upd_ne z]; exact sb a o (ne_of_none e n) (s a o e), z, h⟩
  · exact .inr h
end Lp

namespace Lp
open PySem PySem.Spec PyProof.Rows L2
local macro_rules | `(tactic| rfl') => `(tactic| try dsimp only [dVar_, gv_sh, gv_ow, gv_bx, gv_raw, gv_st, dC, dRaw, dOp, dUn, dTest, dTruth, dAnd, dOr, dNot, dYes, dIf, dAndV, dOrV, dNotV, dNotT, dChain, dNil, dCons, dTup, dLst, dats, dCB, dNoP, dPart, dSl, dNext, dBreak, dCont, dNever, dDrop, dRet, dRetN, dIfS, dSetG, dPar, dPar3, dAppend, dAppPop, dSetIx, dExt, dAug, dSet0, dSAdd, dSNotIn, dIter_, gi_l, gi_t, gi_b, dRng1, dRng2, dName, dGNil, dGCons, dGTup, dAsg, dFor, dWhile, dCall, dCallR, dArgs_, ga_f, ga_t, argsOf, dLc, wipeE, dListRg, dIndex, dSortSet, dSortSc, dEnum, dEnA, dZip, dIsi, dIsi2, isaT, φI, φB, φC, φNeg, add_i, add_l, add_t, mul_i, mul_l, φIx, sl_l, sl_t, eq_i, eq_s, eq_l, eq_t, eq_b, eq_n, φIsN, isN_n, isN_b, isN_i, isN_s, isN_l, isN_t, φLen, φList, φTuple, φAbs, φInt, φMax, φIsB, φIsNB, its_l, its_t, rd_sh, rd_nw, rd_br, rp_sh, rp_nw, rp_br, rp_bx, rp_raw, rp_sr, rr_sh, rr_nw, rr_br, ra_sh, ra_br, ra_bx, ra_raw, va_sh, va_nt, va_nf, va_raw, hb_n, hb_sh, hb_bx, hb_raw, hb_br, sh_n, sh_c, tr_n, tr_b, tr_i, tr_l, tr_t, ty_n, ty_b, ty_i, ty_s, ty_l, ty_t, if_ff, if_tt, Env.set, List.getElem?_cons_succ, List.getElem?_cons_zero, List.set_cons_succ, List.set_cons_zero, List.reverse_cons, List.reverse_nil, List.nil_append, List.cons_append, Option.bind_some, ite_true, ite_false])
theorem IL_at {es : List Int} {i : Nat} {x : V} (h : (IL es)[i]? = some x) (hi : i < es.length) : x = .int es[i] := by
  rw [IL_get (List.getElem?_eq_getElem hi)] at h
  exact (Option.some.inj h).symm
theorem IL_set (ns : List Int) (i : Nat) (z : Int) : (IL ns).set i (.int z) = IL (ns.set i z) := by
  show (ns.map V.int).set i (V.int z) = (ns.set i z).map V.int
  rw [List.map_set]
theorem same_mut {H H' : Hp} {p : Addr} {o : HO} (s : Same H H') (h : H p = none) : Same H (upd H' p o) := fun a u e => by
  rw [upd_ne (ne_of_none e h)]; exact s a u e
theorem cut_IL (ns : List Int) (lo hi : Option Int) : cutV (IL ns) lo hi = IL ((ns.drop (HT.sIx ns.length 0 lo)).take (HT.sIx ns.length ns.length hi - HT.sIx ns.length 0 lo)) := by
  unfold cutV
  show ((ns.map V.int).drop (HT.sIx (ns.map V.int).length 0 lo)).take (HT.sIx (ns.map V.int).length (ns.map V.int).length hi - HT.sIx (ns.map V.int).length 0 lo) = List.map V.int _
  rw [List.length_map, List.map_take, List.map_drop]
def spCells (K : PySem.W.Frag) : Sp := fun vs H Q _ => ∃ (a : Addr) (m : Int) (ns : List Int), vs = [.ref a, .int m] ∧ SqL K H a (IL ns) ∧ 1 ≤ m ∧ m ≤ 60 ∧
  ∀ H' p (ms : List Int), Same H H' → H p = none → H' p = some (.lst (IL ms)) → 1 ≤ ms.length → (ms.length : Int) ≤ m → Q (.ref p) H'
/-- a call of what draws from a box alone and answers True, with a count -/
theorem right_do2 {F : DSp} {H : Hp} {b : Addr} {c N : Nat} {Q : VK} {E : XK} (bx : Box H b c) (h : ∀ Q : R → Nat → Prop, (∀ c', c' ≤ c + N → Q (.sh (.bool true)) c') → F [.bx] c Q) (q : ∀ H', Sb b H H' → Box H' b (c + N) → Q (.bl true) H') : spD 1 F [.ref b] H Q E := by
  refine ⟨some b, fun _ => none, c, [.bx], rfl, ⟨(fun _ _ h => nomatch h), fun a e => by cases e; exact ⟨rfl, bx⟩⟩, .cons ⟨b, rfl, rfl⟩ .nil, h _ fun c' hc v L' H' cz ex vr => ?_⟩
  cases vr
  exact q H' (fun a o n e => ex.hh a o e fun z => n (by cases z; rfl)) ((cz.2 b rfl).2.le hc)
theorem Box.ne {H : Hp} {b D : Addr} {c : Nat} (x : Box H b c) (n : H D = none) : b ≠ D := fun z => x.there (by rw [z]; exact n)
theorem Box.new {H : Hp} {b D : Addr} {c : Nat} {o : HO} (x : Box H b c) (n : H D = none) : Box (upd H D o) b c := x.keep (upd_ne (x.ne n))
theorem Box.put {H : Hp} {b D : Addr} {c : Nat} {o : HO} (x : Box H b c) (n : b ≠ D) : Box (upd H D o) b c := x.keep (upd_ne n)
theorem upd_keep {H : Hp} {a p : Addr} {o u : HO} (h : H a = some o) (n : H p = none) : (upd H p u) a = some o := by rw [upd_ne (ne_of_none h n)]; exact h
end Lp

namespace Lp
open PySem PySem.Spec PyProof.Rows L2
def topS (i : Nat) : Stmt := PySem.Challenge.pw_lookpast_k83_texts_and_back.main.body.getD i (.Pass ⟨0, 0, 0, 0⟩)
section
variable {P : Program} {w : World} {K : PySem.W.Frag} {mg : Str → Option Value} {base : Heap}
abbrev sTake : Stmt := topS 19
theorem scTake : FnScope ["_law_source", "_law_bound", "_law_found", "_law_once", "_law_twice"] ["_law_source", "_law_bound"] (defScope sTake) := ⟨rfl, rfl, rfl, by decide +kernel, rfl, by decide +kernel, by decide +kernel⟩
theorem ok_take {f : Addr} {fd : FuncData} {k : Nat} (F : Fun K "_law_draw" "_law_draw" sTake f fd) : FnOk P w K mg base CX0 (k + 1) f fd ["_law_source", "_law_bound"] spTake := by
  refine F.ok scTake (fun vs H Q E h => ?_) (fun cdv A outer s H vs Q E hr h => ?_)
  · obtain ⟨b, span, c, rfl, _⟩ := h
    rfl
  · obtain ⟨b, span, c, rfl, ⟨x0, x1, x2, hb, h0, h1, h2, h3, h4⟩, hc, hs1, hs2, q⟩ := h
    refine ⟨_, pss_cons (ps_if (pt_cmpR op_gt (pe_ix ix_list (pv 0) pe_int (fun _ _ => rfl)) pe_int (nomark _))
        (pss_cons (ps_set (i := 2) scTake.nd rfl (.inl rfl) (pe_op op_mod (pe_ix ix_list (pv 0) pe_int (fun _ _ => rfl)) (pv 1)))
        (pss_cons (ps_asg (pe_op op_fdiv (pe_ix ix_list (pv 0) pe_int (fun _ _ => rfl)) (pv 1)) (pg_sub (pv 0) pe_int set_list))
        (pss_one (ps_ret (pv 2))))) pss_nil)
      (pss_cons (ps_if (pt_cmpR op_gt (pv 1) (pe_op op_pow pe_int pe_int) (nomark _)) pss_never pss_nil)
      (pss_cons (ps_asg (pe_op op_add (pe_ix ix_list (pv 0) pe_int (fun _ _ => rfl)) pe_int) (pg_sub (pv 0) pe_int set_list))
      (pss_cons (ps_set (i := 3) scTake.nd rfl (.inl rfl) (pe_op op_mod (pe_op op_mul (pe_op op_add (pe_ix ix_list (pv 0) pe_int (fun _ _ => rfl)) (pe_op op_mul pe_int (pe_ix ix_list (pv 0) pe_int (fun _ _ => rfl)))) (pe_op op_add pe_int (pe_ix ix_list (pv 0) pe_int (fun _ _ => rfl)))) pe_int))
      (pss_cons (ps_set (i := 4) scTake.nd rfl (.inl rfl) (pe_op op_mod (pe_op op_mul (pe_op op_add (pe_op op_add (pv 3) (pe_ix ix_list (pv 0) pe_int (fun _ _ => rfl))) (pe_op op_fdiv (pe_ix ix_list (pv 0) pe_int (fun _ _ => rfl)) pe_int)) (pe_op op_add (pe_op op_mod (pv 3) pe_int) pe_int)) pe_int))
      (pss_one (ps_ret (pe_op op_mod (pe_op op_fdiv (pe_op op_mod (pe_op op_add (pe_op op_mul (pv 4) pe_int) (pv 3)) pe_int) pe_int) (pv 1)))))))), ?_⟩
    have ix : SqL K H b [.int x0, .int x1, .int x2] := SqL.of hb
    refine ⟨.ref b, rfl, b, _, 0, .int x0, rfl, rfl, ix, rfl, x0, 0, rfl, rfl, _, rfl, ite2 (fun e => ?_) (fun e => ?_)⟩
    · have e0 : 0 < x0 := of_decide_eq_true e
      refine ⟨.ref b, rfl, b, _, 0, .int x0, rfl, rfl, ix, rfl, .int span, rfl, x0, span, rfl, rfl, (by show (0 : Int) < span; omega), ?_⟩
      refine ⟨.ref b, rfl, b, _, 0, .int x0, rfl, rfl, ix, rfl, .int span, rfl, x0, span, rfl, rfl, ⟨by omega, by omega⟩, ?_⟩
      refine ⟨.ref b, rfl, b, _, 0, 0, rfl, rfl, hb, rfl, ?_⟩
      refine ⟨.int (x0 % span), rfl, q _ _ (Sb.upd (Sb.refl b H)) ⟨x0 / span, x1, x2, upd_same, ?_, h1, h2, h3, by omega⟩ (Int.emod_nonneg _ (by omega)) (Int.emod_lt_of_pos _ (by omega))⟩
      exact Int.ediv_nonneg h0 (by omega)
    · refine ⟨.int span, rfl, 10, 7, rfl, rfl, ⟨by decide, by decide, by decide⟩, span, _, rfl, rfl, _, rfl, ?_⟩
      have e1 : ¬ ((10 : Int) ^ (7 : Int).toNat < span) := by
        show ¬ ((10000000 : Int) < span)
        omega
      rw [decide_eq_false e1]
      refine iteF ?_
      refine ⟨.ref b, rfl, b, _, 2, .int x2, rfl, rfl, ix, rfl, x2, 1, rfl, rfl, ?_⟩
      refine ⟨.ref b, rfl, b, _, 2, 2, rfl, rfl, hb, rfl, ?_⟩
      have ix2 : SqL K (upd H b (.lst [.int x0, .int x1, .int (x2 + 1)])) b [.int x0, .int x1, .int (x2 + 1)] := SqL.of upd_same
      refine ⟨.ref b, rfl, b, _, 1, .int x1, rfl, rfl, ix2, rfl, .ref b, rfl, b, _, 2, .int (x2 + 1), rfl, rfl, ix2, rfl, 48271, x2 + 1, rfl, rfl, .inl ⟨by decide, by decide⟩, x1, _, rfl, rfl, .ref b, rfl, b, _, 2, .int (x2 + 1), rfl, rfl, ix2, rfl, 39373, x2 + 1, rfl, rfl, _, _, rfl, rfl, .inr ⟨by omega, by omega⟩, _, 2147483647, rfl, rfl, (by show (0 : Int) < 2147483647; decide), ?_⟩
      dsimp only
      generalize hg : (x1 + 48271 * (x2 + 1)) * (39373 + (x2 + 1)) % 2147483647 = once
      have o1 : 0 ≤ once := by rw [← hg]; exact Int.emod_nonneg _ (by decide)
      have o2 : once < 2147483647 := by rw [← hg]; exact Int.emod_lt_of_pos _ (by decide)
      refine ⟨.int once, rfl, .ref b, rfl, b, _, 2, .int (x2 + 1), rfl, rfl, ix2, rfl, once, x2 + 1, rfl, rfl, .ref b, rfl, b, _, 1, .int x1, rfl, rfl, ix2, rfl, x1, 1000003, rfl, rfl, ⟨by decide, by decide⟩, _, _, rfl, rfl, .int once, rfl, once, 40009, rfl, rfl, (by show (0 : Int) < 40009; decide), _, 7, rfl, rfl, _, _, rfl, rfl, .inr ⟨by omega, by omega⟩, _, 2147483629, rfl, rfl, (by show (0 : Int) < 2147483629; decide), ?_⟩
      dsimp only
      generalize hg2 : (once + (x2 + 1) + x1 / 1000003) * (once % 40009 + 7) % 2147483629 = twice
      refine ⟨.int twice, rfl, twice, 48271, rfl, rfl, .inr ⟨by decide, by decide⟩, .int once, rfl, _, once, rfl, rfl, _, 2147483587, rfl, rfl, (by show (0 : Int) < 2147483587; decide), _, 64, rfl, rfl, ⟨by decide, by decide⟩, .int span, rfl, _, span, rfl, rfl, (by show (0 : Int) < span; omega), ?_⟩
      exact q _ _ (Sb.upd (Sb.refl b H)) ⟨x0, x1, x2 + 1, upd_same, h0, h1, h2, by omega, by omega⟩ (Int.emod_nonneg _ (by omega)) (Int.emod_lt_of_pos _ (by omega))
theorem ok_takeB {f : Addr} {fd : FuncData} {k : Nat} (F : Fun K "_law_draw" "_law_draw" sTake f fd) (T : Cal P w K mg base "_law_draw" (k + 1) ["_law_source", "_law_bound"] spTake f fd) : FnOk P w K mg base CX0 (k + 2) f fd ["_law_source", "_law_bound"] spTakeB := by
  refine F.ok scTake (fun vs H Q E h => ?_) (fun cdv A outer s H vs Q E hr h => ?_)
  · obtain ⟨b, span, c, rfl, _⟩ := h
    rfl
  · obtain ⟨b, span, c, rfl, hB, hc, hs1, hs2, q⟩ := h
    obtain ⟨x0, x1, x2, hb, h0, h1, h2, h3, h4⟩ := id hB
    refine ⟨_, pss_cons (ps_if (pt_cmpR op_gt (pe_ix ix_list (pv 0) pe_int (fun _ _ => rfl)) pe_int (nomark _))
        (pss_cons (ps_set (i := 2) scTake.nd rfl (.inl rfl) (pe_op op_mod (pe_ix ix_list (pv 0) pe_int (fun _ _ => rfl)) (pv 1)))
        (pss_cons (ps_asg (pe_op op_fdivW (pe_ix ix_list (pv 0) pe_int (fun _ _ => rfl)) (pv 1)) (pg_sub (pv 0) pe_int set_list))
        (pss_one (ps_ret (pv 2))))) pss_nil)
      (pss_cons (ps_if (pt_cmpR op_gt (pv 1) (pe_op op_pow pe_int pe_int) (nomark _))
        (pss_one (ps_ret (pe_op op_mod (pe_op op_add (pe_call T.ok hr (by rfl) T.g T.kp T.bd .nil pass0 (pa_cons (pv 0) (pa_cons (pe_op op_pow pe_int pe_int) pa_nil))) (pe_op op_mul (pe_op op_pow pe_int pe_int) (pe_call T.ok hr (by rfl) T.g T.kp T.bd .nil pass0 (pa_cons (pv 0) (pa_cons (pe_op op_add (pe_op op_fdiv (pe_op op_sub (pv 1) pe_int) (pe_op op_pow pe_int pe_int)) pe_int) pa_nil))))) (pv 1)))) pss_nil)
      pss_never), ?_⟩
    have ix : SqL K H b [.int x0, .int x1, .int x2] := SqL.of hb
    refine ⟨.ref b, rfl, b, _, 0, .int x0, rfl, rfl, ix, rfl, x0, 0, rfl, rfl, _, rfl, ite2 (fun e => ?_) (fun e => ?_)⟩
    · have e0 : 0 < x0 := of_decide_eq_true e
      refine ⟨.ref b, rfl, b, _, 0, .int x0, rfl, rfl, ix, rfl, .int span, rfl, x0, span, rfl, rfl, (by show (0 : Int) < span; omega), ?_⟩
      refine ⟨.ref b, rfl, b, _, 0, .int x0, rfl, rfl, ix, rfl, .int span, rfl, x0, span, rfl, rfl, wide_div (b := 64) (by omega) (by omega) (by decide) (by decide), ?_⟩
      refine ⟨.ref b, rfl, b, _, 0, 0, rfl, rfl, hb, rfl, ?_⟩
      refine ⟨.int (x0 % span), rfl, q _ _ (Sb.upd (Sb.refl b H)) ⟨x0 / span, x1, x2, upd_same, ?_, h1, h2, h3, by omega⟩ (Int.emod_nonneg _ (by omega)) (Int.emod_lt_of_pos _ (by omega))⟩
      exact Int.ediv_nonneg h0 (by omega)
    · have p7 : (10 : Int) ^ (7 : Int).toNat = 10000000 := by decide
      refine ⟨.int span, rfl, 10, 7, rfl, rfl, ⟨by decide, by decide, by decide⟩, span, _, rfl, rfl, _, rfl, ?_⟩
      have e1 : (10 : Int) ^ (7 : Int).toNat < span := by rw [p7]; omega
      rw [decide_eq_true e1]
      refine iteT ?_
      refine ⟨.ref b, rfl, 10, 7, rfl, rfl, ⟨by decide, by decide, by decide⟩, b, _, c, rfl, hB, by omega, by decide, by decide, fun H1 r1 sb1 hB1 r10 r11 => ?_⟩
      refine ⟨10, 7, rfl, rfl, ⟨by decide, by decide, by decide⟩, .ref b, rfl, .int span, rfl, span, 1, rfl, rfl, 10, 7, rfl, rfl, ⟨by decide, by decide, by decide⟩, _, _, rfl, rfl, ⟨by decide, by decide⟩, _, 1, rfl, rfl, b, _, c + 1, rfl, hB1, by omega, ?_, ?_, fun H2 r2 sb2 hB2 r20 r21 => ?_⟩
      · show 1 ≤ (span - 1) / (10 : Int) ^ (7 : Int).toNat + 1
        rw [p7]; omega
      · show (span - 1) / (10 : Int) ^ (7 : Int).toNat + 1 ≤ 10000000
        rw [p7]; omega
      · refine ⟨_, r2, rfl, rfl, .inl ⟨by decide, by decide⟩, r1, _, rfl, rfl, .int span, rfl, _, span, rfl, rfl, (by show (0 : Int) < span; omega), ?_⟩
        exact q H2 _ (sb1.trans sb2) (hB2.le (by omega)) (Int.emod_nonneg _ (by omega)) (Int.emod_lt_of_pos _ (by omega))
theorem ok_takeW {f : Addr} {fd : FuncData} {k : Nat} (F : Fun K "_law_draw" "_law_draw" sTake f fd) (T : Cal P w K mg base "_law_draw" (k + 1) ["_law_source", "_law_bound"] spTake f fd) : FnOk P w K mg base CX0 (k + 2) f fd ["_law_source", "_law_bound"] spTakeW :=
  FnOk.imp (fn_or (ok_take F) (ok_takeB F T)) fun vs H Q E h => by
    obtain ⟨b, span, c, rfl, hB, hc, h1, h2, q⟩ := h
    by_cases hs : span ≤ 10000000
    · exact .inl ⟨b, span, c, rfl, hB, by omega, h1, hs, fun H' r sb hB' => q H' r sb (hB'.le (by omega))⟩
    · exact .inr ⟨b, span, c, rfl, hB, hc, by omega, h2, q⟩
abbrev sBox : Stmt := topS 18
theorem scBox : FnScope ["_law_script", "_law_k", "_law_cell"] ["_law_script", "_law_k"] (defScope sBox) := ⟨rfl, rfl, rfl, by decide +kernel, rfl, by decide +kernel, by decide +kernel⟩
theorem ok_box {f : Addr} {fd : FuncData} {k : Nat} (F : Fun K "_law_stream" "_law_stream" sBox f fd) (B : Bi mg) : FnOk P w K mg base CX0 (k + 1) f fd ["_law_script", "_law_k"] (spBox K) := by
  refine F.ok scBox (fun vs H Q E h => ?_) (fun cdv A outer s H vs Q E hr h => ?_)
  · obtain ⟨a, k, ns, rfl, _⟩ := h
    rfl
  · obtain ⟨a, k, ns, rfl, hS, h0, h1, q⟩ := h
    refine ⟨_, pss_cons (ps_set (i := 2) scBox.nd rfl (.inl rfl) pe_int)
      (pss_cons (ps_if (pt_cmpR op_lt (pv 1) (pe_callB call_len_seq (by rfl) B.len PySem.boot_len (pa_cons (pv 0) pa_nil)) (nomark _)) (pss_one (ps_set (i := 2) scBox.nd rfl (.inl rfl) (pe_ix ix_list (pv 0) (pv 1) (fun _ _ => rfl)))) pss_nil)
      (pss_one (ps_ret (pe_lst (pa_cons (pe_op op_mul (pe_callB call_abs (by rfl) B.abs (by decide +kernel) (pa_cons (pv 2) pa_nil)) (pe_callTy call_int1 (by rfl) B.int (by decide +kernel) (pa_cons (pe_cmpR op_ge (pe_callB call_abs (by rfl) B.abs (by decide +kernel) (pa_cons (pv 2) pa_nil)) (pe_op op_pow pe_int pe_int) (nomark _)) pa_nil)))
        (pa_cons (pe_op op_add (pe_op op_add (pe_op op_mod (pv 2) pe_int) (pe_op op_mul pe_int (pv 1))) pe_int) (pa_cons pe_int pa_nil))))))), ?_⟩
    have fin : ∀ z : Int, tRet (tLst (tCons (tOp (rI CMul fun i j => .int (i * j)) (tCB (fun xs H Q => ∃ i, xs = [.int i] ∧ Q (.int (if i < 0 then -i else i)) H) (tCons (tVar 2) tNil)) (tCB (fun xs H Q => (∃ i, xs = [.int i] ∧ Q (.int i) H) ∨ ∃ k, xs = [.bl k] ∧ Q (.int (if k then 1 else 0)) H) (tCons (tOp (rI0 fun i j => .bl (decide (j ≤ i))) (tCB (fun xs H Q => ∃ i, xs = [.int i] ∧ Q (.int (if i < 0 then -i else i)) H) (tCons (tVar 2) tNil)) (tOp (rI CPow fun i j => .int (i ^ j.toNat)) (tC (.int 10)) (tC (.int 18)))) tNil)))
        (tCons (tOp (rI0 fun i j => .int (i + j)) (tOp (rI0 fun i j => .int (i + j)) (tOp (rI (fun _ j => 0 < j) fun i j => .int (i % j)) (tVar 2) (tC (.int 2305843009213693951))) (tOp (rI CMul fun i j => .int (i * j)) (tC (.int 39373)) (tVar 1))) (tC (.int 29))) (tCons (tC (.int 0)) tNil)))) { nx := fun _ H' => Q .non H', rt := Q } [some (.ref a), some (.int k), some (.int z)] H := by
      intro z
      refine ⟨.int z, rfl, z, rfl, .int z, rfl, z, rfl, 10, 18, rfl, rfl, ⟨by decide, by decide, by decide⟩, _, _, rfl, rfl, .inr ⟨_, rfl, _, _, rfl, rfl, .inr ?_, ?_⟩⟩
      · split <;> (split <;> exact ⟨by decide, by decide⟩)
      · refine ⟨.int z, rfl, z, _, rfl, rfl, (by show (0 : Int) < 2305843009213693951; decide), .int k, rfl, 39373, k, rfl, rfl, .inl ⟨by decide, by decide⟩, _, _, rfl, rfl, _, 29, rfl, rfl, (by show 3 ≤ sizeLine; decide), fun p hp => ?_⟩
        refine q _ p (same_new hp) hp ⟨_, _, _, upd_same, ?_, ?_, ?_, by decide, by decide⟩
        · have h1 : (0 : Int) ≤ (if z < 0 then -z else z) := by split <;> omega
          refine Int.mul_nonneg h1 ?_
          split <;> (split <;> decide)
        · have := Int.emod_nonneg z (show (2305843009213693951 : Int) ≠ 0 by decide)
          omega
        · have := Int.emod_lt_of_pos z (show (0 : Int) < 2305843009213693951 by decide)
          omega
    refine ⟨.int k, rfl, .ref a, rfl, a, _, rfl, .inl hS, k, _, rfl, rfl, _, rfl, ite2 (fun e => ?_) (fun e => ?_)⟩
    · have e1 : k < ((IL ns).length : Int) := of_decide_eq_true e
      rw [List.length_map] at e1
      obtain ⟨z, hz⟩ := at_lt h0 e1
      refine ⟨.ref a, rfl, .int k, rfl, a, _, k, .int z, rfl, rfl, hS, hz, ?_⟩
      exact fin z
    · exact fin 0
abbrev sCells : Stmt := topS 20
theorem scCells : FnScope ["_law_script", "_law_most", "_law_cells", "_law_k", "_law_cell"] ["_law_script", "_law_most"] (defScope sCells) := ⟨rfl, rfl, rfl, by decide +kernel, rfl, by decide +kernel, by decide +kernel⟩
theorem ok_cells {f : Addr} {fd : FuncData} {k : Nat} (F : Fun K "_law_folded" "_law_folded" sCells f fd) (B : Bi mg) : FnOk P w K mg base CX0 (k + 1) f fd ["_law_script", "_law_most"] (spCells K) := by
  refine F.ok scCells (fun vs H Q E h => ?_) (fun cdv A outer s H vs Q E hr h => ?_)
  · obtain ⟨a, m, ns, rfl, _⟩ := h
    rfl
  · obtain ⟨a, m, ns, rfl, hS, m1, m2, q⟩ := h
    refine ⟨_, pss_cons (ps_set (i := 2) scCells.nd rfl (.inl rfl) (pe_orT (pe_callTy call_list_of (by rfl) B.list (by decide +kernel) (pa_cons (pe_slice sl_list (pv 0) po_none (po_some (pv 1))) pa_nil)) (pe_one (pe_lst (pa_cons pe_int pa_nil)))))
      (pss_cons (ps_for PassesOwn.never rfl (pi_enum (by rfl) B.enumerate (pa_cons (pe_slice sl_list (pv 0) (po_some (pv 1)) (po_some pe_int)) pa_nil))
          (pg_tup rfl (pgs_cons (pg_name (i := 3) scCells.nd rfl (.inl rfl)) (pgs_cons (pg_name (i := 4) scCells.nd rfl (.inl rfl)) pgs_nil)))
        (pss_one (ps_asg (pe_op op_add (pe_ix ix_list (pv 2) (pe_op op_mod (pv 3) (pv 1)) (fun _ _ => rfl)) (pe_op op_mul (pv 4) (pe_op op_add (pv 3) pe_int))) (pg_sub (pv 2) (pe_op op_mod (pv 3) (pv 1)) set_list))))
      (pss_one (ps_ret (pv 2)))), ?_⟩
    refine ⟨.ref a, rfl, .int m, rfl, m, rfl, a, _, rfl, hS, fun c nc => ?_⟩
    rw [cut_IL]
    generalize hms : (ns.drop (HT.sIx ns.length 0 none)).take (HT.sIx ns.length ns.length (some m) - HT.sIx ns.length 0 none) = ms0
    have hl0 : ms0.length = min m.toNat ns.length := by
      rw [← hms, List.length_take, List.length_drop, HT.sIx_none, sIx_int _ _ _ (by omega)]
      omega
    have s1 := same_new (o := HO.lst (IL ms0)) nc
    refine ⟨c, _, rfl, .inl (SqL.of upd_same), fun o no => ?_⟩
    have s2 := s1.trans (same_new (o := HO.lst (IL ms0)) no)
    have n0 : H o = none := s1.free no
    have go : ∀ (ms1 : List Int) (o : Addr) (H2 : Hp), Same H H2 → H o = none → H2 o = some (.lst (IL ms1)) → 1 ≤ ms1.length → (ms1.length : Int) ≤ m → (m.toNat < ns.length → (ms1.length : Int) = m) →
        tSeq (tFor (iEnum K (tCons (tSl (rSlL K) (tVar 0) (tPart (tVar 1)) (tPart (tC (.int 63)))) tNil)) (gTup K 2 (gCons (gName 3) (gCons (gName 4) gNil))) (tAsg (tOp (rI0 fun i j => .int (i + j)) (tOp (rIxL K) (tVar 2) (tOp (rI (fun _ j => 0 < j) fun i j => .int (i % j)) (tVar 3) (tVar 1))) (tOp (rI CMul fun i j => .int (i * j)) (tVar 4) (tOp (rI0 fun i j => .int (i + j)) (tVar 3) (tC (.int 2))))) (gSub (tVar 2) (tOp (rI (fun _ j => 0 < j) fun i j => .int (i % j)) (tVar 3) (tVar 1)) rSetL))) (tRet (tVar 2))
          { nx := fun _ H' => Q .non H', rt := Q } [some (.ref a), some (.int m), some (.ref o), none, none] H2 := by
      intro ms1 o H2 s2 n0 ho2 l1 l2 l3
      refine ⟨.ref a, rfl, .int m, rfl, m, rfl, 63, rfl, a, _, rfl, s2.seq hS, fun e ne => ?_⟩
      rw [cut_IL]
      generalize hes : (ns.drop (HT.sIx ns.length 0 (some m))).take (HT.sIx ns.length ns.length (some 63) - HT.sIx ns.length 0 (some m)) = es
      have hle : 0 < es.length → m.toNat < ns.length := by
        rw [← hes, List.length_take, List.length_drop, sIx_int _ _ m (by omega), sIx_int _ _ 63 (by omega)]
        omega
      have nee : o ≠ e := ne_of_none ho2 ne
      have s3 := s2.trans (same_new (o := HO.lst (IL es)) ne)
      refine ⟨e, _, rfl, SqL.of upd_same, ?_⟩
      refine for_it (walk_enum (K := K) (a := e) (xs := IL es)) (fun _ σ H3 => ∃ y3 y4 ms, σ = [some (.ref a), some (.int m), some (.ref o), y3, y4] ∧ Same H H3 ∧ H3 e = some (.lst (IL es)) ∧ H3 o = some (.lst (IL ms)) ∧ ms.length = ms1.length) ?_ ?_ ?_ ?_
      · refine ⟨none, none, ms1, rfl, s3, upd_same, ?_, rfl⟩
        rw [upd_ne nee]; exact ho2
      · rintro i σ H3 _ ⟨y3, y4, ms, rfl, _, he, _⟩
        exact SqL.of he
      · rintro i x σ H3 H4 hi ⟨y3, y4, ms, rfl, sm, he, ho, hl⟩ ⟨T, x1, x2, rfl, nT, rfl, hx1, hx2⟩
        cases hx1
        have hi' : i < es.length := by rw [List.length_map] at hi; exact hi
        have hx2' : x2 = .int es[i] := IL_at hx2 hi'
        subst hx2'
        have hml : (ms.length : Int) = m := by have := l3 (hle (by omega)); omega
        have ho' : (upd H3 T (.tup [.int (i : Nat), .int es[i]])) o = some (.lst (IL ms)) := by rw [upd_ne (ne_of_none ho nT)]; exact ho
        have r0 : 0 ≤ (i : Int) % m := Int.emod_nonneg _ (by omega)
        have r1 : (i : Int) % m < (ms.length : Int) := by rw [hml]; exact Int.emod_lt_of_pos _ (by omega)
        obtain ⟨z, hz⟩ := at_lt r0 r1
        refine ⟨T, _, rfl, SqT.of upd_same, rfl, _, _, rfl, _, _, rfl, rfl, ?_⟩
        refine ⟨.ref o, rfl, .int i, rfl, .int m, rfl, i, m, rfl, rfl, (by show (0 : Int) < m; omega), o, _, _, .int z, rfl, rfl, SqL.of ho', hz, .int es[i], rfl, .int i, rfl, i, 2, rfl, rfl, es[i], _, rfl, rfl, .inr ⟨by omega, ?_⟩, z, _, rfl, rfl, ?_⟩
        · show (i : Int) + 2 < 2 ^ 64
          have : (es.length : Int) ≤ 63 := by
            have : es.length ≤ 63 := by rw [← hes, List.length_take, List.length_drop, sIx_int _ _ m (by omega), sIx_int _ _ 63 (by omega)]; omega
            omega
          omega
        · refine ⟨.ref o, rfl, .int i, rfl, .int m, rfl, i, m, rfl, rfl, (by show (0 : Int) < m; omega), o, _, _, ((i : Int) % m).toNat, rfl, rfl, ho', ?_, ?_⟩
          · rw [List.length_map]; exact ixN_ok r0 r1
          · rw [IL_set]
            refine ⟨_, _, _, rfl, ?_, ?_, upd_same, ?_⟩
            · exact same_mut (sm.trans (same_new nT)) n0
            · rw [upd_ne (Ne.symm nee), upd_ne (ne_of_none he nT)]; exact he
            · rw [List.length_set]; exact hl
      · rintro σ H3 ⟨y3, y4, ms, rfl, sm, he, ho, hl⟩
        exact ⟨.ref o, rfl, q _ o ms sm n0 ho (by omega) (by omega)⟩
    refine ⟨!(IL ms0).isEmpty, .inl ⟨_, SqL.of upd_same, rfl⟩, ?_⟩
    cases ms0 with
    | nil =>
      refine iteF ⟨by show 1 ≤ sizeLine; decide, fun p np => ?_⟩
      refine go [0] p _ (s2.trans (same_new np)) (s2.free np) upd_same (by decide) (by show (1 : Int) ≤ m; omega) (fun h => ?_)
      have : ([] : List Int).length = 0 := rfl
      omega
    | cons x r =>
      refine iteT (go (x :: r) o _ s2 n0 upd_same (by show 1 ≤ r.length + 1; omega) (by omega) (fun h => ?_))
      omega
abbrev s_spaced : Stmt := topS 7
abbrev n_spaced : List Str := ["items", "item"]
theorem sc_spaced : FnScope n_spaced ["items"] (defScope s_spaced) := ⟨rfl, rfl, rfl, by decide +kernel, rfl, by decide +kernel, by decide +kernel⟩
theorem ok_spaced {f : Addr} {fd : FuncData} (F : Fun K "spaced" "spaced" s_spaced f fd) (B : Bi mg)    (z_str : mg "str" = none)  : FnOk P w K mg base CX0 1 f fd ["items"] (spD 1 p_spaced) := by
  refine okD (k := 0) F sc_spaced rfl (fun cdv A outer s H E hr => ?_) m_spaced
  exact ⟨_, (pss_one (ps_ret (pe_joinK (K := K) rfl pe_str (pe_lc (own := [("item", 1)]) (by rfl) sc_spaced.nd (seqK (K := K) rfl (pv 0)) (blkOk_by (own := [("item", 1)]) (N := n_spaced) (sc := (defScope s_spaced)) (by decide +kernel)) (fun _ _ _ _ _ => (pg_name (i := 1) sc_spaced.nd rfl (by first | exact Or.inl rfl | exact Or.inr rfl))) (fun _ _ _ _ _ => pts_nil) (fun _ _ _ _ _ => (pe_callTy call_strX (by rfl) z_str (by decide +kernel) (pa_cons (pv 1) pa_nil))))))),
    (ss_ret (se_join se_str (se_lc (si_seq se_var) sg_name st_yes (se_cb rc_strX (sa_cons se_var sa_nil)))))⟩
abbrev s_state_text : Stmt := topS 8
abbrev n_state_text : List Str := ["state"]
theorem sc_state_text : FnScope n_state_text ["state"] (defScope s_state_text) := ⟨rfl, rfl, rfl, by decide +kernel, rfl, by decide +kernel, by decide +kernel⟩
theorem ok_state_text {f : Addr} {fd : FuncData} (F : Fun K "state_text" "state_text" s_state_text f fd) (B : Bi mg) {f_spaced : Addr} {e_spaced : FuncData} (c_spaced : Cal P w K mg base "spaced" 1 ["items"] (spD 1 p_spaced) f_spaced e_spaced)    : FnOk P w K mg base CX0 2 f fd ["state"] (spD 1 p_state_text) := by
  refine okD (k := 1) F sc_state_text rfl (fun cdv A outer s H E hr => ?_) m_state_text
  exact ⟨_, (pss_one (ps_ret (pe_call c_spaced.ok (hr.mono (by decide)) (by rfl) c_spaced.g c_spaced.kp c_spaced.bd .nil pass0 (pa_cons (pv 0) pa_nil)))),
    (ss_ret (se_call mon_spaced (sa_cons se_var sa_nil)))⟩
abbrev s_word_text : Stmt := topS 9
abbrev n_word_text : List Str := ["word"]
theorem sc_word_text : FnScope n_word_text ["word"] (defScope s_word_text) := ⟨rfl, rfl, rfl, by decide +kernel, rfl, by decide +kernel, by decide +kernel⟩
theorem ok_word_text {f : Addr} {fd : FuncData} (F : Fun K "word_text" "word_text" s_word_text f fd) (B : Bi mg) {f_spaced : Addr} {e_spaced : FuncData} (c_spaced : Cal P w K mg base "spaced" 1 ["items"] (spD 1 p_spaced) f_spaced e_spaced) {k_EMPTY : Tok} (G_EMPTY : mg "EMPTY" = some (.str "-" k_EMPTY))   : FnOk P w K mg base CX0 2 f fd ["word"] (spD 1 p_word_text) := by
  refine okD (k := 1) F sc_word_text rfl (fun cdv A outer s H E hr => ?_) m_word_text
  exact ⟨_, (pss_one (ps_ret (pe_ifExp (pt_truth (pv 0) (by intro _; rfl)) (pe_call c_spaced.ok (hr.mono (by decide)) (by rfl) c_spaced.g c_spaced.kp c_spaced.bd .nil pass0 (pa_cons (pv 0) pa_nil)) (pe_glob (v := .str "-") (by rfl) G_EMPTY ⟨_, rfl⟩)))),
    (ss_ret (se_if (st_truth se_var) (se_call mon_spaced (sa_cons se_var sa_nil)) se_str))⟩
abbrev s_wish_text : Stmt := topS 10
abbrev n_wish_text : List Str := ["wish", "item"]
theorem sc_wish_text : FnScope n_wish_text ["wish"] (defScope s_wish_text) := ⟨rfl, rfl, rfl, by decide +kernel, rfl, by decide +kernel, by decide +kernel⟩
theorem ok_wish_text {f : Addr} {fd : FuncData} (F : Fun K "wish_text" "wish_text" s_wish_text f fd) (B : Bi mg) {f_spaced : Addr} {e_spaced : FuncData} (c_spaced : Cal P w K mg base "spaced" 1 ["items"] (spD 1 p_spaced) f_spaced e_spaced) {k_ANYBODY : Tok} (G_ANYBODY : mg "ANYBODY" = some (.str "?" k_ANYBODY))   : FnOk P w K mg base CX0 2 f fd ["wish"] (spD 1 p_wish_text) := by
  refine okD (k := 1) F sc_wish_text rfl (fun cdv A outer s H E hr => ?_) m_wish_text
  exact ⟨_, (pss_one (ps_ret (pe_call c_spaced.ok (hr.mono (by decide)) (by rfl) c_spaced.g c_spaced.kp c_spaced.bd .nil pass0 (pa_cons (pe_lc (own := [("item", 1)]) (by rfl) sc_wish_text.nd (seqK (K := K) rfl (pv 0)) (blkOk_by (own := [("item", 1)]) (N := n_wish_text) (sc := (defScope s_wish_text)) (by decide +kernel)) (fun _ _ _ _ _ => (pg_name (i := 1) sc_wish_text.nd rfl (by first | exact Or.inl rfl | exact Or.inr rfl))) (fun _ _ _ _ _ => pts_nil) (fun _ _ _ _ _ => (pe_ifExp (pt_cmpR op_isN (pv 1) pe_non (nomark _)) (pe_glob (v := .str "?") (by rfl) G_ANYBODY ⟨_, rfl⟩) (pv 1)))) pa_nil)))),
    (ss_ret (se_call mon_spaced (sa_cons (se_lc (si_seq se_var) sg_name st_yes (se_if (st_test (se_op r2_isN se_var se_non)) se_str se_var)) sa_nil)))⟩
abbrev s_is_number : Stmt := topS 11
abbrev n_is_number : List Str := ["word", "sign"]
theorem sc_is_number : FnScope n_is_number ["word"] (defScope s_is_number) := ⟨rfl, rfl, rfl, by decide +kernel, rfl, by decide +kernel, by decide +kernel⟩
theorem ok_is_number {f : Addr} {fd : FuncData} (F : Fun K "is_number" "is_number" s_is_number f fd) (B : Bi mg)  {k_MOST_DIGITS : Tok} (G_MOST_DIGITS : mg "MOST_DIGITS" = some (.int (13) k_MOST_DIGITS)) {k_DIGITS : Tok} (G_DIGITS : mg "DIGITS" = some (.str "0123456789" k_DIGITS))   : FnOk P w K mg base CX0 1 f fd ["word"] (spD 1 p_is_number) := by
  refine okD (k := 0) F sc_is_number rfl (fun cdv A outer s H E hr => ?_) m_is_number
  exact ⟨_, (pss_cons (ps_if (PW.pt (pw_or (pt_not (pt_chain op_le op_le pe_int (pe_callB (call_len_str) (by rfl) B.len (by decide +kernel) (pa_cons (pv 0) pa_nil)) (pe_glob (v := .int (13)) (by rfl) G_MOST_DIGITS ⟨_, rfl⟩))) (pw_or1 (pt_not (pt_truth (pe_callB (allK (K := K) rfl rfl) (by rfl) B.all (by decide +kernel) (pa_cons (pe_lc (own := [("sign", 1)]) (by rfl) sc_is_number.nd (pi_str (pv 0)) (blkOk_by (own := [("sign", 1)]) (N := n_is_number) (sc := (defScope s_is_number)) (by decide +kernel)) (fun _ _ _ _ _ => (pg_name (i := 1) sc_is_number.nd rfl (by first | exact Or.inl rfl | exact Or.inr rfl))) (fun _ _ _ _ _ => pts_nil) (fun _ _ _ _ _ => (pe_cmpR op_in_sign (pv 1) (pe_glob (v := .str "0123456789") (by rfl) G_DIGITS ⟨_, rfl⟩) (by rfl)))) pa_nil)) (by intro _; rfl)))))) (pss_one (ps_ret pe_bl)) pss_nil)
      (pss_one (ps_ret (pe_or (pe_cmpR (eqK (K := K) rfl hr.units) (pv 0) pe_str (nomark _)) (pe_one (pe_cmpR (neK (K := K) rfl hr.units) (pe_ix ix_str (pv 0) pe_int (fun _ _ => rfl)) pe_str (nomark _))))))),
    (ss_seq (ss_if (st_or (st_not (st_test (se_chain r2_B r2_B se_int (se_cb rc_lenS (sa_cons se_var sa_nil)) se_int))) (st_not (st_truth (se_cb rc_all (sa_cons (se_lc (si_T se_var) sg_name st_yes (se_op r2_inS se_var se_str)) sa_nil))))) (ss_ret se_bl) ss_next)
      (ss_ret (se_orV (se_op r2_eq se_var se_str) (se_op r2_ne (se_op r2_ixS se_var se_int) se_str))))⟩
abbrev s_is_number_below : Stmt := topS 12
abbrev n_is_number_below : List Str := ["word", "limit"]
theorem sc_is_number_below : FnScope n_is_number_below ["word", "limit"] (defScope s_is_number_below) := ⟨rfl, rfl, rfl, by decide +kernel, rfl, by decide +kernel, by decide +kernel⟩
theorem ok_is_number_below {f : Addr} {fd : FuncData} (F : Fun K "is_number_below" "is_number_below" s_is_number_below f fd) (B : Bi mg) {f_is_number : Addr} {e_is_number : FuncData} (c_is_number : Cal P w K mg base "is_number" 1 ["word"] (spD 1 p_is_number) f_is_number e_is_number)    : FnOk P w K mg base CX0 2 f fd ["word", "limit"] (spD 2 p_is_number_below) := by
  refine okD (k := 1) F sc_is_number_below rfl (fun cdv A outer s H E hr => ?_) m_is_number_below
  exact ⟨_, (pss_one (ps_ret (pe_and (pe_call c_is_number.ok (hr.mono (by decide)) (by rfl) c_is_number.g c_is_number.kp c_is_number.bd .nil pass0 (pa_cons (pv 0) pa_nil)) (pe_one (pe_cmpR op_lt (pe_callTy (call_int_str) (by rfl) B.int (by decide +kernel) (pa_cons (pv 0) pa_nil)) (pv 1) (nomark _)))))),
    (ss_ret (se_andV (se_call mon_is_number (sa_cons se_var sa_nil)) (se_op r2_B (se_cb rc_intS (sa_cons se_var sa_nil)) se_var)))⟩
abbrev s_check_words : Stmt := topS 13
abbrev n_check_words : List Str := ["right", "at", "is_right"]
theorem sc_check_words : FnScope n_check_words ["right"] (defScope s_check_words) := ⟨rfl, rfl, rfl, by decide +kernel, rfl, by decide +kernel, by decide +kernel⟩
theorem ok_check_words {f : Addr} {fd : FuncData} (F : Fun K "check_words" "check_words" s_check_words f fd) (B : Bi mg)     : FnOk P w K mg base CX0 1 f fd ["right"] (spD 1 p_check_words) := by
  refine okD (k := 0) F sc_check_words rfl (fun cdv A outer s H E hr => ?_) m_check_words
  exact ⟨_, (pss_one (ps_for PassesOwn.never rfl (enumA2 (K := K) rfl (by rfl) B.enumerate (pa_cons (pv 0) pa_nil)) (gtupK (K := K) rfl (pg_tup rfl (pgs_cons (pg_name (i := 1) sc_check_words.nd rfl (by first | exact Or.inl rfl | exact Or.inr rfl)) (pgs_cons (pg_name (i := 2) sc_check_words.nd rfl (by first | exact Or.inl rfl | exact Or.inr rfl)) pgs_nil)))) (pss_one (ps_if (pt_not (pt_truth (pv 2) (by intro _; rfl))) pss_never pss_nil)))),
    (ss_for (si_enA (sa_cons se_var sa_nil)) (sg_tup (sgs_cons sg_name (sgs_cons sg_name sgs_nil))) (ss_if (st_not (st_truth se_var)) ss_never ss_next))⟩
abbrev s_state_in : Stmt := topS 14
abbrev n_state_in : List Str := ["text", "words", "word"]
theorem sc_state_in : FnScope n_state_in ["text"] (defScope s_state_in) := ⟨rfl, rfl, rfl, by decide +kernel, rfl, by decide +kernel, by decide +kernel⟩
theorem ok_state_in {f : Addr} {fd : FuncData} (F : Fun K "state_in" "state_in" s_state_in f fd) (B : Bi mg) {f_check_words : Addr} {e_check_words : FuncData} (c_check_words : Cal P w K mg base "check_words" 1 ["right"] (spD 1 p_check_words) f_check_words e_check_words) {f_is_number_below : Addr} {e_is_number_below : FuncData} (c_is_number_below : Cal P w K mg base "is_number_below" 2 ["word", "limit"] (spD 2 p_is_number_below) f_is_number_below e_is_number_below)    : FnOk P w K mg base CX0 3 f fd ["text"] (spD 1 p_state_in) := by
  refine okD (k := 2) F sc_state_in rfl (fun cdv A outer s H E hr => ?_) m_state_in
  exact ⟨_, (pss_cons (ps_set (i := 1) sc_state_in.nd rfl (by first | exact Or.inl rfl | exact Or.inr rfl) (pe_split (pv 0) pe_str))
      (pss_cons (ps_expr (pe_call c_check_words.ok (hr.mono (by decide)) (by rfl) c_check_words.g c_check_words.kp c_check_words.bd .nil pass0 (pa_cons (pe_lc (own := [("word", 2)]) (by rfl) sc_state_in.nd (seqK (K := K) rfl (pv 1)) (blkOk_by (own := [("word", 2)]) (N := n_state_in) (sc := (defScope s_state_in)) (by decide +kernel)) (fun _ _ _ _ _ => (pg_name (i := 2) sc_state_in.nd rfl (by first | exact Or.inl rfl | exact Or.inr rfl))) (fun _ _ _ _ _ => pts_nil) (fun _ _ _ _ _ => (pe_call c_is_number_below.ok (hr.mono (by decide)) (by rfl) c_is_number_below.g c_is_number_below.kp c_is_number_below.bd .nil pass0 (pa_cons (pv 2) (pa_cons (pe_callB (lenK (K := K) rfl) (by rfl) B.len (by decide +kernel) (pa_cons (pv 1) pa_nil)) pa_nil))))) pa_nil)))
      (pss_one (ps_ret (pe_callTy (tupleK (K := K) rfl) (by rfl) B.tuple (by decide +kernel) (pa_cons (pe_lc (own := [("word", 2)]) (by rfl) sc_state_in.nd (seqK (K := K) rfl (pv 1)) (blkOk_by (own := [("word", 2)]) (N := n_state_in) (sc := (defScope s_state_in)) (by decide +kernel)) (fun _ _ _ _ _ => (pg_name (i := 2) sc_state_in.nd rfl (by first | exact Or.inl rfl | exact Or.inr rfl))) (fun _ _ _ _ _ => pts_nil) (fun _ _ _ _ _ => (pe_callTy (call_int_str) (by rfl) B.int (by decide +kernel) (pa_cons (pv 2) pa_nil)))) pa_nil)))))),
    (ss_seq (ss_set false (se_split se_var se_str))
      (ss_seq (ss_drop (se_call mon_check_words (sa_cons (se_lc (si_seq se_var) sg_name st_yes (se_call mon_is_number_below (sa_cons se_var (sa_cons (se_cb rc_len (sa_cons se_var sa_nil)) sa_nil)))) sa_nil)))
      (ss_ret (se_cb rc_tuple (sa_cons (se_lc (si_seq se_var) sg_name st_yes (se_cb rc_intS (sa_cons se_var sa_nil))) sa_nil)))))⟩
abbrev s_word_in : Stmt := topS 15
abbrev n_word_in : List Str := ["text", "words", "word"]
theorem sc_word_in : FnScope n_word_in ["text"] (defScope s_word_in) := ⟨rfl, rfl, rfl, by decide +kernel, rfl, by decide +kernel, by decide +kernel⟩
theorem ok_word_in {f : Addr} {fd : FuncData} (F : Fun K "word_in" "word_in" s_word_in f fd) (B : Bi mg) {f_check_words : Addr} {e_check_words : FuncData} (c_check_words : Cal P w K mg base "check_words" 1 ["right"] (spD 1 p_check_words) f_check_words e_check_words) {f_is_number : Addr} {e_is_number : FuncData} (c_is_number : Cal P w K mg base "is_number" 1 ["word"] (spD 1 p_is_number) f_is_number e_is_number) {k_EMPTY : Tok} (G_EMPTY : mg "EMPTY" = some (.str "-" k_EMPTY))   : FnOk P w K mg base CX0 2 f fd ["text"] (spD 1 p_word_in) := by
  refine okD (k := 1) F sc_word_in rfl (fun cdv A outer s H E hr => ?_) m_word_in
  exact ⟨_, (pss_cons (ps_if (pt_cmpR (eqK (K := K) rfl hr.units) (pv 0) (pe_glob (v := .str "-") (by rfl) G_EMPTY ⟨_, rfl⟩) (nomark _)) (pss_one (ps_ret (pe_lst pa_nil))) pss_nil)
      (pss_cons (ps_set (i := 1) sc_word_in.nd rfl (by first | exact Or.inl rfl | exact Or.inr rfl) (pe_split (pv 0) pe_str))
      (pss_cons (ps_expr (pe_call c_check_words.ok (hr.mono (by decide)) (by rfl) c_check_words.g c_check_words.kp c_check_words.bd .nil pass0 (pa_cons (pe_lc (own := [("word", 2)]) (by rfl) sc_word_in.nd (seqK (K := K) rfl (pv 1)) (blkOk_by (own := [("word", 2)]) (N := n_word_in) (sc := (defScope s_word_in)) (by decide +kernel)) (fun _ _ _ _ _ => (pg_name (i := 2) sc_word_in.nd rfl (by first | exact Or.inl rfl | exact Or.inr rfl))) (fun _ _ _ _ _ => pts_nil) (fun _ _ _ _ _ => (pe_call c_is_number.ok (hr.mono (by decide)) (by rfl) c_is_number.g c_is_number.kp c_is_number.bd .nil pass0 (pa_cons (pv 2) pa_nil)))) pa_nil)))
      (pss_one (ps_ret (pe_lc (own := [("word", 2)]) (by rfl) sc_word_in.nd (seqK (K := K) rfl (pv 1)) (blkOk_by (own := [("word", 2)]) (N := n_word_in) (sc := (defScope s_word_in)) (by decide +kernel)) (fun _ _ _ _ _ => (pg_name (i := 2) sc_word_in.nd rfl (by first | exact Or.inl rfl | exact Or.inr rfl))) (fun _ _ _ _ _ => pts_nil) (fun _ _ _ _ _ => (pe_callTy (call_int_str) (by rfl) B.int (by decide +kernel) (pa_cons (pv 2) pa_nil))))))))),
    (ss_seq (ss_if (st_test (se_op r2_eq se_var se_str)) (ss_ret (se_lst sa_nil)) ss_next)
      (ss_seq (ss_set false (se_split se_var se_str))
      (ss_seq (ss_drop (se_call mon_check_words (sa_cons (se_lc (si_seq se_var) sg_name st_yes (se_call mon_is_number (sa_cons se_var sa_nil))) sa_nil)))
      (ss_ret (se_lc (si_seq se_var) sg_name st_yes (se_cb rc_intS (sa_cons se_var sa_nil)))))))⟩
abbrev s_wish_in : Stmt := topS 16
abbrev n_wish_in : List Str := ["text", "words", "word"]
theorem sc_wish_in : FnScope n_wish_in ["text"] (defScope s_wish_in) := ⟨rfl, rfl, rfl, by decide +kernel, rfl, by decide +kernel, by decide +kernel⟩
theorem ok_wish_in {f : Addr} {fd : FuncData} (F : Fun K "wish_in" "wish_in" s_wish_in f fd) (B : Bi mg) {f_check_words : Addr} {e_check_words : FuncData} (c_check_words : Cal P w K mg base "check_words" 1 ["right"] (spD 1 p_check_words) f_check_words e_check_words) {f_is_number_below : Addr} {e_is_number_below : FuncData} (c_is_number_below : Cal P w K mg base "is_number_below" 2 ["word", "limit"] (spD 2 p_is_number_below) f_is_number_below e_is_number_below) {k_ANYBODY : Tok} (G_ANYBODY : mg "ANYBODY" = some (.str "?" k_ANYBODY))   : FnOk P w K mg base CX0 3 f fd ["text"] (spD 1 p_wish_in) := by
  refine okD (k := 2) F sc_wish_in rfl (fun cdv A outer s H E hr => ?_) m_wish_in
  exact ⟨_, (pss_cons (ps_set (i := 1) sc_wish_in.nd rfl (by first | exact Or.inl rfl | exact Or.inr rfl) (pe_split (pv 0) pe_str))
      (pss_cons (ps_expr (pe_call c_check_words.ok (hr.mono (by decide)) (by rfl) c_check_words.g c_check_words.kp c_check_words.bd .nil pass0 (pa_cons (pe_lc (own := [("word", 2)]) (by rfl) sc_wish_in.nd (seqK (K := K) rfl (pv 1)) (blkOk_by (own := [("word", 2)]) (N := n_wish_in) (sc := (defScope s_wish_in)) (by decide +kernel)) (fun _ _ _ _ _ => (pg_name (i := 2) sc_wish_in.nd rfl (by first | exact Or.inl rfl | exact Or.inr rfl))) (fun _ _ _ _ _ => pts_nil) (fun _ _ _ _ _ => (pe_or (pe_cmpR (eqK (K := K) rfl hr.units) (pv 2) (pe_glob (v := .str "?") (by rfl) G_ANYBODY ⟨_, rfl⟩) (nomark _)) (pe_one (pe_call c_is_number_below.ok (hr.mono (by decide)) (by rfl) c_is_number_below.g c_is_number_below.kp c_is_number_below.bd .nil pass0 (pa_cons (pv 2) (pa_cons (pe_callB (lenK (K := K) rfl) (by rfl) B.len (by decide +kernel) (pa_cons (pv 1) pa_nil)) pa_nil))))))) pa_nil)))
      (pss_one (ps_ret (pe_callTy (tupleK (K := K) rfl) (by rfl) B.tuple (by decide +kernel) (pa_cons (pe_lc (own := [("word", 2)]) (by rfl) sc_wish_in.nd (seqK (K := K) rfl (pv 1)) (blkOk_by (own := [("word", 2)]) (N := n_wish_in) (sc := (defScope s_wish_in)) (by decide +kernel)) (fun _ _ _ _ _ => (pg_name (i := 2) sc_wish_in.nd rfl (by first | exact Or.inl rfl | exact Or.inr rfl))) (fun _ _ _ _ _ => pts_nil) (fun _ _ _ _ _ => (pe_ifExp (pt_cmpR (eqK (K := K) rfl hr.units) (pv 2) (pe_glob (v := .str "?") (by rfl) G_ANYBODY ⟨_, rfl⟩) (nomark _)) pe_non (pe_callTy (call_int_str) (by rfl) B.int (by decide +kernel) (pa_cons (pv 2) pa_nil))))) pa_nil)))))),
    (ss_seq (ss_set false (se_split se_var se_str))
      (ss_seq (ss_drop (se_call mon_check_words (sa_cons (se_lc (si_seq se_var) sg_name st_yes (se_orV (se_op r2_eq se_var se_str) (se_call mon_is_number_below (sa_cons se_var (sa_cons (se_cb rc_len (sa_cons se_var sa_nil)) sa_nil))))) sa_nil)))
      (ss_ret (se_cb rc_tuple (sa_cons (se_lc (si_seq se_var) sg_name st_yes (se_if (st_test (se_op r2_eq se_var se_str)) se_non (se_cb rc_intS (sa_cons se_var sa_nil)))) sa_nil)))))⟩
abbrev s_law_pick : Stmt := topS 21
abbrev n_law_pick : List Str := ["_law_source", "_law_some"]
theorem sc_law_pick : FnScope n_law_pick ["_law_source", "_law_some"] (defScope s_law_pick) := ⟨rfl, rfl, rfl, by decide +kernel, rfl, by decide +kernel, by decide +kernel⟩
theorem ok_law_pick {f : Addr} {fd : FuncData} (F : Fun K "_law_pick" "_law_pick" s_law_pick f fd) (B : Bi mg) {f_law_draw : Addr} {e_law_draw : FuncData} (c_law_draw : Cal P w K mg base "_law_draw" 2 ["_law_source", "_law_bound"] (spD 2 p_law_take) f_law_draw e_law_draw)    : FnOk P w K mg base CX0 3 f fd ["_law_source", "_law_some"] (spD 2 p_law_pick) := by
  refine okD (k := 2) F sc_law_pick rfl (fun cdv A outer s H E hr => ?_) m_law_pick
  exact ⟨_, (pss_one (ps_ret (pe_ix (ixK (K := K) rfl) (pv 1) (pe_call c_law_draw.ok (hr.mono (by decide)) (by rfl) c_law_draw.g c_law_draw.kp c_law_draw.bd .nil pass0 (pa_cons (pv 0) (pa_cons (pe_callB (lenK (K := K) rfl) (by rfl) B.len (by decide +kernel) (pa_cons (pv 1) pa_nil)) pa_nil))) (fun _ _ => rfl)))),
    (ss_ret (se_op r2_ix se_var (se_call mon_law_take (sa_cons se_var (sa_cons (se_cb rc_len (sa_cons se_var sa_nil)) sa_nil)))))⟩
abbrev s_law_same : Stmt := topS 22
abbrev n_law_same : List Str := ["_law_found", "_law_due", "_law_mine", "_law_its"]
theorem sc_law_same : FnScope n_law_same ["_law_found", "_law_due"] (defScope s_law_same) := ⟨rfl, rfl, rfl, by decide +kernel, rfl, by decide +kernel, by decide +kernel⟩
theorem ok_law_same {f : Addr} {fd : FuncData} (F : Fun K "_law_same" "_law_same" s_law_same f fd) (B : Bi mg) (g : mg "_law_same" = some (.ref f)) (bd : Binds K fd ["_law_found", "_law_due"] []) : ∀ d, FnOk P w K mg base CX0 (d + 1) f fd ["_law_found", "_law_due"] (spD 2 (p_law_same_3 d))
  | 0 => fn_none (spD_none fun args c Q ⟨a, b, _, _, h, _⟩ => by unfold dep at h; cases h)
  | d + 1 => by
    have c_law_same : Cal P w K mg base "_law_same" (d + 1) ["_law_found", "_law_due"] (spD 2 (p_law_same_3 d)) f fd := ⟨ok_law_same F B g bd d, g, F.kp, bd⟩
    refine okD (k := d + 1) F sc_law_same rfl (fun cdv A outer s H E hr => ?_) m_law_same_3
    exact ⟨_, (pss_cons (ps_if (pt_truth (pe_callB (isiTK (K := K) rfl) (by rfl) B.isinstance (by decide +kernel) (pa_cons (pv 1) (pa_cons (pe_tup (pa_cons (pe_bltn (v := .ty "list") (by rfl) B.list (by decide +kernel) rfl) (pa_cons (pe_bltn (v := .ty "tuple") (by rfl) B.tuple (by decide +kernel) rfl) pa_nil))) pa_nil))) (by intro _; rfl)) (pss_cons (ps_if (PW.pt (pw_or (pt_cmpR (neK (K := K) rfl hr.units) (pe_callB (isiK (K := K) rfl) (by rfl) B.isinstance (by decide +kernel) (pa_cons (pv 0) (pa_cons (pe_bltn (v := .ty "list") (by rfl) B.list (by decide +kernel) rfl) pa_nil))) (pe_callB (isiK (K := K) rfl) (by rfl) B.isinstance (by decide +kernel) (pa_cons (pv 1) (pa_cons (pe_bltn (v := .ty "list") (by rfl) B.list (by decide +kernel) rfl) pa_nil))) (nomark _)) (pw_or1 (pt_cmpR (neK (K := K) rfl hr.units) (pe_callB (isiK (K := K) rfl) (by rfl) B.isinstance (by decide +kernel) (pa_cons (pv 0) (pa_cons (pe_bltn (v := .ty "tuple") (by rfl) B.tuple (by decide +kernel) rfl) pa_nil))) (pe_callB (isiK (K := K) rfl) (by rfl) B.isinstance (by decide +kernel) (pa_cons (pv 1) (pa_cons (pe_bltn (v := .ty "tuple") (by rfl) B.tuple (by decide +kernel) rfl) pa_nil))) (nomark _))))) (pss_one (ps_ret pe_bl)) pss_nil)
      (pss_one (ps_ret (pe_and (pe_cmpR (eqK (K := K) rfl hr.units) (pe_callB (lenK (K := K) rfl) (by rfl) B.len (by decide +kernel) (pa_cons (pv 0) pa_nil)) (pe_callB (lenK (K := K) rfl) (by rfl) B.len (by decide +kernel) (pa_cons (pv 1) pa_nil)) (nomark _)) (pe_one (pe_callB (allK (K := K) rfl rfl) (by rfl) B.all (by decide +kernel) (pa_cons (pe_lc (own := [("_law_mine", 2), ("_law_its", 3)]) (by rfl) sc_law_same.nd (zipA (K := K) rfl (by rfl) B.zip (pa_cons (pv 0) (pa_cons (pv 1) pa_nil))) (blkOk_by (own := [("_law_mine", 2), ("_law_its", 3)]) (N := n_law_same) (sc := (defScope s_law_same)) (by decide +kernel)) (fun _ _ _ _ _ => (gtupK (K := K) rfl (pg_tup rfl (pgs_cons (pg_name (i := 2) sc_law_same.nd rfl (by first | exact Or.inl rfl | exact Or.inr rfl)) (pgs_cons (pg_name (i := 3) sc_law_same.nd rfl (by first | exact Or.inl rfl | exact Or.inr rfl)) pgs_nil))))) (fun _ _ _ _ _ => pts_nil) (fun _ _ _ _ _ => (pe_call c_law_same.ok hr (by rfl) c_law_same.g c_law_same.kp c_law_same.bd .nil pass0 (pa_cons (pv 2) (pa_cons (pv 3) pa_nil))))) pa_nil))))))) pss_nil)
      (pss_cons (ps_if (PW.pt (pw_or (pt_cmpR op_isN (pv 1) pe_non (nomark _)) (pw_or1 (pt_truth (pe_callB (isiTK (K := K) rfl) (by rfl) B.isinstance (by decide +kernel) (pa_cons (pv 1) (pa_cons (pe_tup (pa_cons (pe_bltn (v := .ty "bool") (by rfl) B.bool (by decide +kernel) rfl) (pa_cons (pe_bltn (v := .ty "str") (by rfl) B.str (by decide +kernel) rfl) pa_nil))) pa_nil))) (by intro _; rfl))))) (pss_one (ps_ret (pe_and (pe_cmpR (eqK (K := K) rfl hr.units) (pv 0) (pv 1) (nomark _)) (pe_and (pe_cmpR (eqK (K := K) rfl hr.units) (pe_callB (isiK (K := K) rfl) (by rfl) B.isinstance (by decide +kernel) (pa_cons (pv 0) (pa_cons (pe_bltn (v := .ty "bool") (by rfl) B.bool (by decide +kernel) rfl) pa_nil))) (pe_callB (isiK (K := K) rfl) (by rfl) B.isinstance (by decide +kernel) (pa_cons (pv 1) (pa_cons (pe_bltn (v := .ty "bool") (by rfl) B.bool (by decide +kernel) rfl) pa_nil))) (nomark _)) (pe_one (pe_cmpR (eqK (K := K) rfl hr.units) (pe_cmpR op_isN (pv 0) pe_non (nomark _)) (pe_cmpR op_isN (pv 1) pe_non (nomark _)) (nomark _))))))) pss_nil)
      (pss_one (ps_ret (pe_and (pe_callB (isiK (K := K) rfl) (by rfl) B.isinstance (by decide +kernel) (pa_cons (pv 0) (pa_cons (pe_bltn (v := .ty "int") (by rfl) B.int (by decide +kernel) rfl) pa_nil))) (pe_and (pe_not (pe_callB (isiK (K := K) rfl) (by rfl) B.isinstance (by decide +kernel) (pa_cons (pv 0) (pa_cons (pe_bltn (v := .ty "bool") (by rfl) B.bool (by decide +kernel) rfl) pa_nil)))) (pe_one (pe_cmpR (eqK (K := K) rfl hr.units) (pv 0) (pv 1) (nomark _))))))))),
      (ss_seq (ss_if (st_truth (se_isi2 (.inr (.inr (.inr (.inl rfl)))) (.inr (.inr (.inr (.inr rfl)))) se_var)) (ss_seq (ss_if (st_or (st_test (se_op r2_ne (se_isi (.inr (.inr (.inr (.inl rfl)))) se_var) (se_isi (.inr (.inr (.inr (.inl rfl)))) se_var))) (st_test (se_op r2_ne (se_isi (.inr (.inr (.inr (.inr rfl)))) se_var) (se_isi (.inr (.inr (.inr (.inr rfl)))) se_var)))) (ss_ret se_bl) ss_next)
      (ss_ret (se_andV (se_op r2_eq (se_cb rc_len (sa_cons se_var sa_nil)) (se_cb rc_len (sa_cons se_var sa_nil))) (se_cb rc_all (sa_cons (se_lc (si_zip (sa_cons se_var (sa_cons se_var sa_nil))) (sg_tup (sgs_cons sg_name (sgs_cons sg_name sgs_nil))) st_yes (se_call (mon_law_same_3 d) (sa_cons se_var (sa_cons se_var sa_nil)))) sa_nil))))) ss_next)
      (ss_seq (ss_if (st_or (st_test (se_op r2_isN se_var se_non)) (st_truth (se_isi2 (.inr (.inl rfl)) (.inr (.inr (.inl rfl))) se_var))) (ss_ret (se_andV (se_op r2_eq se_var se_var) (se_andV (se_op r2_eq (se_isi (.inr (.inl rfl)) se_var) (se_isi (.inr (.inl rfl)) se_var)) (se_op r2_eq (se_op r2_isN se_var se_non) (se_op r2_isN se_var se_non))))) ss_next)
      (ss_ret (se_andV (se_isi (.inl rfl) se_var) (se_andV (se_notV (se_isi (.inr (.inl rfl)) se_var)) (se_op r2_eq se_var se_var))))))⟩
abbrev s_law_shuffled : Stmt := topS 23
abbrev n_law_shuffled : List Str := ["_law_source", "_law_some", "_law_left", "_law_found"]
theorem sc_law_shuffled : FnScope n_law_shuffled ["_law_source", "_law_some"] (defScope s_law_shuffled) := ⟨rfl, rfl, rfl, by decide +kernel, rfl, by decide +kernel, by decide +kernel⟩
theorem ok_law_shuffled {f : Addr} {fd : FuncData} (F : Fun K "_law_shuffled" "_law_shuffled" s_law_shuffled f fd) (B : Bi mg) {f_law_draw : Addr} {e_law_draw : FuncData} (c_law_draw : Cal P w K mg base "_law_draw" 2 ["_law_source", "_law_bound"] (spD 2 p_law_take) f_law_draw e_law_draw)    : FnOk P w K mg base CX0 3 f fd ["_law_source", "_law_some"] (spD 2 p_law_strewn_2) := by
  refine okD (k := 2) F sc_law_shuffled rfl (fun cdv A outer s H E hr => ?_) m_law_strewn_2
  exact ⟨_, (pss_cons (ps_par (i := 2) (j := 3) (by rfl) sc_law_shuffled.nd rfl rfl (by decide) rfl rfl (pa_cons (pe_callTy (listK (K := K) rfl) (by rfl) B.list (by decide +kernel) (pa_cons (pv 1) pa_nil)) (pa_cons (pe_lst pa_nil) pa_nil)) (by rfl))
      (pss_cons (ps_while PassesOwn.never (pt_cmpR (neK (K := K) rfl hr.units) (pv 2) (pe_lst pa_nil) (nomark _)) (pss_one (ps_expr (bmK (K := K) rfl (pe_bm PySem.F.plainAttrs_list PySem.F.slot_list_append PySem.F.type_list_append mt_append (pv 3) (pa_cons (bmK (K := K) rfl (pe_bm PySem.F.plainAttrs_list PySem.F.slot_list_pop PySem.F.type_list_pop mt_popAt (pv 2) (pa_cons (pe_call c_law_draw.ok (hr.mono (by decide)) (by rfl) c_law_draw.g c_law_draw.kp c_law_draw.bd .nil pass0 (pa_cons (pv 0) (pa_cons (pe_callB (lenK (K := K) rfl) (by rfl) B.len (by decide +kernel) (pa_cons (pv 2) pa_nil)) pa_nil))) pa_nil))) pa_nil))))))
      (pss_one (ps_ret (pv 3))))),
    (ss_seq (ss_par (se_cb rc_list (sa_cons se_var sa_nil)) (se_lst sa_nil))
      (ss_seq (ss_while (st_test (se_op r2_ne se_var (se_lst sa_nil))) (ss_appPop (by decide) (se_call mon_law_take (sa_cons se_var (sa_cons (se_cb rc_len (sa_cons se_var sa_nil)) sa_nil)))))
      (ss_ret se_var)))⟩
abbrev s_law_random_state : Stmt := topS 24
abbrev n_law_random_state : List Str := ["_law_source", "_law_size", "_law_order", "_law_kind", "_law_spot", "_law_found", "_law_half", "_law_at", "_law_some"]
theorem sc_law_random_state : FnScope n_law_random_state ["_law_source", "_law_size"] (defScope s_law_random_state) := ⟨rfl, rfl, rfl, by decide +kernel, rfl, by decide +kernel, by decide +kernel⟩
theorem ok_law_random_state {f : Addr} {fd : FuncData} (F : Fun K "_law_random_state" "_law_random_state" s_law_random_state f fd) (B : Bi mg) {f_law_shuffled : Addr} {e_law_shuffled : FuncData} (c_law_shuffled : Cal P w K mg base "_law_shuffled" 3 ["_law_source", "_law_some"] (spD 2 p_law_strewn_2) f_law_shuffled e_law_shuffled) {f_law_draw : Addr} {e_law_draw : FuncData} (c_law_draw : Cal P w K mg base "_law_draw" 2 ["_law_source", "_law_bound"] (spD 2 p_law_take) f_law_draw e_law_draw)    : FnOk P w K mg base CX0 4 f fd ["_law_source", "_law_size"] (spD 2 p_law_random_state) := by
  refine okD (k := 3) F sc_law_random_state rfl (fun cdv A outer s H E hr => ?_) m_law_random_state
  exact ⟨_, (pss_cons (ps_par (i := 2) (j := 3) (by rfl) sc_law_random_state.nd rfl rfl (by decide) rfl rfl (pa_cons (pe_call c_law_shuffled.ok (hr.mono (by decide)) (by rfl) c_law_shuffled.g c_law_shuffled.kp c_law_shuffled.bd .nil pass0 (pa_cons (pv 0) (pa_cons (pe_listRg rfl (by rfl) B.list (prg_1 (by rfl) B.range (pv 1))) pa_nil))) (pa_cons (pe_call c_law_draw.ok (hr.mono (by decide)) (by rfl) c_law_draw.g c_law_draw.kp c_law_draw.bd .nil pass0 (pa_cons (pv 0) (pa_cons pe_int pa_nil))) pa_nil)) (by rfl))
      (pss_cons (ps_if (pt_cmpR op_lt (pv 3) pe_int (nomark _)) (pss_one (ps_ret (pe_callTy (tupleK (K := K) rfl) (by rfl) B.tuple (by decide +kernel) (pa_cons (pe_lc (own := [("_law_spot", 4)]) (by rfl) sc_law_random_state.nd (seqK (K := K) rfl (pv 2)) (blkOk_by (own := [("_law_spot", 4)]) (N := n_law_random_state) (sc := (defScope s_law_random_state)) (by decide +kernel)) (fun _ _ _ _ _ => (pg_name (i := 4) sc_law_random_state.nd rfl (by first | exact Or.inl rfl | exact Or.inr rfl))) (fun _ _ _ _ _ => pts_nil) (fun _ _ _ _ _ => (pe_call c_law_draw.ok (hr.mono (by decide)) (by rfl) c_law_draw.g c_law_draw.kp c_law_draw.bd .nil pass0 (pa_cons (pv 0) (pa_cons (pv 1) pa_nil))))) pa_nil)))) pss_nil)
      (pss_cons (ps_if (pt_cmpR (eqK (K := K) rfl hr.units) (pv 3) pe_int (nomark _)) (pss_one (ps_ret (pe_callTy (tupleK (K := K) rfl) (by rfl) B.tuple (by decide +kernel) (pa_cons (pe_call c_law_shuffled.ok (hr.mono (by decide)) (by rfl) c_law_shuffled.g c_law_shuffled.kp c_law_shuffled.bd .nil pass0 (pa_cons (pv 0) (pa_cons (pv 2) pa_nil))) pa_nil)))) pss_nil)
      (pss_cons (ps_par (i := 5) (j := 6) (by rfl) sc_law_random_state.nd rfl rfl (by decide) rfl rfl (pa_cons (pe_op op_mulA (pe_lst (pa_cons pe_int pa_nil)) (pv 1)) (pa_cons (pe_callB (call_max2 rfl) (by rfl) B.max (by decide +kernel) (pa_cons pe_int (pa_cons (pe_op op_fdivW (pv 1) pe_int) pa_nil))) pa_nil)) (by rfl))
      (pss_cons (ps_for PassesOwn.never rfl (enumA2 (K := K) rfl (by rfl) B.enumerate (pa_cons (pv 2) pa_nil)) (gtupK (K := K) rfl (pg_tup rfl (pgs_cons (pg_name (i := 7) sc_law_random_state.nd rfl (by first | exact Or.inl rfl | exact Or.inr rfl)) (pgs_cons (pg_name (i := 4) sc_law_random_state.nd rfl (by first | exact Or.inl rfl | exact Or.inr rfl)) pgs_nil)))) (pss_cons (ps_set (i := 8) sc_law_random_state.nd rfl (by first | exact Or.inl rfl | exact Or.inr rfl) (pe_lst (pa_cons (pe_ix (ixK (K := K) rfl) (pv 2) (pe_op op_mod (pe_op (addK (K := K) rfl) (pv 7) pe_int) (pv 1)) (fun _ _ => rfl)) (pa_cons (pe_ix (ixK (K := K) rfl) (pv 2) (pe_callB (call_max2 rfl) (by rfl) B.max (by decide +kernel) (pa_cons pe_int (pa_cons (pe_op op_sub (pv 7) pe_int) pa_nil))) (fun _ _ => rfl)) (pa_cons (pe_ix (ixK (K := K) rfl) (pv 2) (pe_callB (call_max2 rfl) (by rfl) B.max (by decide +kernel) (pa_cons pe_int (pa_cons (pe_op op_sub (pe_op op_sub (pv 7) pe_int) (pe_call c_law_draw.ok (hr.mono (by decide)) (by rfl) c_law_draw.g c_law_draw.kp c_law_draw.bd .nil pass0 (pa_cons (pv 0) (pa_cons pe_int pa_nil)))) pa_nil))) (fun _ _ => rfl)) pa_nil)))))
      (pss_cons (ps_expr (bmK (K := K) rfl (pe_bm PySem.F.plainAttrs_list PySem.F.slot_list_append PySem.F.type_list_append mt_append (pv 8) (pa_cons (pe_ix (ixK (K := K) rfl) (pv 2) (pe_call c_law_draw.ok (hr.mono (by decide)) (by rfl) c_law_draw.g c_law_draw.kp c_law_draw.bd .nil pass0 (pa_cons (pv 0) (pa_cons (pe_op (addK (K := K) rfl) pe_int (pe_op op_fdivW (pv 1) pe_int)) pa_nil))) (fun _ _ => rfl)) pa_nil))))
      (pss_cons (ps_expr (bmK (K := K) rfl (pe_bm PySem.F.plainAttrs_list PySem.F.slot_list_append PySem.F.type_list_append mt_append (pv 8) (pa_cons (pe_ifExp (pt_cmpR op_lt (pv 7) (pv 6) (nomark _)) (pe_ix (ixK (K := K) rfl) (pv 2) (pe_op op_mod (pe_op (addK (K := K) rfl) (pv 7) pe_int) (pv 6)) (fun _ _ => rfl)) (pe_ix (ixK (K := K) rfl) (pv 2) (pe_call c_law_draw.ok (hr.mono (by decide)) (by rfl) c_law_draw.g c_law_draw.kp c_law_draw.bd .nil pass0 (pa_cons (pv 0) (pa_cons (pv 7) pa_nil))) (fun _ _ => rfl))) pa_nil))))
      (pss_one (ps_asg (pe_ix (ixK (K := K) rfl) (pv 8) (pe_op op_sub (pv 3) pe_int) (fun _ _ => rfl)) (pg_sub (pv 5) (pv 4) set_list)))))))
      (pss_one (ps_ret (pe_callTy (tupleK (K := K) rfl) (by rfl) B.tuple (by decide +kernel) (pa_cons (pv 5) pa_nil))))))))),
    (ss_seq (ss_par (se_call mon_law_strewn_2 (sa_cons se_var (sa_cons (se_listRg se_var) sa_nil))) (se_call mon_law_take (sa_cons se_var (sa_cons se_int sa_nil))))
      (ss_seq (ss_if (st_test (se_op r2_B se_var se_int)) (ss_ret (se_cb rc_tuple (sa_cons (se_lc (si_seq se_var) sg_name st_yes (se_call mon_law_take (sa_cons se_var (sa_cons se_var sa_nil)))) sa_nil))) ss_next)
      (ss_seq (ss_if (st_test (se_op r2_eq se_var se_int)) (ss_ret (se_cb rc_tuple (sa_cons (se_call mon_law_strewn_2 (sa_cons se_var (sa_cons se_var sa_nil))) sa_nil))) ss_next)
      (ss_seq (ss_par (se_op r2_mul (se_lst (sa_cons se_int sa_nil)) se_var) (se_cb rc_max (sa_cons se_int (sa_cons (se_op r2_C se_var se_int) sa_nil))))
      (ss_seq (ss_for (si_enA (sa_cons se_var sa_nil)) (sg_tup (sgs_cons sg_name (sgs_cons sg_name sgs_nil))) (ss_seq (ss_set true (se_lst (sa_cons (se_op r2_ix se_var (se_op r2_C (se_op r2_add se_var se_int) se_var)) (sa_cons (se_op r2_ix se_var (se_cb rc_max (sa_cons se_int (sa_cons (se_op r2_I se_var se_int) sa_nil)))) (sa_cons (se_op r2_ix se_var (se_cb rc_max (sa_cons se_int (sa_cons (se_op r2_I (se_op r2_I se_var se_int) (se_call mon_law_take (sa_cons se_var (sa_cons se_int sa_nil)))) sa_nil)))) sa_nil)))))
      (ss_seq (ss_append (se_op r2_ix se_var (se_call mon_law_take (sa_cons se_var (sa_cons (se_op r2_add se_int (se_op r2_C se_var se_int)) sa_nil)))))
      (ss_seq (ss_append (se_if (st_test (se_op r2_B se_var se_var)) (se_op r2_ix se_var (se_op r2_C (se_op r2_add se_var se_int) se_var)) (se_op r2_ix se_var (se_call mon_law_take (sa_cons se_var (sa_cons se_var sa_nil))))))
      (ss_setIx (se_op r2_ix se_var (se_op r2_I se_var se_int)) se_var)))))
      (ss_ret (se_cb rc_tuple (sa_cons se_var sa_nil))))))))⟩
abbrev s_law_right : Stmt := topS 25
abbrev n_law_right : List Str := ["_law_source", "_law_turn", "_law_size", "_law_start", "_law_hope", "_law_spot", "_law_tape", "_law_call", "_law_wide", "_law_crowd", "_law_large", "_law_message", "_law_due", "_law_found", "_law_item"]
theorem sc_law_right : FnScope n_law_right ["_law_source"] (defScope s_law_right) := ⟨rfl, rfl, rfl, by decide +kernel, rfl, by decide +kernel, by decide +kernel⟩
theorem ok_law_right {f : Addr} {fd : FuncData} (F : Fun K "_law_right" "_law_right" s_law_right f fd) (B : Bi mg) {f_wish_in : Addr} {e_wish_in : FuncData} (c_wish_in : Cal P w K mg base "wish_in" 3 ["text"] (spD 1 p_wish_in) f_wish_in e_wish_in) {f_word_in : Addr} {e_word_in : FuncData} (c_word_in : Cal P w K mg base "word_in" 2 ["text"] (spD 1 p_word_in) f_word_in e_word_in) {f_state_in : Addr} {e_state_in : FuncData} (c_state_in : Cal P w K mg base "state_in" 3 ["text"] (spD 1 p_state_in) f_state_in e_state_in) {f_law_same : Addr} {e_law_same : FuncData} (c_law_same : Cal P w K mg base "_law_same" 4 ["_law_found", "_law_due"] (spD 2 (p_law_same_3 3)) f_law_same e_law_same) {f_law_draw : Addr} {e_law_draw : FuncData} (c_law_draw : Cal P w K mg base "_law_draw" 2 ["_law_source", "_law_bound"] (spD 2 p_law_take) f_law_draw e_law_draw) {f_law_pick : Addr} {e_law_pick : FuncData} (c_law_pick : Cal P w K mg base "_law_pick" 3 ["_law_source", "_law_some"] (spD 2 p_law_pick) f_law_pick e_law_pick) {f_law_random_state : Addr} {e_law_random_state : FuncData} (c_law_random_state : Cal P w K mg base "_law_random_state" 4 ["_law_source", "_law_size"] (spD 2 p_law_random_state) f_law_random_state e_law_random_state) {f_wish_text : Addr} {e_wish_text : FuncData} (c_wish_text : Cal P w K mg base "wish_text" 2 ["wish"] (spD 1 p_wish_text) f_wish_text e_wish_text) {f_word_text : Addr} {e_word_text : FuncData} (c_word_text : Cal P w K mg base "word_text" 2 ["word"] (spD 1 p_word_text) f_word_text e_word_text) {f_state_text : Addr} {e_state_text : FuncData} (c_state_text : Cal P w K mg base "state_text" 2 ["state"] (spD 1 p_state_text) f_state_text e_state_text)   (z_str : mg "str" = none) (kb_wish_in : KbR e_wish_in ["text"]) (kb_word_in : KbR e_word_in ["text"]) (kb_state_in : KbR e_state_in ["text"]) (kb_wish_text : KbR e_wish_text ["wish"]) (kb_word_text : KbR e_word_text ["word"]) (kb_state_text : KbR e_state_text ["state"]) : FnOk P w K mg base CX0 5 f fd ["_law_source"] (spD 1 p_k83_law_right) := by
  refine okD (k := 4) F sc_law_right rfl (fun cdv A outer s H E hr => ?_) m_k83_law_right
  exact ⟨_, (pss_cons (ps_for PassesOwn.never rfl (pi_range1 (by rfl) B.range (pa_cons pe_int pa_nil)) (pg_name (i := 1) sc_law_right.nd rfl (by first | exact Or.inl rfl | exact Or.inr rfl)) (pss_cons (ps_set (i := 2) sc_law_right.nd rfl (by first | exact Or.inl rfl | exact Or.inr rfl) (pe_op (addK (K := K) rfl) pe_int (pe_call c_law_draw.ok (hr.mono (by decide)) (by rfl) c_law_draw.g c_law_draw.kp c_law_draw.bd .nil pass0 (pa_cons (pv 0) (pa_cons (pe_call c_law_pick.ok (hr.mono (by decide)) (by rfl) c_law_pick.g c_law_pick.kp c_law_pick.bd .nil pass0 (pa_cons (pv 0) (pa_cons (pe_lst (pa_cons pe_int (pa_cons pe_int pa_nil))) pa_nil))) pa_nil)))))
      (pss_cons (ps_set (i := 3) sc_law_right.nd rfl (by first | exact Or.inl rfl | exact Or.inr rfl) (pe_call c_law_random_state.ok (hr.mono (by decide)) (by rfl) c_law_random_state.g c_law_random_state.kp c_law_random_state.bd .nil pass0 (pa_cons (pv 0) (pa_cons (pv 2) pa_nil))))
      (pss_cons (ps_set (i := 4) sc_law_right.nd rfl (by first | exact Or.inl rfl | exact Or.inr rfl) (pe_callTy (tupleK (K := K) rfl) (by rfl) B.tuple (by decide +kernel) (pa_cons (pe_lc (own := [("_law_spot", 5)]) (by rfl) sc_law_right.nd (seqK (K := K) rfl (pv 3)) (blkOk_by (own := [("_law_spot", 5)]) (N := n_law_right) (sc := (defScope s_law_right)) (by decide +kernel)) (fun _ _ _ _ _ => (pg_name (i := 5) sc_law_right.nd rfl (by first | exact Or.inl rfl | exact Or.inr rfl))) (fun _ _ _ _ _ => pts_nil) (fun _ _ _ _ _ => (pe_ifExp (pt_cmpR (eqK (K := K) rfl hr.units) (pe_call c_law_draw.ok (hr.mono (by decide)) (by rfl) c_law_draw.g c_law_draw.kp c_law_draw.bd .nil pass0 (pa_cons (pv 0) (pa_cons pe_int pa_nil))) pe_int (nomark _)) pe_non (pv 5)))) pa_nil)))
      (pss_cons (ps_setLc (i := 6) (own := [("_law_call", 7)]) (by rfl) sc_law_right.nd rfl rfl (sw_true rfl rfl rfl (by decide +kernel)) (pi_range1 (by rfl) B.range (pa_cons (pe_call c_law_draw.ok (hr.mono (by decide)) (by rfl) c_law_draw.g c_law_draw.kp c_law_draw.bd .nil pass0 (pa_cons (pv 0) (pa_cons pe_int pa_nil))) pa_nil)) (blkOk_by (own := [("_law_call", 7)]) (N := n_law_right) (sc := (defScope s_law_right)) (by decide +kernel)) (fun _ _ _ _ _ => (pg_name (i := 7) sc_law_right.nd rfl (by first | exact Or.inl rfl | exact Or.inr rfl))) (fun _ _ _ _ _ => pts_nil) (fun _ _ _ _ _ => (pe_call c_law_draw.ok (hr.mono (by decide)) (by rfl) c_law_draw.g c_law_draw.kp c_law_draw.bd .nil pass0 (pa_cons (pv 0) (pa_cons (pe_call c_law_pick.ok (hr.mono (by decide)) (by rfl) c_law_pick.g c_law_pick.kp c_law_pick.bd .nil pass0 (pa_cons (pv 0) (pa_cons (pe_lst (pa_cons pe_int (pa_cons pe_int pa_nil))) pa_nil))) pa_nil)))))
      (pss_cons (ps_setLc (i := 8) (own := [("_law_call", 7)]) (by rfl) sc_law_right.nd rfl rfl (sw_true rfl rfl rfl (by decide +kernel)) (pi_range1 (by rfl) B.range (pa_cons (pe_op (addK (K := K) rfl) pe_int (pe_call c_law_draw.ok (hr.mono (by decide)) (by rfl) c_law_draw.g c_law_draw.kp c_law_draw.bd .nil pass0 (pa_cons (pv 0) (pa_cons pe_int pa_nil)))) pa_nil)) (blkOk_by (own := [("_law_call", 7)]) (N := n_law_right) (sc := (defScope s_law_right)) (by decide +kernel)) (fun _ _ _ _ _ => (pg_name (i := 7) sc_law_right.nd rfl (by first | exact Or.inl rfl | exact Or.inr rfl))) (fun _ _ _ _ _ => pts_nil) (fun _ _ _ _ _ => (pe_call c_law_draw.ok (hr.mono (by decide)) (by rfl) c_law_draw.g c_law_draw.kp c_law_draw.bd .nil pass0 (pa_cons (pv 0) (pa_cons (pe_op op_pow pe_int pe_int) pa_nil)))))
      (pss_cons (ps_set (i := 9) sc_law_right.nd rfl (by first | exact Or.inl rfl | exact Or.inr rfl) (pe_op (addK (K := K) rfl) pe_int (pe_call c_law_draw.ok (hr.mono (by decide)) (by rfl) c_law_draw.g c_law_draw.kp c_law_draw.bd .nil pass0 (pa_cons (pv 0) (pa_cons pe_int pa_nil)))))
      (pss_cons (ps_set (i := 10) sc_law_right.nd rfl (by first | exact Or.inl rfl | exact Or.inr rfl) (pe_callTy (tupleK (K := K) rfl) (by rfl) B.tuple (by decide +kernel) (pa_cons (pe_lc (own := [("_law_spot", 5)]) (by rfl) sc_law_right.nd (pi_range1 (by rfl) B.range (pa_cons (pv 9) pa_nil)) (blkOk_by (own := [("_law_spot", 5)]) (N := n_law_right) (sc := (defScope s_law_right)) (by decide +kernel)) (fun _ _ _ _ _ => (pg_name (i := 5) sc_law_right.nd rfl (by first | exact Or.inl rfl | exact Or.inr rfl))) (fun _ _ _ _ _ => pts_nil) (fun _ _ _ _ _ => (pe_call c_law_draw.ok (hr.mono (by decide)) (by rfl) c_law_draw.g c_law_draw.kp c_law_draw.bd .nil pass0 (pa_cons (pv 0) (pa_cons (pv 9) pa_nil))))) pa_nil)))
      (pss_cons (ps_set (i := 11) sc_law_right.nd rfl (by first | exact Or.inl rfl | exact Or.inr rfl) (pe_joinK (K := K) rfl pe_str (pe_lc (own := [("_law_spot", 5)]) (by rfl) sc_law_right.nd (seqK (K := K) rfl (pv 10)) (blkOk_by (own := [("_law_spot", 5)]) (N := n_law_right) (sc := (defScope s_law_right)) (by decide +kernel)) (fun _ _ _ _ _ => (pg_name (i := 5) sc_law_right.nd rfl (by first | exact Or.inl rfl | exact Or.inr rfl))) (fun _ _ _ _ _ => pts_nil) (fun _ _ _ _ _ => (pe_callTy call_strI (by rfl) z_str (by decide +kernel) (pa_cons (pv 5) pa_nil))))))
      (pss_cons (ps_if (pt_not (pt_truth (pe_call c_law_same.ok (hr.mono (by decide)) (by rfl) c_law_same.g c_law_same.kp c_law_same.bd .nil pass0 (pa_cons (pe_lst (pa_cons (pe_call c_state_in.ok (hr.mono (by decide)) (by rfl) c_state_in.g c_state_in.kp c_state_in.bd .nil pass0 (pa_cons (pv 11) pa_nil)) (pa_cons (pe_call c_wish_in.ok (hr.mono (by decide)) (by rfl) c_wish_in.g c_wish_in.kp c_wish_in.bd .nil pass0 (pa_cons (pe_op op_add_str (pv 11) pe_str) pa_nil)) pa_nil))) (pa_cons (pe_lst (pa_cons (pv 10) (pa_cons (pe_op (addK (K := K) rfl) (pv 10) (pe_tupS (pa_cons pe_non pa_nil))) pa_nil))) pa_nil))) (by intro _; rfl))) (pss_one (ps_ret pe_bl)) pss_nil)
      (pss_cons (ps_set (i := 12) sc_law_right.nd rfl (by first | exact Or.inl rfl | exact Or.inr rfl) (pe_lst (pa_cons (pe_joinK (K := K) rfl pe_str (pe_lc (own := [("_law_spot", 5)]) (by rfl) sc_law_right.nd (seqK (K := K) rfl (pv 3)) (blkOk_by (own := [("_law_spot", 5)]) (N := n_law_right) (sc := (defScope s_law_right)) (by decide +kernel)) (fun _ _ _ _ _ => (pg_name (i := 5) sc_law_right.nd rfl (by first | exact Or.inl rfl | exact Or.inr rfl))) (fun _ _ _ _ _ => pts_nil) (fun _ _ _ _ _ => (pe_callTy call_strI (by rfl) z_str (by decide +kernel) (pa_cons (pv 5) pa_nil))))) (pa_cons (pe_ifExp (pt_cmpR (neK (K := K) rfl hr.units) (pv 6) (pe_lst pa_nil) (nomark _)) (pe_joinK (K := K) rfl pe_str (pe_lc (own := [("_law_spot", 5)]) (by rfl) sc_law_right.nd (seqK (K := K) rfl (pv 6)) (blkOk_by (own := [("_law_spot", 5)]) (N := n_law_right) (sc := (defScope s_law_right)) (by decide +kernel)) (fun _ _ _ _ _ => (pg_name (i := 5) sc_law_right.nd rfl (by first | exact Or.inl rfl | exact Or.inr rfl))) (fun _ _ _ _ _ => pts_nil) (fun _ _ _ _ _ => (pe_callTy call_strI (by rfl) z_str (by decide +kernel) (pa_cons (pv 5) pa_nil))))) pe_str) pa_nil))))
      (pss_cons (ps_expr (bmK (K := K) rfl (pe_bm PySem.F.plainAttrs_list PySem.F.slot_list_append PySem.F.type_list_append mt_append (pv 12) (pa_cons (pe_joinK (K := K) rfl pe_str (pe_lc (own := [("_law_spot", 5)]) (by rfl) sc_law_right.nd (seqK (K := K) rfl (pv 4)) (blkOk_by (own := [("_law_spot", 5)]) (N := n_law_right) (sc := (defScope s_law_right)) (by decide +kernel)) (fun _ _ _ _ _ => (pg_name (i := 5) sc_law_right.nd rfl (by first | exact Or.inl rfl | exact Or.inr rfl))) (fun _ _ _ _ _ => pts_nil) (fun _ _ _ _ _ => (pe_ifExp (pt_cmpR op_isN (pv 5) pe_non (nomark _)) pe_str (pe_callTy call_strI (by rfl) z_str (by decide +kernel) (pa_cons (pv 5) pa_nil)))))) pa_nil))))
      (pss_cons (ps_set (i := 13) sc_law_right.nd rfl (by first | exact Or.inl rfl | exact Or.inr rfl) (pe_lst (pa_cons (pe_call c_state_text.ok (hr.mono (by decide)) (by rfl) c_state_text.g c_state_text.kp c_state_text.bd .nil pass0 (pa_cons (pv 3) pa_nil)) (pa_cons (pe_call c_word_text.ok (hr.mono (by decide)) (by rfl) c_word_text.g c_word_text.kp c_word_text.bd .nil pass0 (pa_cons (pv 6) pa_nil)) (pa_cons (pe_call c_wish_text.ok (hr.mono (by decide)) (by rfl) c_wish_text.g c_wish_text.kp c_wish_text.bd .nil pass0 (pa_cons (pv 4) pa_nil)) pa_nil)))))
      (pss_cons (ps_if (pt_not (pt_truth (pe_call c_law_same.ok (hr.mono (by decide)) (by rfl) c_law_same.g c_law_same.kp c_law_same.bd .nil pass0 (pa_cons (pv 13) (pa_cons (pv 12) pa_nil))) (by intro _; rfl))) (pss_one (ps_ret pe_bl)) pss_nil)
      (pss_cons (ps_if (pt_not (pt_truth (pe_call c_law_same.ok (hr.mono (by decide)) (by rfl) c_law_same.g c_law_same.kp c_law_same.bd .nil pass0 (pa_cons (pe_lst (pa_cons (pe_callR c_state_text.ok (hr.mono (by decide)) (by rfl) c_state_text.g c_state_text.kp kb_state_text pass0 (pk_cons (pe_callTy (listK (K := K) rfl) (by rfl) B.list (by decide +kernel) (pa_cons (pv 3) pa_nil)) pk_nil)) (pa_cons (pe_callR c_word_text.ok (hr.mono (by decide)) (by rfl) c_word_text.g c_word_text.kp kb_word_text pass0 (pk_cons (pe_callTy (tupleK (K := K) rfl) (by rfl) B.tuple (by decide +kernel) (pa_cons (pv 6) pa_nil)) pk_nil)) (pa_cons (pe_callR c_wish_text.ok (hr.mono (by decide)) (by rfl) c_wish_text.g c_wish_text.kp kb_wish_text pass0 (pk_cons (pe_callTy (listK (K := K) rfl) (by rfl) B.list (by decide +kernel) (pa_cons (pv 4) pa_nil)) pk_nil)) pa_nil)))) (pa_cons (pv 12) pa_nil))) (by intro _; rfl))) (pss_one (ps_ret pe_bl)) pss_nil)
      (pss_cons (ps_set (i := 13) sc_law_right.nd rfl (by first | exact Or.inl rfl | exact Or.inr rfl) (pe_lst (pa_cons (pe_call c_state_in.ok (hr.mono (by decide)) (by rfl) c_state_in.g c_state_in.kp c_state_in.bd .nil pass0 (pa_cons (pe_ix (ixK (K := K) rfl) (pv 12) pe_int (fun _ _ => rfl)) pa_nil)) (pa_cons (pe_call c_word_in.ok (hr.mono (by decide)) (by rfl) c_word_in.g c_word_in.kp c_word_in.bd .nil pass0 (pa_cons (pe_ix (ixK (K := K) rfl) (pv 12) pe_int (fun _ _ => rfl)) pa_nil)) (pa_cons (pe_call c_wish_in.ok (hr.mono (by decide)) (by rfl) c_wish_in.g c_wish_in.kp c_wish_in.bd .nil pass0 (pa_cons (pe_ix (ixK (K := K) rfl) (pv 12) pe_int (fun _ _ => rfl)) pa_nil)) pa_nil)))))
      (pss_cons (ps_if (pt_not (pt_truth (pe_call c_law_same.ok (hr.mono (by decide)) (by rfl) c_law_same.g c_law_same.kp c_law_same.bd .nil pass0 (pa_cons (pv 13) (pa_cons (pe_lst (pa_cons (pv 3) (pa_cons (pv 6) (pa_cons (pv 4) pa_nil)))) pa_nil))) (by intro _; rfl))) (pss_one (ps_ret pe_bl)) pss_nil)
      (pss_cons (ps_expr (bmK (K := K) rfl (pe_bm PySem.F.plainAttrs_list PySem.F.slot_list_append PySem.F.type_list_append mt_append (pe_ix (ixK (K := K) rfl) (pv 13) pe_int (fun _ _ => rfl)) (pa_cons pe_int pa_nil))))
      (pss_cons (ps_if (pt_not (pt_truth (pe_call c_law_same.ok (hr.mono (by decide)) (by rfl) c_law_same.g c_law_same.kp c_law_same.bd .nil pass0 (pa_cons (pe_call c_word_in.ok (hr.mono (by decide)) (by rfl) c_word_in.g c_word_in.kp c_word_in.bd .nil pass0 (pa_cons (pe_joinK (K := K) rfl pe_str (pe_lc (own := [("_law_item", 14)]) (by rfl) sc_law_right.nd (seqK (K := K) rfl (pv 8)) (blkOk_by (own := [("_law_item", 14)]) (N := n_law_right) (sc := (defScope s_law_right)) (by decide +kernel)) (fun _ _ _ _ _ => (pg_name (i := 14) sc_law_right.nd rfl (by first | exact Or.inl rfl | exact Or.inr rfl))) (fun _ _ _ _ _ => pts_nil) (fun _ _ _ _ _ => (pe_callTy call_strI (by rfl) z_str (by decide +kernel) (pa_cons (pv 14) pa_nil))))) pa_nil)) (pa_cons (pv 8) pa_nil))) (by intro _; rfl))) (pss_one (ps_ret pe_bl)) pss_nil)
      (pss_one (ps_if (pt_not (pt_truth (pe_call c_law_same.ok (hr.mono (by decide)) (by rfl) c_law_same.g c_law_same.kp c_law_same.bd .nil pass0 (pa_cons (pe_lst (pa_cons (pe_callR c_state_in.ok (hr.mono (by decide)) (by rfl) c_state_in.g c_state_in.kp kb_state_in pass0 (pk_cons (pe_ix (ixK (K := K) rfl) (pv 12) pe_int (fun _ _ => rfl)) pk_nil)) (pa_cons (pe_callR c_word_in.ok (hr.mono (by decide)) (by rfl) c_word_in.g c_word_in.kp kb_word_in pass0 (pk_cons (pe_ix (ixK (K := K) rfl) (pv 12) pe_int (fun _ _ => rfl)) pk_nil)) (pa_cons (pe_callR c_wish_in.ok (hr.mono (by decide)) (by rfl) c_wish_in.g c_wish_in.kp kb_wish_in pass0 (pk_cons (pe_ix (ixK (K := K) rfl) (pv 12) pe_int (fun _ _ => rfl)) pk_nil)) pa_nil)))) (pa_cons (pe_lst (pa_cons (pv 3) (pa_cons (pv 6) (pa_cons (pv 4) pa_nil)))) pa_nil))) (by intro _; rfl))) (pss_one (ps_ret pe_bl)) pss_nil)))))))))))))))))))))
      (pss_one (ps_ret (pe_call c_law_same.ok (hr.mono (by decide)) (by rfl) c_law_same.g c_law_same.kp c_law_same.bd .nil pass0 (pa_cons (pe_lst (pa_cons (pe_call c_word_text.ok (hr.mono (by decide)) (by rfl) c_word_text.g c_word_text.kp c_word_text.bd .nil pass0 (pa_cons (pe_lst pa_nil) pa_nil)) (pa_cons (pe_call c_word_text.ok (hr.mono (by decide)) (by rfl) c_word_text.g c_word_text.kp c_word_text.bd .nil pass0 (pa_cons (pe_tupS pa_nil) pa_nil)) (pa_cons (pe_call c_word_in.ok (hr.mono (by decide)) (by rfl) c_word_in.g c_word_in.kp c_word_in.bd .nil pass0 (pa_cons pe_str pa_nil)) pa_nil)))) (pa_cons (pe_lst (pa_cons pe_str (pa_cons pe_str (pa_cons (pe_lst pa_nil) pa_nil)))) pa_nil)))))),
    (ss_seq (ss_for (si_rng1 (sa_cons se_int sa_nil)) sg_name (ss_seq (ss_set false (se_op r2_add se_int (se_call mon_law_take (sa_cons se_var (sa_cons (se_call mon_law_pick (sa_cons se_var (sa_cons (se_lst (sa_cons se_int (sa_cons se_int sa_nil))) sa_nil))) sa_nil)))))
      (ss_seq (ss_set false (se_call mon_law_random_state (sa_cons se_var (sa_cons se_var sa_nil))))
      (ss_seq (ss_set false (se_cb rc_tuple (sa_cons (se_lc (si_seq se_var) sg_name st_yes (se_if (st_test (se_op r2_eq (se_call mon_law_take (sa_cons se_var (sa_cons se_int sa_nil))) se_int)) se_non se_var)) sa_nil)))
      (ss_seq (ss_set false (se_lc (si_rng1 (sa_cons (se_call mon_law_take (sa_cons se_var (sa_cons se_int sa_nil))) sa_nil)) sg_name st_yes (se_call mon_law_take (sa_cons se_var (sa_cons (se_call mon_law_pick (sa_cons se_var (sa_cons (se_lst (sa_cons se_int (sa_cons se_int sa_nil))) sa_nil))) sa_nil)))))
      (ss_seq (ss_set false (se_lc (si_rng1 (sa_cons (se_op r2_add se_int (se_call mon_law_take (sa_cons se_var (sa_cons se_int sa_nil)))) sa_nil)) sg_name st_yes (se_call mon_law_take (sa_cons se_var (sa_cons (se_op r2_C se_int se_int) sa_nil)))))
      (ss_seq (ss_set false (se_op r2_add se_int (se_call mon_law_take (sa_cons se_var (sa_cons se_int sa_nil)))))
      (ss_seq (ss_set false (se_cb rc_tuple (sa_cons (se_lc (si_rng1 (sa_cons se_var sa_nil)) sg_name st_yes (se_call mon_law_take (sa_cons se_var (sa_cons se_var sa_nil)))) sa_nil)))
      (ss_seq (ss_set false (se_join se_str (se_lc (si_seq se_var) sg_name st_yes (se_cb (rc_strI (K := K)) (sa_cons se_var sa_nil)))))
      (ss_seq (ss_if (st_not (st_truth (se_call (mon_law_same_3 3) (sa_cons (se_lst (sa_cons (se_call mon_state_in (sa_cons se_var sa_nil)) (sa_cons (se_call mon_wish_in (sa_cons (se_op r2_addS se_var se_str) sa_nil)) sa_nil))) (sa_cons (se_lst (sa_cons se_var (sa_cons (se_op r2_add se_var (se_tup (sa_cons se_non sa_nil))) sa_nil))) sa_nil))))) (ss_ret se_bl) ss_next)
      (ss_seq (ss_set true (se_lst (sa_cons (se_join se_str (se_lc (si_seq se_var) sg_name st_yes (se_cb (rc_strI (K := K)) (sa_cons se_var sa_nil)))) (sa_cons (se_if (st_test (se_op r2_ne se_var (se_lst sa_nil))) (se_join se_str (se_lc (si_seq se_var) sg_name st_yes (se_cb (rc_strI (K := K)) (sa_cons se_var sa_nil)))) se_str) sa_nil))))
      (ss_seq (ss_append (se_join se_str (se_lc (si_seq se_var) sg_name st_yes (se_if (st_test (se_op r2_isN se_var se_non)) se_str (se_cb (rc_strI (K := K)) (sa_cons se_var sa_nil))))))
      (ss_seq (ss_set false (se_lst (sa_cons (se_call mon_state_text (sa_cons se_var sa_nil)) (sa_cons (se_call mon_word_text (sa_cons se_var sa_nil)) (sa_cons (se_call mon_wish_text (sa_cons se_var sa_nil)) sa_nil)))))
      (ss_seq (ss_if (st_not (st_truth (se_call (mon_law_same_3 3) (sa_cons se_var (sa_cons se_var sa_nil))))) (ss_ret se_bl) ss_next)
      (ss_seq (ss_if (st_not (st_truth (se_call (mon_law_same_3 3) (sa_cons (se_lst (sa_cons (se_callR mon_state_text (sa_cons (se_cb rc_list (sa_cons se_var sa_nil)) sa_nil)) (sa_cons (se_callR mon_word_text (sa_cons (se_cb rc_tuple (sa_cons se_var sa_nil)) sa_nil)) (sa_cons (se_callR mon_wish_text (sa_cons (se_cb rc_list (sa_cons se_var sa_nil)) sa_nil)) sa_nil)))) (sa_cons se_var sa_nil))))) (ss_ret se_bl) ss_next)
      (ss_nest3 (fun _ => trivial) (se_call mon_state_in (sa_cons (se_op r2_ix se_var se_int) sa_nil)) (se_call mon_word_in (sa_cons (se_op r2_ix se_var se_int) sa_nil)) (se_call mon_wish_in (sa_cons (se_op r2_ix se_var se_int) sa_nil)) (st_not (st_truth (se_call (mon_law_same_3 3) (sa_cons se_var (sa_cons (se_lst (sa_cons se_var (sa_cons se_var (sa_cons se_var sa_nil)))) sa_nil)))))
      (ss_seq (ss_if (st_not (st_truth (se_call (mon_law_same_3 3) (sa_cons (se_call mon_word_in (sa_cons (se_join se_str (se_lc (si_seq se_var) sg_name st_yes (se_cb (rc_strI (K := K)) (sa_cons se_var sa_nil)))) sa_nil)) (sa_cons se_var sa_nil))))) (ss_ret se_bl) ss_next)
      (ss_if (st_not (st_truth (se_call (mon_law_same_3 3) (sa_cons (se_lst (sa_cons (se_callR mon_state_in (sa_cons (se_op r2_ix se_var se_int) sa_nil)) (sa_cons (se_callR mon_word_in (sa_cons (se_op r2_ix se_var se_int) sa_nil)) (sa_cons (se_callR mon_wish_in (sa_cons (se_op r2_ix se_var se_int) sa_nil)) sa_nil)))) (sa_cons (se_lst (sa_cons se_var (sa_cons se_var (sa_cons se_var sa_nil)))) sa_nil))))) (ss_ret se_bl) ss_next))))))))))))))))))
      (ss_ret (se_call (mon_law_same_3 3) (sa_cons (se_lst (sa_cons (se_call mon_word_text (sa_cons (se_lst sa_nil) sa_nil)) (sa_cons (se_call mon_word_text (sa_cons (se_tup sa_nil) sa_nil)) (sa_cons (se_call mon_word_in (sa_cons se_str sa_nil)) sa_nil)))) (sa_cons (se_lst (sa_cons se_str (sa_cons se_str (sa_cons (se_lst sa_nil) sa_nil)))) sa_nil)))))⟩
abbrev s_law : Stmt := topS 26
abbrev nLaw : List Str := ["_law_script", "_law_cells", "_law_k", "_law_source", "_law_turn"]
theorem scLaw : FnScope nLaw ["_law_script"] (defScope s_law) := ⟨rfl, rfl, rfl, by decide +kernel, rfl, by decide +kernel, by decide +kernel⟩
theorem ok_law {f fC fB fR : Addr} {fd fdC fdB fdR : FuncData} (F : Fun K "law" "law" s_law f fd) (B : Bi mg) (C : Cal P w K mg base "_law_folded" 1 ["_law_script", "_law_most"] (spCells K) fC fdC)
    (X : Cal P w K mg base "_law_stream" 1 ["_law_script", "_law_k"] (spBox K) fB fdB) (R : Cal P w K mg base "_law_right" 5 ["_law_source"] (spD 1 p_k83_law_right) fR fdR) : FnOk P w K mg base CX0 6 f fd ["_law_script"] (spLaw K) := by
  refine Fun.ok (k := 5) F scLaw (fun vs H Q E h => ?_) (fun cdv A outer s H vs Q E hr h => ?_)
  · obtain ⟨a, ns, rfl, _⟩ := h
    rfl
  · obtain ⟨a, ns, rfl, hS, hl, q⟩ := h
    refine ⟨_, pss_cons (ps_set (i := 1) scLaw.nd rfl (.inl rfl) (pe_call C.ok (hr.mono (by decide)) (by rfl) C.g C.kp C.bd .nil pass0 (pa_cons (pv 0) (pa_cons pe_int pa_nil))))
      (pss_cons (ps_for PassesOwn.never rfl (pi_range1 (by rfl) B.range (pa_cons (pe_callB call_len_seq (by rfl) B.len PySem.boot_len (pa_cons (pv 1) pa_nil)) pa_nil)) (pg_name (i := 2) scLaw.nd rfl (.inl rfl))
        (pss_cons (ps_set (i := 3) scLaw.nd rfl (.inr rfl) (pe_call X.ok (hr.mono (by decide)) (by rfl) X.g X.kp X.bd .nil pass0 (pa_cons (pv 1) (pa_cons (pv 2) pa_nil))))
        (pss_one (ps_if (pt_not (pt_val (pe_callB (cr_all rfl) (by rfl) B.all (by decide +kernel) (pa_cons (pe_lc (own := [("_law_turn", 4)]) (g := gName 4) (tt := tYes) (by rfl) scLaw.nd (pi_range1 (by rfl) B.range (pa_cons pe_int pa_nil)) (blkOk_by (own := [("_law_turn", 4)]) (N := nLaw) (sc := defScope s_law) (by decide +kernel))
          (fun _ _ _ _ _ => pg_name (i := 4) scLaw.nd rfl (Or.inl rfl)) (fun _ _ _ _ _ => pts_nil) (fun _ _ _ _ _ => pe_call R.ok hr (by rfl) R.g R.kp R.bd .nil pass0 (pa_cons (pv 3) pa_nil))) pa_nil)))) pss_never pss_nil))))
      (pss_one (ps_ret pe_bl))), ?_⟩
    refine ⟨.ref a, rfl, a, _, ns, rfl, hS, by decide, by decide, fun H1 cA ms s1 nc hc l1 l2 => ?_⟩
    refine ⟨.ref cA, rfl, cA, _, rfl, .inl (SqL.of hc), _, rfl, ?_, ?_, ?_⟩
    · rw [List.length_map]; omega
    · rw [List.length_map]; omega
    refine for_it (walk_range (lo := 0)) (fun _ σ H3 => ∃ y2 y3, σ = [some (.ref a), some (.ref cA), y2, y3, none] ∧ H3 cA = some (.lst (IL ms))) ?_ ?_ ?_ ?_
    · exact ⟨none, none, rfl, hc⟩
    · intros; trivial
    · rintro i x σ H0 G hi ⟨y2, y3, rfl, hcG⟩ ⟨rfl, rfl⟩
      rw [List.length_map] at hi
      refine ⟨.ref cA, rfl, .int (0 + i), rfl, cA, _, ms, rfl, SqL.of hcG, by omega, by omega, fun H4 b s4 nb hB => ?_⟩
      have hc4 := s4 _ _ hcG
      have cb : cA ≠ b := ne_of_none hcG nb
      refine ⟨_, rfl, by decide, by decide, fun D nD => ?_⟩
      have bD : b ≠ D := hB.ne nD
      have cD : cA ≠ D := ne_of_none hc4 nD
      refine lc_range (lo := 0) (fun j H5 => H5 D = some (.lst (List.replicate j (.bl true))) ∧ Box H5 b (1000000 * j) ∧ H5 cA = some (.lst (IL ms))) ⟨upd_same, (hB.new nD).le (by omega), upd_keep hc4 nD⟩ ?_ ?_
      · rintro j H5 hj ⟨hD, hB5, hc5⟩
        have hj' : j < 2 := hj
        refine ⟨rfl, yes_ok ⟨.ref b, rfl, right_do2 (E := fun _ _ _ => False) (N := 1000000) hB5 (fun Q hQ => ⟨rfl, by omega, hQ⟩) fun H6 sb6 hB6 => ?_⟩⟩
        have hD6 := sb6 D _ (Ne.symm bD) hD
        refine ⟨_, hD6, ?_, ?_, ?_, ?_⟩
        · rw [List.length_replicate]; exact szl (by omega)
        · rw [upd_same, rep_app]
        · exact (hB6.put bD).le (by omega)
        · rw [upd_ne cD]; exact sb6 cA _ cb hc5
      · rintro H5 ⟨hD, hB5, hc5⟩
        refine ⟨D, List.replicate 2 true, rfl, ?_, true, ?_, iteF ⟨_, _, rfl, hc5⟩⟩
        · rw [rep_bl]; exact SqL.of hD
        · rw [rep_all]
    · rintro σ H3 ⟨y2, y3, rfl, _⟩
      exact q _

end
theorem all_mk {l : PySem.W.OpenLaw} {w : World} {K : PySem.W.Frag} {h : Heap} {mg : Str → Option Value} {fa : Addr} (X : K.In h) (G : h.Ns mainGlobals mg) (hfa : mg "law" = some (.ref fa)) (Z : Zs K)
    (d7 : Dx K "spaced" s_spaced) (d8 : Dx K "state_text" s_state_text) (d9 : Dx K "word_text" s_word_text) (d10 : Dx K "wish_text" s_wish_text) (d11 : Dx K "is_number" s_is_number) (d12 : Dx K "is_number_below" s_is_number_below) (d13 : Dx K "check_words" s_check_words) (d14 : Dx K "state_in" s_state_in) (d15 : Dx K "word_in" s_word_in) (d16 : Dx K "wish_in" s_wish_in) (d18 : Dx K "_law_stream" sBox) (d19 : Dx K "_law_draw" sTake) (d20 : Dx K "_law_folded" sCells) (d21 : Dx K "_law_pick" s_law_pick) (d22 : Dx K "_law_same" s_law_same) (d23 : Dx K "_law_shuffled" s_law_shuffled) (d24 : Dx K "_law_random_state" s_law_random_state) (d25 : Dx K "_law_right" s_law_right) (d26 : Dx K "law" s_law) (x_EMPTY : ∃ t : Tok, PySem.W.nsIn K mainGlobals "EMPTY" = some (some (.str "-" t))) (x_ANYBODY : ∃ t : Tok, PySem.W.nsIn K mainGlobals "ANYBODY" = some (some (.str "?" t))) (x_MOST_DIGITS : ∃ t : Tok, PySem.W.nsIn K mainGlobals "MOST_DIGITS" = some (some (.int (13) t))) (x_DIGITS : ∃ t : Tok, PySem.W.nsIn K mainGlobals "DIGITS" = some (some (.str "0123456789" t))) (cz_str : PySem.W.nsIn K mainGlobals "str" = some none) :
    ∃ fd : FuncData, (∀ (s : Shared) (v : Value), BindsTo s fd ⟨[v], []⟩ [("_law_script", v)]) ∧ ∀ base : Heap, K.In base → base.Ns mainGlobals mg → FnOk l.prog w K mg base CX0 6 fa fd ["_law_script"] (spLaw K) := by
  have B := Z.bi X G
  obtain ⟨k_EMPTY, z_EMPTY⟩ := x_EMPTY
  have g_EMPTY := PySem.W.mg_of X G z_EMPTY
  obtain ⟨k_ANYBODY, z_ANYBODY⟩ := x_ANYBODY
  have g_ANYBODY := PySem.W.mg_of X G z_ANYBODY
  obtain ⟨k_MOST_DIGITS, z_MOST_DIGITS⟩ := x_MOST_DIGITS
  have g_MOST_DIGITS := PySem.W.mg_of X G z_MOST_DIGITS
  obtain ⟨k_DIGITS, z_DIGITS⟩ := x_DIGITS
  have g_DIGITS := PySem.W.mg_of X G z_DIGITS
  obtain ⟨f7, e7, F7, g7⟩ := d7.fn X G
  obtain ⟨f8, e8, F8, g8⟩ := d8.fn X G
  obtain ⟨f9, e9, F9, g9⟩ := d9.fn X G
  obtain ⟨f10, e10, F10, g10⟩ := d10.fn X G
  obtain ⟨f11, e11, F11, g11⟩ := d11.fn X G
  obtain ⟨f12, e12, F12, g12⟩ := d12.fn X G
  obtain ⟨f13, e13, F13, g13⟩ := d13.fn X G
  obtain ⟨f14, e14, F14, g14⟩ := d14.fn X G
  obtain ⟨f15, e15, F15, g15⟩ := d15.fn X G
  obtain ⟨f16, e16, F16, g16⟩ := d16.fn X G
  obtain ⟨f18, e18, F18, g18⟩ := d18.fn X G
  obtain ⟨f19, e19, F19, g19⟩ := d19.fn X G
  obtain ⟨f20, e20, F20, g20⟩ := d20.fn X G
  obtain ⟨f21, e21, F21, g21⟩ := d21.fn X G
  obtain ⟨f22, e22, F22, g22⟩ := d22.fn X G
  obtain ⟨f23, e23, F23, g23⟩ := d23.fn X G
  obtain ⟨f24, e24, F24, g24⟩ := d24.fn X G
  obtain ⟨f25, e25, F25, g25⟩ := d25.fn X G
  obtain ⟨f26, e26, F26, g26⟩ := d26.fn X G
  have z_str := PySem.W.mg_none_of X G cz_str
  cases hfa.symm.trans g26
  refine ⟨e26, fun s v => ?_, fun base _ _ => ?_⟩
  · obtain ⟨oc, od, kV, doc, pm, an, cdv, ct, osl, rfl, lk, hcd⟩ := F26.ex
    exact .of_eq rfl
  · have bd19 : Binds K e19 ["_law_source", "_law_bound"] [] := b2 F19 fun _ _ _ _ _ _ _ _ => rfl
    have u19 : Cal l.prog w K mg base "_law_draw" 1 ["_law_source", "_law_bound"] spTake f19 e19 := ⟨ok_take F19, g19, F19.kp, bd19⟩
    have t19 : Cal l.prog w K mg base "_law_draw" 2 ["_law_source", "_law_bound"] (spD 2 p_law_take) f19 e19 := ⟨FnOk.imp (ok_takeW F19 u19) fun _ _ _ _ h => take_imp h, g19, F19.kp, bd19⟩
    have bd18 : Binds K e18 ["_law_script", "_law_k"] [] := b2 F18 fun _ _ _ _ _ _ _ _ => rfl
    have t18 : Cal l.prog w K mg base "_law_stream" 1 ["_law_script", "_law_k"] (spBox K) f18 e18 := ⟨ok_box F18 B, g18, F18.kp, bd18⟩
    have bd7 : Binds K e7 ["items"] [] := b1 F7 fun _ _ _ _ _ _ _ => rfl
    have t7 : Cal l.prog w K mg base "spaced" 1 ["items"] (spD 1 p_spaced) f7 e7 := ⟨ok_spaced F7 B    z_str , g7, F7.kp, bd7⟩
    have bd8 : Binds K e8 ["state"] [] := b1 F8 fun _ _ _ _ _ _ _ => rfl
    have t8 : Cal l.prog w K mg base "state_text" 2 ["state"] (spD 1 p_state_text) f8 e8 := ⟨ok_state_text F8 B t7    , g8, F8.kp, bd8⟩
    have bd9 : Binds K e9 ["word"] [] := b1 F9 fun _ _ _ _ _ _ _ => rfl
    have t9 : Cal l.prog w K mg base "word_text" 2 ["word"] (spD 1 p_word_text) f9 e9 := ⟨ok_word_text F9 B t7 g_EMPTY   , g9, F9.kp, bd9⟩
    have bd10 : Binds K e10 ["wish"] [] := b1 F10 fun _ _ _ _ _ _ _ => rfl
    have t10 : Cal l.prog w K mg base "wish_text" 2 ["wish"] (spD 1 p_wish_text) f10 e10 := ⟨ok_wish_text F10 B t7 g_ANYBODY   , g10, F10.kp, bd10⟩
    have bd11 : Binds K e11 ["word"] [] := b1 F11 fun _ _ _ _ _ _ _ => rfl
    have t11 : Cal l.prog w K mg base "is_number" 1 ["word"] (spD 1 p_is_number) f11 e11 := ⟨ok_is_number F11 B  g_MOST_DIGITS g_DIGITS   , g11, F11.kp, bd11⟩
    have bd12 : Binds K e12 ["word", "limit"] [] := b2 F12 fun _ _ _ _ _ _ _ _ => rfl
    have t12 : Cal l.prog w K mg base "is_number_below" 2 ["word", "limit"] (spD 2 p_is_number_below) f12 e12 := ⟨ok_is_number_below F12 B t11    , g12, F12.kp, bd12⟩
    have bd13 : Binds K e13 ["right"] [] := b1 F13 fun _ _ _ _ _ _ _ => rfl
    have t13 : Cal l.prog w K mg base "check_words" 1 ["right"] (spD 1 p_check_words) f13 e13 := ⟨ok_check_words F13 B     , g13, F13.kp, bd13⟩
    have bd14 : Binds K e14 ["text"] [] := b1 F14 fun _ _ _ _ _ _ _ => rfl
    have t14 : Cal l.prog w K mg base "state_in" 3 ["text"] (spD 1 p_state_in) f14 e14 := ⟨ok_state_in F14 B t13 t12    , g14, F14.kp, bd14⟩
    have bd15 : Binds K e15 ["text"] [] := b1 F15 fun _ _ _ _ _ _ _ => rfl
    have t15 : Cal l.prog w K mg base "word_in" 2 ["text"] (spD 1 p_word_in) f15 e15 := ⟨ok_word_in F15 B t13 t11 g_EMPTY   , g15, F15.kp, bd15⟩
    have bd16 : Binds K e16 ["text"] [] := b1 F16 fun _ _ _ _ _ _ _ => rfl
    have t16 : Cal l.prog w K mg base "wish_in" 3 ["text"] (spD 1 p_wish_in) f16 e16 := ⟨ok_wish_in F16 B t13 t12 g_ANYBODY   , g16, F16.kp, bd16⟩
    have bd21 : Binds K e21 ["_law_source", "_law_some"] [] := b2 F21 fun _ _ _ _ _ _ _ _ => rfl
    have t21 : Cal l.prog w K mg base "_law_pick" 3 ["_law_source", "_law_some"] (spD 2 p_law_pick) f21 e21 := ⟨ok_law_pick F21 B t19    , g21, F21.kp, bd21⟩
    have bd22 : Binds K e22 ["_law_found", "_law_due"] [] := b2 F22 fun _ _ _ _ _ _ _ _ => rfl
    have t22 : Cal l.prog w K mg base "_law_same" 4 ["_law_found", "_law_due"] (spD 2 (p_law_same_3 3)) f22 e22 := ⟨ok_law_same F22 B g22 bd22 3, g22, F22.kp, bd22⟩
    have bd23 : Binds K e23 ["_law_source", "_law_some"] [] := b2 F23 fun _ _ _ _ _ _ _ _ => rfl
    have t23 : Cal l.prog w K mg base "_law_shuffled" 3 ["_law_source", "_law_some"] (spD 2 p_law_strewn_2) f23 e23 := ⟨ok_law_shuffled F23 B t19    , g23, F23.kp, bd23⟩
    have bd24 : Binds K e24 ["_law_source", "_law_size"] [] := b2 F24 fun _ _ _ _ _ _ _ _ => rfl
    have t24 : Cal l.prog w K mg base "_law_random_state" 4 ["_law_source", "_law_size"] (spD 2 p_law_random_state) f24 e24 := ⟨ok_law_random_state F24 B t23 t19    , g24, F24.kp, bd24⟩
    have bd25 : Binds K e25 ["_law_source"] [] := b1 F25 fun _ _ _ _ _ _ _ => rfl
    have t25 : Cal l.prog w K mg base "_law_right" 5 ["_law_source"] (spD 1 p_k83_law_right) f25 e25 := ⟨ok_law_right F25 B t16 t15 t14 t22 t19 t21 t24 t10 t9 t8   z_str (r1 F16 fun _ _ _ _ _ _ _ => rfl) (r1 F15 fun _ _ _ _ _ _ _ => rfl) (r1 F14 fun _ _ _ _ _ _ _ => rfl) (r1 F10 fun _ _ _ _ _ _ _ => rfl) (r1 F9 fun _ _ _ _ _ _ _ => rfl) (r1 F8 fun _ _ _ _ _ _ _ => rfl), g25, F25.kp, bd25⟩
    have bd20 : Binds K e20 ["_law_script", "_law_most"] [] := b2 F20 fun _ _ _ _ _ _ _ _ => rfl
    have t20 : Cal l.prog w K mg base "_law_folded" 1 ["_law_script", "_law_most"] (spCells K) f20 e20 := ⟨ok_cells F20 B, g20, F20.kp, bd20⟩
    exact ok_law F26 B t20 t18 t25
end Lp

open PySem PySem.W PyProof.Rows
set_option maxHeartbeats 0 in
theorem PySem.Challenge.cw_lookpast_k83_texts_and_back_holds : PySem.Challenge.rw_lookpast_k83_texts_and_back.Holds := by
  w_on; o_law; k_head; (case hw => w_witness2)
  k_fill
  refine L2.walk_of (l := PySem.Challenge.rw_lookpast_k83_texts_and_back) (n := 63) (k := 6) (x := "_law_script") (CX := fun _ => L2.CX0) (sp := fun w => Lp.spLaw _) rfl (by decide) rfl ⟨rfl, by decide, by decide⟩ (fun w h Y => PySem.W.kIn_of Y) ?F (fun _ _ a ns hl _ hS => ⟨a, ns, rfl, hS, hl, fun _ => rfl⟩) (fun _ _ _ _ _ h => h)
  case F =>
    intro w mg fa h KX G hmg
    refine' Lp.all_mk KX G hmg ?z ?d7 ?d8 ?d9 ?d10 ?d11 ?d12 ?d13 ?d14 ?d15 ?d16 ?d18 ?d19 ?d20 ?d21 ?d22 ?d23 ?d24 ?d25 ?d26 ?xEMPTY ?xANYBODY ?xMOST_DIGITS ?xDIGITS ?cz_str
    (case z => refine' ⟨?_, ?_, ?_, ?_, ?_, ?_, ?_, ?_, ?_, ?_, ?_, ?_, ?_, ?_, ?_, ?_, ?_, ?_, ?_⟩ <;> k_is)
    (case d7 => refine' Lp.dx_mk ?a ?l ?c ?k; (case a => k_is); (case l => k_is); (case c => k_is); (case k => k_is))
    (case d8 => refine' Lp.dx_mk ?a ?l ?c ?k; (case a => k_is); (case l => k_is); (case c => k_is); (case k => k_is))
    (case d9 => refine' Lp.dx_mk ?a ?l ?c ?k; (case a => k_is); (case l => k_is); (case c => k_is); (case k => k_is))
    (case d10 => refine' Lp.dx_mk ?a ?l ?c ?k; (case a => k_is); (case l => k_is); (case c => k_is); (case k => k_is))
    (case d11 => refine' Lp.dx_mk ?a ?l ?c ?k; (case a => k_is); (case l => k_is); (case c => k_is); (case k => k_is))
    (case d12 => refine' Lp.dx_mk ?a ?l ?c ?k; (case a => k_is); (case l => k_is); (case c => k_is); (case k => k_is))
    (case d13 => refine' Lp.dx_mk ?a ?l ?c ?k; (case a => k_is); (case l => k_is); (case c => k_is); (case k => k_is))
    (case d14 => refine' Lp.dx_mk ?a ?l ?c ?k; (case a => k_is); (case l => k_is); (case c => k_is); (case k => k_is))
    (case d15 => refine' Lp.dx_mk ?a ?l ?c ?k; (case a => k_is); (case l => k_is); (case c => k_is); (case k => k_is))
    (case d16 => refine' Lp.dx_mk ?a ?l ?c ?k; (case a => k_is); (case l => k_is); (case c => k_is); (case k => k_is))
    (case d18 => refine' Lp.dx_mk ?a ?l ?c ?k; (case a => k_is); (case l => k_is); (case c => k_is); (case k => k_is))
    (case d19 => refine' Lp.dx_mk ?a ?l ?c ?k; (case a => k_is); (case l => k_is); (case c => k_is); (case k => k_is))
    (case d20 => refine' Lp.dx_mk ?a ?l ?c ?k; (case a => k_is); (case l => k_is); (case c => k_is); (case k => k_is))
    (case d21 => refine' Lp.dx_mk ?a ?l ?c ?k; (case a => k_is); (case l => k_is); (case c => k_is); (case k => k_is))
    (case d22 => refine' Lp.dx_mk ?a ?l ?c ?k; (case a => k_is); (case l => k_is); (case c => k_is); (case k => k_is))
    (case d23 => refine' Lp.dx_mk ?a ?l ?c ?k; (case a => k_is); (case l => k_is); (case c => k_is); (case k => k_is))
    (case d24 => refine' Lp.dx_mk ?a ?l ?c ?k; (case a => k_is); (case l => k_is); (case c => k_is); (case k => k_is))
    (case d25 => refine' Lp.dx_mk ?a ?l ?c ?k; (case a => k_is); (case l => k_is); (case c => k_is); (case k => k_is))
    (case d26 => refine' Lp.dx_mk ?a ?l ?c ?k; (case a => k_is); (case l => k_is); (case c => k_is); (case k => k_is))
    (case xEMPTY => exact ⟨_, by k_is⟩)
    (case xANYBODY => exact ⟨_, by k_is⟩)
    (case xMOST_DIGITS => exact ⟨_, by k_is⟩)
    (case xDIGITS => exact ⟨_, by k_is⟩)
    (case cz_str => k_is)


