import PyProof.Rows.All
import Wide.All
import OpenK.AllK
import Wide.FinOn
import HandS.ForMost
import HandS.Walk
import HandS.IsInst
import HandS.Conv
import HandS.Zip
import HandS.Style
import HandS.Flow
import HandS.Strs
import HandS.Wide
import HandS.TupAny
import HandS.TupSets
import KE.KDictDisplayH
import HandS.DictComp
import HandS.SetBool
import HandS.Deep
import HandS.TupMul
import HandS.SortInts
import HandS.SortOrd
import PyProof.ReprRoads
import PyProof.Rows.RegFStrParts
import KE.GoesMore
import HandS.TupLe
import HandS.SetFor
import HandS.ExcInit
import KE.KExcInit
import HandS.ExcOwn
import HandS.WordsExc
import KE.KTryMore
import KE.KExcIs
import HandS.CallLocal
import HandS.ExcField
import HandS.ExcIs
import HandS.Star
import HandS.Defaults
import HandS.HeadHook3
import PySem.Challenge.RW_lookpast_k98_people_who_are_not_there
set_option Elab.async false
set_option linter.all false
set_option maxRecDepth 100000
set_option maxHeartbeats 4000000
namespace Lp
open PySem PySem.Spec PyProof.Rows L2
def Sol (H : Hp) (a : Addr) (xs : List V) : Prop := ∃ o : Obj, o.dict = none ∧ H a = some (.frz o (.tup xs))
theorem Sol.seq {K : PySem.W.Frag} {H : Hp} {a : Addr} {xs : List V} (h : Sol H a xs) : SqT K H a xs := by
  obtain ⟨o, _, e⟩ := h
  exact .inl (.inr ⟨o, e⟩)
theorem Sol.to {H H' : Hp} {a : Addr} {xs : List V} (h : Sol H a xs) (s : Same H H') : Sol H' a xs := by
  obtain ⟨o, d, e⟩ := h
  exact ⟨o, d, s _ _ e⟩
theorem Sol.there {H : Hp} {a : Addr} {xs : List V} (h : Sol H a xs) : H a ≠ none := by
  obtain ⟨o, d, e⟩ := h
  rw [e]; exact fun z => nomatch z
theorem Sol.inj {H : Hp} {a : Addr} {xs ys : List V} (h : Sol H a xs) (k : Sol H a ys) : xs = ys := by
  obtain ⟨o, d, e⟩ := h
  obtain ⟨o', d', e'⟩ := k
  rw [e] at e'
  cases e'; rfl
abbrev objT (us : List Value) : Obj := { cls := .type "tuple", data := .seq us.toArray }
section
variable {X : Cx} {pins : List (Addr × Obj)} {σ : L2.St} {H : Hp} {s : Shared}
/-- a new tuple -/
theorem laidT {xs : List V} {us : List Value} (J : Inv X pins σ H s) (rel : Vals xs us) (few : xs.length ≤ sizeLine) : Inv X pins σ (upd H s.heap.objs.size (.frz (objT us) (.tup xs))) { s with heap := s.heap.push (objT us) } := by
  refine J.laid (t' := s.toks) (fun _ _ q => Heap.get?_push_of_some _ q) (Nat.le_refl _) ⟨Heap.get?_push_size _ rfl, few, us, rel, IsTup.new _ _⟩
theorem newT {xs : List V} {us : List Value} {Q : VK} (J : Inv X pins σ H s) (rel : Vals xs us) (few : xs.length ≤ sizeLine) (q : ∀ p o, H p = none → o.dict = none → Q (.ref p) (upd H p (.frz o (.tup xs)))) : EP X pins σ Q (.ref s.heap.objs.size) { s with heap := s.heap.push (objT us) } :=
  ⟨.ref s.heap.objs.size, _, laidT J rel few, rfl, q _ _ (J.hok.fresh (Nat.le_refl _)) rfl⟩
end
section
variable {X : Cx}
/-- (a, b, ..) -/
def tTupS (t : TA) : TE := fun σ H Q => t σ H fun xs H1 => xs.length ≤ sizeLine ∧ ∀ p o, H1 p = none → o.dict = none → Q (.ref p) (upd H1 p (.frz o (.tup xs)))
theorem pe_tupS {es : List Expr} {t : TA} {k : Nat} {pos : Pos} (args : PA X es t) : PE X (.Tuple es k pos) (tTupS t) := by
  constructor
  intro pins s σ H Q J want
  refine wpAny_Tuple_spliced (thn (args.run pos pins s σ H _ J want) ?_)
  rintro us s' ⟨xs, H', J', rel, few, q⟩
  exact ⟨by rw [← rel.length]; exact few, newT J' rel few q⟩
/-- tuple(xs) -/
def rTuple (K : PySem.W.Frag) : List V → Hp → VK → Prop := fun xs H Q => ∃ p ys, xs = [.ref p] ∧ ((SqL K H p ys ∧ ∀ l o, H l = none → o.dict = none → Q (.ref l) (upd H l (.frz o (.tup ys)))) ∨ (SqT K H p ys ∧ Q (.ref p) H))
theorem call_tupleS : CallR X (.type "tuple") (rTuple X.K) := by
  rintro pins s σ H xs us Q J rel ⟨p, ys, rfl, ways⟩
  obtain ⟨u, rfl, ru⟩ := vals1 rel
  cases ru
  rcases ways with ⟨at_p, q⟩ | ⟨at_p, q⟩
  · obtain ⟨its, rv, pl, few⟩ := J.list at_p
    have many := rv.length
    refine call_tuple_list pl.isList (fun h' keep => ?_) (by simp only [List.size_toArray]; omega)
    have J' : Inv X pins σ H { s with heap := h' } := J.kept (t' := s.toks) keep
    exact newT J' rv few q
  · obtain ⟨its, rv, pl, few⟩ := J.tuple at_p
    exact call_tuple_same pl ⟨.ref p, H, J, rfl, q⟩
/-- t + u -/
def rCatS (K : PySem.W.Frag) : R2 := fun x y H Q => ∃ a b xs ys, x = .ref a ∧ y = .ref b ∧ SqT K H a xs ∧ SqT K H b ys ∧ xs.length + ys.length ≤ sizeLine ∧
  (xs = [] → Q (.ref b) H) ∧ (ys = [] → Q (.ref a) H) ∧ ∀ p o, H p = none → o.dict = none → Q (.ref p) (upd H p (.frz o (.tup (xs ++ ys))))
theorem op_catS : OpR X (binaryOp .Add) (rCatS X.K) := by
  rintro pins s σ H x y v u Q J rx ry ⟨a, b, xs, ys, rfl, rfl, at_a, at_b, few, q0, q1, q2⟩
  cases rx
  cases ry
  obtain ⟨its, r1, p1, _⟩ := J.tuple at_a
  obtain ⟨jts, r2, p2, _⟩ := J.tuple at_b
  by_cases none_ : xs = []
  · subst none_
    cases r1
    exact cat_tup0 p1 p2 ⟨.ref b, H, J, rfl, q0 rfl⟩
  · refine HT.cat_tup p1 p2 (fun z => none_ (r1.nil_iff.mp z)) (fun z => ⟨.ref a, H, J, rfl, q1 (r2.nil_iff.mp z)⟩) (fun _ => ?_) (by rw [← r1.length, ← r2.length]; exact few)
    exact newT J (r1.append r2) (by rw [List.length_append]; exact few) q2
end
end Lp

namespace Lp
open PySem PySem.Spec PyProof.Rows L2
/-- a row of a dict: its key, the key's address, its value, the value as data -/
structure DRow where
  k : List Int
  b : Addr
  v : V
  d : PyData
abbrev tHash (k : List Int) : Int := reduceHash (Builtin.Tuple.tupleHashOf (k.map hashInt))
def dEnt (y : List Int × Addr × Value) : DictEntry := ⟨tHash y.1, .ref y.2.1, y.2.2⟩
def DRel (x : DRow) (y : List Int × Addr × Value) : Prop := x.k = y.1 ∧ x.b = y.2.1 ∧ RelV x.v y.2.2
def DT0 (h : Heap) (a : Addr) (xs : List DRow) : Prop := xs.length ≤ sizeLine ∧ (a == sysModules) = false ∧ (xs.map DRow.k).Nodup ∧ ∃ ys, Paired DRel xs ys ∧ ∃ o es ep, h.get? a = some o ∧ o.ExactDict ∧ o.data = .dict es ep ∧ es.toList = ys.map dEnt
/-- ob is the dict itself -/
def DctO (ob : Obj) (a : Addr) (xs : List DRow) : HO := .ext fun h => h.get? a = some ob ∧ DT0 h a xs
/-- there is such a dict at a -/
def IsDct (H : Hp) (a : Addr) (xs : List DRow) : Prop := ∃ ob, H a = some (DctO ob a xs)
theorem IsDct.ne {H : Hp} {a : Addr} {xs : List DRow} (x : IsDct H a xs) : H a ≠ none := by
  obtain ⟨ob, h⟩ := x
  rw [h]; exact fun z => nomatch z
theorem IsDct.mk {H : Hp} {ob : Obj} {a : Addr} {xs : List DRow} : IsDct (upd H a (DctO ob a xs)) a xs := ⟨ob, upd_same⟩
theorem DRel.keys : ∀ {xs : List DRow} {ys : List (List Int × Addr × Value)}, Paired DRel xs ys → xs.map DRow.k = ys.map (·.1)
  | _, _, .nil => rfl
  | _, _, .cons r t => by rw [List.map_cons, List.map_cons, r.1, DRel.keys t]
theorem DRel.mem : ∀ {xs : List DRow} {ys : List (List Int × Addr × Value)}, Paired DRel xs ys → ∀ y ∈ ys, ∃ x ∈ xs, DRel x y
  | _, _, .nil, y, h => nomatch h
  | _, _, .cons (a := x) r t, y, h => by
    rcases List.mem_cons.mp h with e | e
    · exact ⟨x, List.mem_cons_self, e ▸ r⟩
    · obtain ⟨z, hz, q⟩ := DRel.mem t y e
      exact ⟨z, List.mem_cons_of_mem _ hz, q⟩
theorem DT0.of {P : Program} {w : World} {h : Heap} {a : Addr} {xs : List DRow} {ys : List (List Int × Addr × Value)} (dd : h.DictOfH (tupleKind (intKind P w)) a ys) (r : Paired DRel xs ys) (hl : xs.length ≤ sizeLine) (hd : (a == sysModules) = false) : DT0 h a xs := by
  obtain ⟨o, es, ep, ho, hx, hd', he, _, nd⟩ := dd
  exact ⟨hl, hd, by rw [DRel.keys r]; exact nd, ys, r, o, es, ep, ho, hx, hd', he⟩
section
variable {X : Cx} {pins : List (Addr × Obj)} {σ : L2.St} {H : Hp} {s : Shared} {a : Addr} {xs : List DRow}
end
end Lp

namespace Lp
open PySem PySem.Spec PyProof.Rows L2
section
variable {P : Program} {w : World} {A : Around} {E : Value → Shared → Prop} {s : Shared} {a : Addr} {L : List (Addr × List Int)} {es : Array (Int × Value)} {ep : Nat} {t : SetTable}
end
/-- the set at a, as the world sees it -/
def SetTI (w : World) (a : Addr) (M : List (Addr × List Int)) : HO := .ext fun h => ∃ P, SetT0 P w h a M
section
variable {X : Cx} {pins : List (Addr × Obj)} {σ : L2.St} {H : Hp} {s : Shared} {a : Addr} {M : List (Addr × List Int)}
end
section
variable {X : Cx}
end
end Lp

namespace Lp
open PySem PySem.Spec PyProof.Rows L2
/-- the drawing box: its three numbers; c: at most so many draws so far -/
def Box (H : Hp) (b : Addr) (c : Nat) : Prop := ∃ x0 x1 x2 : Int, H b = some (.lst [.int x0, .int x1, .int x2]) ∧ 0 ≤ x0 ∧ 0 ≤ x1 ∧ x1 < 4611686018427387904 ∧ 0 ≤ x2 ∧ x2 ≤ (c : Int)
theorem Box.le {H : Hp} {b : Addr} {c d : Nat} (x : Box H b c) (h : c ≤ d) : Box H b d := by
  obtain ⟨x0, x1, x2, e, h0, h1, h2, h3, h4⟩ := x
  exact ⟨x0, x1, x2, e, h0, h1, h2, h3, by omega⟩
theorem Box.there {H : Hp} {b : Addr} {c : Nat} (x : Box H b c) : H b ≠ none := by
  obtain ⟨x0, x1, x2, e, _⟩ := x
  rw [e]; exact fun h => nomatch h
theorem Box.keep {H H' : Hp} {b : Addr} {c : Nat} (x : Box H b c) (h : H' b = H b) : Box H' b c := by
  obtain ⟨x0, x1, x2, e, r⟩ := x
  exact ⟨x0, x1, x2, h.trans e, r⟩
/-- the rows of a dict as data -/
def kvT (xs : List DRow) : List (PyData × PyData) := xs.map fun x => (.tuple (x.k.map PyData.int), x.d)
def kvI (ks : List Int) (ds : List PyData) : List (PyData × PyData) := (ks.zip ds).map fun p => (.int p.1, p.2)
def dkI (ks : List Int) (vs : List V) : List (Key × V) := (ks.zip vs).map fun p => (.inl p.1, p.2)
mutual
inductive DV (H : Hp) : V → PyData → Prop
  | non : DV H .non .none
  | bl (b : Bool) : DV H (.bl b) (.bool b)
  | int (i : Int) : DV H (.int i) (.int i)
  | str (x : Str) : DV H (.str x) (.str x)
  | lst {a : Addr} {xs : List V} {ds : List PyData} : H a = some (.lst xs) → DVs H xs ds → DV H (.ref a) (.list ds)
  | tup {a : Addr} {xs : List V} {ds : List PyData} : Sol H a xs → DVs H xs ds → DV H (.ref a) (.tuple ds)
  | dct {a : Addr} {xs : List DRow} : IsDct H a xs → (∀ x ∈ xs, Sol H x.b (x.k.map V.int)) → DVs H (xs.map DRow.v) (xs.map DRow.d) → DV H (.ref a) (.dict (kvT xs))
  | dci {a : Addr} {o : Obj} {ks : List Int} {vs : List V} {ds : List PyData} : H a = some (.frz o (.dK (dkI ks vs))) → ks.length = vs.length → ks.Nodup → DVs H vs ds → DV H (.ref a) (.dict ((.none, .none) :: kvI ks ds))
inductive DVs (H : Hp) : List V → List PyData → Prop
  | nil : DVs H [] []
  | cons {v : V} {vs : List V} {d : PyData} {ds : List PyData} : DV H v d → DVs H vs ds → DVs H (v :: vs) (d :: ds)
end
theorem IsDct.to {H H' : Hp} {a : Addr} {xs : List DRow} (s : Same H H') (h : IsDct H a xs) : IsDct H' a xs := by
  obtain ⟨ob, h⟩ := h
  exact ⟨ob, s _ _ h⟩
theorem DV.mono {H H' : Hp} (s : Same H H') (d : PyData) (v : V) (h : DV H v d) : DV H' v d :=
  DV.rec (motive_1 := fun v d _ => DV H' v d) (motive_2 := fun vs ds _ => DVs H' vs ds) .non (fun b => .bl b) (fun i => .int i) (fun x => .str x)
    (fun e _ r => .lst (s _ _ e) r) (fun e _ r => .tup (e.to s) r) (fun e k _ r => .dct (e.to s) (fun x hx => (k x hx).to s) r) (fun e l n _ r => .dci (s _ _ e) l n r) .nil (fun _ _ a r => .cons a r) h
theorem DVs.mono {H H' : Hp} (s : Same H H') (ds : List PyData) (vs : List V) (h : DVs H vs ds) : DVs H' vs ds :=
  DVs.rec (motive_1 := fun v d _ => DV H' v d) (motive_2 := fun vs ds _ => DVs H' vs ds) .non (fun b => .bl b) (fun i => .int i) (fun x => .str x)
    (fun e _ r => .lst (s _ _ e) r) (fun e _ r => .tup (e.to s) r) (fun e k _ r => .dct (e.to s) (fun x hx => (k x hx).to s) r) (fun e l n _ r => .dci (s _ _ e) l n r) .nil (fun _ _ a r => .cons a r) h
mutual
theorem DV.dp {K : PySem.W.Frag} {H : Hp} : ∀ (d : PyData) (v : V), d.hasDict = false → DV H v d → Dp K H v d
  | .none, _, _, h => by cases h; exact .non
  | .bool b, _, _, h => by cases h; exact .bl b
  | .int i, _, _, h => by cases h; exact .int i
  | .str x, _, _, h => by cases h; exact .str x
  | .list ds, _, n, h => by
    cases h with
    | lst e r => exact .lst (SqL.of e) (DVs.dp ds _ (by unfold PyData.hasDict at n; exact n) r)
  | .tuple ds, _, n, h => by
    cases h with
    | tup e r => exact .tup e.seq (DVs.dp ds _ (by unfold PyData.hasDict at n; exact n) r)
  | .dict _, _, n, h => by unfold PyData.hasDict at n; cases n
theorem DVs.dp {K : PySem.W.Frag} {H : Hp} : ∀ (ds : List PyData) (vs : List V), PyData.hasDictAll ds = false → DVs H vs ds → DpAll K H vs ds
  | [], _, _, h => by cases h; exact .nil
  | d :: ds, _, n, h => by
    unfold PyData.hasDictAll at n
    rw [Bool.or_eq_false_iff] at n
    cases h with
    | cons a r => exact .cons (DV.dp d _ n.1 a) (DVs.dp ds _ n.2 r)
end
/-- what can be told apart holds no dict -/
theorem sh_nd {d : PyData} (h : SeqAt.shaped d = true) : d.hasDict = false := PyData.hasDict_of_canLay d (SeqAt.canLay_of_shaped h)
theorem DV.to {H H' : Hp} {v : V} {d : PyData} (h : DV H v d) (s : Same H H') : DV H' v d := DV.mono s d v h
theorem DVs.to {H H' : Hp} {v : List V} {d : List PyData} (h : DVs H v d) (s : Same H H') : DVs H' v d := DVs.mono s d v h
theorem DVs.len {H : Hp} : ∀ {vs : List V} {ds : List PyData}, DVs H vs ds → vs.length = ds.length
  | _, _, .nil => rfl
  | _, _, .cons _ r => by rw [List.length_cons, List.length_cons, r.len]
theorem DVs.get {H : Hp} : ∀ {vs : List V} {ds : List PyData} {i : Nat} {d : PyData}, DVs H vs ds → ds[i]? = some d → ∃ v, vs[i]? = some v ∧ DV H v d
  | _, _, _, _, .nil, e => by simp at e
  | _, _, 0, _, .cons a _, e => by simp at e; subst e; exact ⟨_, rfl, a⟩
  | _, _, i + 1, d, .cons _ r, e => by
    obtain ⟨v, h1, h2⟩ := DVs.get (i := i) (d := d) r (by simpa using e)
    exact ⟨v, by simpa using h1, h2⟩
theorem DVs.app {H : Hp} : ∀ {vs us : List V} {ds es : List PyData}, DVs H vs ds → DVs H us es → DVs H (vs ++ us) (ds ++ es)
  | _, _, _, _, .nil, s => s
  | _, _, _, _, .cons a r, s => .cons a (r.app s)
theorem DVs.take {H : Hp} : ∀ {vs : List V} {ds : List PyData} (n : Nat), DVs H vs ds → DVs H (vs.take n) (ds.take n)
  | _, _, 0, _ => by rw [List.take_zero, List.take_zero]; exact .nil
  | _, _, _ + 1, .nil => .nil
  | _, _, n + 1, .cons a r => .cons a (r.take n)
theorem DVs.drop {H : Hp} : ∀ {vs : List V} {ds : List PyData} (n : Nat), DVs H vs ds → DVs H (vs.drop n) (ds.drop n)
  | _, _, 0, r => by rw [List.drop_zero, List.drop_zero]; exact r
  | _, _, _ + 1, .nil => .nil
  | _, _, n + 1, .cons a r => r.drop n
theorem DVs.set {H : Hp} {v : V} {d : PyData} (h : DV H v d) : ∀ {vs : List V} {ds : List PyData} (n : Nat), DVs H vs ds → DVs H (vs.set n v) (ds.set n d)
  | _, _, _, .nil => .nil
  | _, _, 0, .cons _ r => .cons h r
  | _, _, n + 1, .cons a r => .cons a (DVs.set h n r)
theorem DVs.one {H : Hp} {v : V} {d : PyData} (h : DV H v d) : DVs H [v] [d] := .cons h .nil
mutual
def imm : PyData → Bool
  | .list _ => false
  | .dict _ => false
  | .tuple ds => imms ds
  | _ => true
def imms : List PyData → Bool
  | [] => true
  | d :: ds => imm d && imms ds
end
mutual
theorem DV.imm {H H' : Hp} (s : ∀ a xs, Sol H a xs → Sol H' a xs) : ∀ (d : PyData) (v : V), imm d = true → DV H v d → DV H' v d
  | .none, _, _, h => by cases h; exact .non
  | .bool b, _, _, h => by cases h; exact .bl b
  | .int i, _, _, h => by cases h; exact .int i
  | .str x, _, _, h => by cases h; exact .str x
  | .list ds, _, i, h => by unfold Lp.imm at i; cases i
  | .tuple ds, _, i, h => by
    unfold Lp.imm at i
    cases h with
    | tup e r => exact .tup (s _ _ e) (DVs.imm s ds _ i r)
  | .dict _, _, i, h => by unfold Lp.imm at i; cases i
theorem DVs.imm {H H' : Hp} (s : ∀ a xs, Sol H a xs → Sol H' a xs) : ∀ (ds : List PyData) (vs : List V), imms ds = true → DVs H vs ds → DVs H' vs ds
  | [], _, _, h => by cases h; exact .nil
  | d :: ds, _, i, h => by
    unfold Lp.imms at i
    rw [Bool.and_eq_true] at i
    cases h with
    | cons a r => exact .cons (DV.imm s d _ i.1 a) (DVs.imm s ds _ i.2 r)
end
theorem ne_at {H : Hp} {a p : Addr} (h : H a ≠ none) (n : H p = none) : a ≠ p := fun z => h (by rw [z]; exact n)

/-- L: what stands still; from (L, H) to (L', H'): nothing that stood still moves, what is (but the box b) stays, and what was there and not of L stays out of L -/
structure Ext (b : Option Addr) (L H L' H' : Hp) : Prop where
  ll : Same L L'
  hh : ∀ a o, H a = some o → b ≠ some a → H' a = some o
  dom : ∀ a, H a ≠ none → H' a ≠ none
  fr : ∀ a, L a = none → H a ≠ none → L' a = none
theorem Ext.refl (b : Option Addr) (L H : Hp) : Ext b L H L H := ⟨Same.refl L, fun _ _ h _ => h, fun _ h => h, fun _ h _ => h⟩
theorem Ext.trans {b : Option Addr} {L H L1 H1 L2 H2 : Hp} (x : Ext b L H L1 H1) (y : Ext b L1 H1 L2 H2) : Ext b L H L2 H2 :=
  ⟨x.ll.trans y.ll, fun a o h n => y.hh a o (x.hh a o h n) n, fun a h => y.dom a (x.dom a h), fun a h n => y.fr a (x.fr a h n) (x.dom a n)⟩
theorem Ext.free {b : Option Addr} {L H L' H' : Hp} (x : Ext b L H L' H') {a : Addr} (h : H' a = none) : H a = none := by
  cases q : H a with
  | none => rfl
  | some o => exact absurd h (x.dom a (by rw [q]; exact fun z => nomatch z))
theorem Ext.any {b : Option Addr} {L H L' H' : Hp} (x : Ext none L H L' H') : Ext b L H L' H' := ⟨x.ll, fun a o h _ => x.hh a o h (fun z => nomatch z), x.dom, x.fr⟩
theorem Same.dom {H H' : Hp} (s : Same H H') (a : Addr) (h : H a ≠ none) : H' a ≠ none := by
  cases q : H a with
  | none => exact absurd q h
  | some o => rw [s a o q]; exact fun z => nomatch z
/-- a new object that stands still -/
theorem Ext.new {b : Option Addr} {L H : Hp} {p : Addr} {o : HO} (s : Same L H) (n : H p = none) : Ext b L H (upd L p o) (upd H p o) := by
  refine ⟨fun a u h => ?_, fun a u h _ => ?_, fun a h => ?_, fun a h d => ?_⟩
  · rw [upd_ne (ne_of_none h (s.free n))]; exact h
  · rw [upd_ne (ne_of_none h n)]; exact h
  · rw [upd_ne (ne_at h n)]; exact h
  · rw [upd_ne (ne_at d n)]; exact h
/-- a new object beside -/
theorem Ext.own {b : Option Addr} {L H : Hp} {p : Addr} {o : HO} (n : H p = none) : Ext b L H L (upd H p o) := by
  refine ⟨Same.refl L, fun a u h _ => ?_, fun a h => ?_, fun a h _ => h⟩
  · rw [upd_ne (ne_of_none h n)]; exact h
  · rw [upd_ne (ne_at h n)]; exact h
theorem same_own {L H : Hp} {p : Addr} {o : HO} (s : Same L H) (n : L p = none) : Same L (upd H p o) := fun a u h => by
  rw [upd_ne (ne_of_none h n)]; exact s a u h
theorem same_both {L H : Hp} {p : Addr} {o : HO} (s : Same L H) : Same (upd L p o) (upd H p o) := fun a u h => by
  by_cases e : a = p
  · subst e; rw [upd_same] at h ⊢; exact h
  · rw [upd_ne e] at h ⊢; exact s a u h
/-- what is published -/
theorem same_pub {L H : Hp} {p : Addr} {o : HO} (s : Same L H) (e : H p = some o) : Same (upd L p o) H := fun a u h => by
  by_cases q : a = p
  · subst q; rw [upd_same] at h; rw [e]; exact h
  · rw [upd_ne q] at h; exact s a u h
theorem same_upd {L : Hp} {p : Addr} {o : HO} (n : L p = none) : Same L (upd L p o) := fun a u h => by
  rw [upd_ne (ne_of_none h n)]; exact h
/-- what a body knows of its caller -/
structure Zx where
  b : Option Addr
  L0 : Hp
  H0 : Hp
  P : Hp
/-- an exception: the name of its class, its fields -/
structure Xn where
  cls : Str
  fs : List (Str × PyData)
/-- what is taken for granted: the world, the classes of exceptions by name, what is known of the caller -/
structure Wx where
  w : World
  cl : Str → Option Addr
  Φ : Zx → Prop
  up : ∀ (Z : Zx) (P : Hp), Same Z.P P → Φ Z → Φ { Z with P := P }
  hp : ∀ (Z : Zx) (a : Addr) (o : HO), Z.H0 a = none → Z.b ≠ some a → Φ Z → Φ { Z with H0 := upd Z.H0 a o }
instance : Coe Wx World := ⟨Wx.w⟩
abbrev W0 (w : World) : Wx := ⟨w, fun _ => none, fun _ => True, fun _ _ _ _ => trivial, fun _ _ _ _ _ _ => trivial⟩
/-- at a: an exception of the class at C that was caught, its dict at d -/
def exc (a : Addr) (c : Value) (d : Option Addr) : HO := .ext fun h => ∃ oe vs, h.get? a = some oe ∧ oe.cls = c ∧ oe.dict = d ∧ oe.data = .fields vs
inductive FVs (H : Hp) : List (Str × V) → List (Str × PyData) → Prop
  | nil : FVs H [] []
  | cons {f : Str} {v : V} {d : PyData} {vs : List (Str × V)} {ds : List (Str × PyData)} : DV H v d → FVs H vs ds → FVs H ((f, v) :: vs) ((f, d) :: ds)
theorem FVs.to {H H' : Hp} (s : Same H H') : ∀ {vs : List (Str × V)} {ds : List (Str × PyData)}, FVs H vs ds → FVs H' vs ds
  | _, _, .nil => .nil
  | _, _, .cons a r => .cons (DV.to a s) (FVs.to s r)
/-- the fields of an exception -/
def XF (H : Hp) (d : Option Addr) (fs : List (Str × PyData)) : Prop := match d with
  | none => fs = []
  | some dx => ∃ vs, H dx = some (.xd vs) ∧ FVs H vs fs
theorem XF.to {H H' : Hp} (s : Same H H') {d : Option Addr} {fs : List (Str × PyData)} (x : XF H d fs) : XF H' d fs := by
  cases d with
  | none => exact x
  | some dx =>
    obtain ⟨vs, h1, h2⟩ := x
    exact ⟨vs, s _ _ h1, h2.to s⟩
def XV (w : Wx) (H : Hp) (v : V) (x : Xn) : Prop := ∃ a C d, v = .ref a ∧ w.cl x.cls = some C ∧ H a = some (exc a (.ref C) d) ∧ XF H d x.fs
theorem XV.to {w : Wx} {H H' : Hp} {v : V} {x : Xn} (h : XV w H v x) (s : Same H H') : XV w H' v x := by
  obtain ⟨a, C, d, h1, h2, h3, h4⟩ := h
  exact ⟨a, C, d, h1, h2, s _ _ h3, h4.to s⟩
/-- the rows of a dict stand still -/
def KD (L : Hp) (xs : List DRow) : Prop := ∀ x ∈ xs, Sol L x.b (x.k.map V.int) ∧ DV L x.v x.d
theorem KD.to {L L' : Hp} {xs : List DRow} (s : Same L L') (h : KD L xs) : KD L' xs := fun x hx => ⟨(h x hx).1.to s, (h x hx).2.to s⟩
/-- the members of a set of tuples stand still; M: the members, some perhaps more than once -/
def TSM (L : Hp) (A : List (Addr × List Int)) (M : List (List Int)) : Prop := (∀ p ∈ A, Sol L p.1 (p.2.map V.int)) ∧ A.length ≤ M.length ∧ ∀ k, k ∈ A.map (·.2) ↔ k ∈ M
theorem TSM.to {L L' : Hp} {A : List (Addr × List Int)} {M : List (List Int)} (h : TSM L A M) (s : Same L L') : TSM L' A M := ⟨fun p hp => (h.1 p hp).to s, h.2⟩
def DVd (L : Hp) (v : V) (xs : List DRow) : Prop := ∃ a, v = .ref a ∧ IsDct L a xs ∧ KD L xs
theorem DVd.to {L L' : Hp} {v : V} {xs : List DRow} (s : Same L L') (h : DVd L v xs) : DVd L' v xs := by
  obtain ⟨a, h1, h2, h3⟩ := h
  obtain ⟨ob, h2⟩ := h2
  exact ⟨a, h1, ⟨ob, s _ _ h2⟩, h3.to s⟩
/-- a shared thing of any kind: what it is, in the heap that stands still -/
structure Gn where
  ok : Hp → V → Prop
  mono : ∀ {H H' : Hp} {v : V}, Same H H' → ok H v → ok H' v
inductive SV where
  | un | sh (d : PyData) | ow (ds : List PyData) | bx | st (S : Int → Bool) (n : Nat) | raw (v : V) | exn (x : Xn) | dco (xs : List DRow) | dsh (xs : List DRow) | sto (M : List (List Int)) | gen (g : Gn)
structure Env where
  s : List SV
  c : Nat
def Env.set (ε : Env) (i : Nat) (x : SV) : Env := ⟨ε.s.set i x, ε.c⟩
def Own : SV → Bool
  | .ow _ => true
  | .st _ _ => true
  | .dco _ => true
  | .sto _ => true
  | _ => false
def SlotR (w : Wx) (Z : Zx) (O : Addr → Prop) (L H : Hp) (o : Option V) : SV → Prop
  | .un => True
  | .sh d => ∃ v, o = some v ∧ DV L v d
  | .ow ds => ∃ a xs, o = some (.ref a) ∧ O a ∧ L a = none ∧ Z.H0 a = none ∧ H a = some (.lst xs) ∧ DVs L xs ds
  | .bx => ∃ b, Z.b = some b ∧ o = some (.ref b)
  | .st S n => ∃ a, o = some (.ref a) ∧ O a ∧ L a = none ∧ Z.H0 a = none ∧ H a = some (SetO w a S n)
  | .raw v => o = some v
  | .exn x => ∃ v, o = some v ∧ XV w L v x
  | .dco xs => ∃ a, o = some (.ref a) ∧ O a ∧ L a = none ∧ Z.H0 a = none ∧ IsDct H a xs ∧ KD L xs
  | .dsh xs => ∃ v, o = some v ∧ DVd L v xs
  | .gen g => ∃ v, o = some v ∧ g.ok L v
  | .sto M => ∃ a A, o = some (.ref a) ∧ O a ∧ L a = none ∧ Z.H0 a = none ∧ H a = some (SetTI w.w a A) ∧ TSM L A M
structure Rep (w : Wx) (Z : Zx) (O : Addr → Prop) (L H : Hp) (σ : L2.St) (ε : Env) : Prop where
  lh : Same L H
  pn : Same Z.P L
  ex : Ext Z.b Z.L0 Z.H0 L H
  bo : ∀ b, Z.b = some b → L b = none ∧ Box H b ε.c ∧ Z.H0 b ≠ none
  oh : ∀ a, O a → H a ≠ none ∧ Z.H0 a = none
  len : σ.length = ε.s.length
  sl : ∀ (i : Nat) (x : SV), ε.s[i]? = some x → ∃ o, σ[i]? = some o ∧ SlotR w Z O L H o x
  di : ∀ (i j : Nat) (x y : SV) (a : Addr), i ≠ j → ε.s[i]? = some x → ε.s[j]? = some y → Own x = true → Own y = true → σ[i]? = some (some (.ref a)) → σ[j]? ≠ some (some (.ref a))
  ph : w.Φ Z
inductive R where
  | sh (d : PyData) | nw (ds : List PyData) | br (i : Nat) (ds : List PyData) | bx | raw (v : V) | sr (i : Nat) (S : Int → Bool) (n : Nat) | exn (x : Xn) | dnw (xs : List DRow) | dbr (i : Nat) (xs : List DRow) | dsh (xs : List DRow) | srt (i : Nat) (M : List (List Int)) | gen (g : Gn)
def VR (w : Wx) (Z : Zx) (O : Addr → Prop) (σ : L2.St) (Hs L H : Hp) (v : V) : R → Prop
  | .sh d => DV L v d
  | .nw ds => ∃ a xs, v = .ref a ∧ Hs a = none ∧ ¬ O a ∧ Z.H0 a = none ∧ L a = none ∧ H a = some (.lst xs) ∧ DVs L xs ds
  | .br i ds => ∃ a xs, v = .ref a ∧ σ[i]? = some (some (.ref a)) ∧ O a ∧ Z.H0 a = none ∧ L a = none ∧ H a = some (.lst xs) ∧ DVs L xs ds
  | .bx => ∃ b, Z.b = some b ∧ v = .ref b
  | .raw u => v = u
  | .sr i S n => ∃ a, v = .ref a ∧ σ[i]? = some (some (.ref a)) ∧ O a ∧ Z.H0 a = none ∧ L a = none ∧ H a = some (SetO w a S n)
  | .exn x => XV w L v x
  | .dnw xs => ∃ a, v = .ref a ∧ Hs a = none ∧ ¬ O a ∧ Z.H0 a = none ∧ L a = none ∧ IsDct H a xs ∧ KD L xs
  | .dbr i xs => ∃ a, v = .ref a ∧ σ[i]? = some (some (.ref a)) ∧ O a ∧ Z.H0 a = none ∧ L a = none ∧ IsDct H a xs ∧ KD L xs
  | .dsh xs => DVd L v xs
  | .gen g => g.ok L v
  | .srt i M => ∃ a A, v = .ref a ∧ σ[i]? = some (some (.ref a)) ∧ O a ∧ Z.H0 a = none ∧ L a = none ∧ H a = some (SetTI w.w a A) ∧ TSM L A M
/-- as VR, for what operations give: nothing of the slots -/
def VR0 (Hs L H : Hp) (v : V) : R → Prop
  | .sh d => DV L v d
  | .nw ds => ∃ a xs, v = .ref a ∧ Hs a = none ∧ L a = none ∧ H a = some (.lst xs) ∧ DVs L xs ds
  | .dnw xs => ∃ a, v = .ref a ∧ Hs a = none ∧ L a = none ∧ IsDct H a xs ∧ KD L xs
  | .dsh xs => DVd L v xs
  | .gen g => g.ok L v
  | _ => False
section
variable {w : Wx} {Z : Zx} {O : Addr → Prop} {σ : L2.St} {ε : Env} {Hs L H L' H' : Hp} {v : V} {r : R}
theorem Rep.nob (x : Rep w Z O L H σ ε) {a : Addr} (h : Z.H0 a = none) : Z.b ≠ some a := fun e => (x.bo a e).2.2 h
theorem VR.mono (x : VR w Z O σ Hs L H v r) (y : Rep w Z O L H σ ε) (e : Ext Z.b L H L' H') : VR w Z O σ Hs L' H' v r := by
  cases r with
  | sh d => exact DV.to x e.ll
  | nw ds =>
    obtain ⟨a, xs, rfl, h1, h2, h3, h4, h5, h6⟩ := x
    exact ⟨a, xs, rfl, h1, h2, h3, e.fr a h4 (by rw [h5]; exact fun z => nomatch z), e.hh a _ h5 (y.nob h3), h6.to e.ll⟩
  | br i ds =>
    obtain ⟨a, xs, rfl, h1, h2, h3, h4, h5, h6⟩ := x
    exact ⟨a, xs, rfl, h1, h2, h3, e.fr a h4 (by rw [h5]; exact fun z => nomatch z), e.hh a _ h5 (y.nob h3), h6.to e.ll⟩
  | bx => exact x
  | raw u => exact x
  | exn y => exact XV.to x e.ll
  | sr i S n =>
    obtain ⟨a, rfl, h1, h2, h3, h4, h5⟩ := x
    exact ⟨a, rfl, h1, h2, h3, e.fr a h4 (by rw [h5]; exact fun z => nomatch z), e.hh a _ h5 (y.nob h3)⟩
  | dnw xs =>
    obtain ⟨a, rfl, h1, h2, h3, h4, ⟨ob, h5⟩, h6⟩ := x
    exact ⟨a, rfl, h1, h2, h3, e.fr a h4 (by rw [h5]; exact fun z => nomatch z), ⟨ob, e.hh a _ h5 (y.nob h3)⟩, h6.to e.ll⟩
  | dbr i xs =>
    obtain ⟨a, rfl, h1, h2, h3, h4, ⟨ob, h5⟩, h6⟩ := x
    exact ⟨a, rfl, h1, h2, h3, e.fr a h4 (by rw [h5]; exact fun z => nomatch z), ⟨ob, e.hh a _ h5 (y.nob h3)⟩, h6.to e.ll⟩
  | srt i M =>
    obtain ⟨a, A, rfl, h1, h2, h3, h4, h5, h6⟩ := x
    exact ⟨a, A, rfl, h1, h2, h3, e.fr a h4 (by rw [h5]; exact fun z => nomatch z), e.hh a _ h5 (y.nob h3), h6.to e.ll⟩
  | dsh xs => exact DVd.to e.ll x
  | gen g => exact g.mono e.ll x
theorem VR.back (x : VR w Z O σ Hs L H v r) {Hr Lr : Hp} (e : Ext Z.b Lr Hr L' Hs) : VR w Z O σ Hr L H v r := by
  cases r with
  | nw ds =>
    obtain ⟨a, xs, rfl, h1, h2, h3, h4, h5, h6⟩ := x
    exact ⟨a, xs, rfl, e.free h1, h2, h3, h4, h5, h6⟩
  | dnw xs =>
    obtain ⟨a, rfl, h1, h2, h3, h4, h5, h6⟩ := x
    exact ⟨a, rfl, e.free h1, h2, h3, h4, h5, h6⟩
  | _ => exact x
theorem VR0.vr (x : VR0 Hs L H v r) (y : Rep w Z O L' Hs σ ε) : VR w Z O σ Hs L H v r := by
  cases r with
  | sh d => exact x
  | nw ds =>
    obtain ⟨a, xs, rfl, h1, h4, h5, h6⟩ := x
    exact ⟨a, xs, rfl, h1, fun o => (y.oh a o).1 h1, y.ex.free h1, h4, h5, h6⟩
  | br i ds => exact x.elim
  | bx => exact x.elim
  | raw u => exact x.elim
  | sr i S n => exact x.elim
  | exn y => exact x.elim
  | dnw xs =>
    obtain ⟨a, rfl, h1, h4, h5, h6⟩ := x
    exact ⟨a, rfl, h1, fun o => (y.oh a o).1 h1, y.ex.free h1, h4, h5, h6⟩
  | dbr i xs => exact x.elim
  | srt i M => exact x.elim
  | dsh xs => exact x
  | gen g => exact x
/-- what an operation leaves, the slots hold -/
theorem Rep.step (x : Rep w Z O L H σ ε) (e : Ext none L H L' H') (s : Same L' H') : Rep w Z O L' H' σ ε := by
  have hh : ∀ a o, H a = some o → H' a = some o := fun a o h => e.hh a o h fun z => nomatch z
  refine ⟨s, x.pn.trans e.ll, x.ex.trans e.any, fun b hb => ?_, fun a h => ⟨e.dom a (x.oh a h).1, (x.oh a h).2⟩, x.len, fun i y hy => ?_, x.di, x.ph⟩
  · obtain ⟨h1, h2, h3⟩ := x.bo b hb
    refine ⟨e.fr b h1 h2.there, ?_, h3⟩
    obtain ⟨x0, x1, x2, q, r⟩ := h2
    exact ⟨x0, x1, x2, hh _ _ q, r⟩
  · obtain ⟨o, h1, h2⟩ := x.sl i y hy
    refine ⟨o, h1, ?_⟩
    cases y with
    | un => trivial
    | sh d =>
      obtain ⟨v, e1, e2⟩ := h2
      exact ⟨v, e1, e2.to e.ll⟩
    | ow ds =>
      obtain ⟨a, xs, e1, e2, e3, e4, e5, e6⟩ := h2
      exact ⟨a, xs, e1, e2, e.fr a e3 (by rw [e5]; exact fun z => nomatch z), e4, hh _ _ e5, e6.to e.ll⟩
    | bx => exact h2
    | st S n =>
      obtain ⟨a, e1, e2, e3, e4, e5⟩ := h2
      exact ⟨a, e1, e2, e.fr a e3 (by rw [e5]; exact fun z => nomatch z), e4, hh _ _ e5⟩
    | raw u => exact h2
    | exn x => obtain ⟨v, e1, e2⟩ := h2; exact ⟨v, e1, e2.to e.ll⟩
    | dco xs =>
      obtain ⟨a, e1, e2, e3, e4, ⟨ob, e5⟩, e6⟩ := h2
      exact ⟨a, e1, e2, e.fr a e3 (by rw [e5]; exact fun z => nomatch z), e4, ⟨ob, hh _ _ e5⟩, e6.to e.ll⟩
    | sto M =>
      obtain ⟨a, A, e1, e2, e3, e4, e5, e6⟩ := h2
      exact ⟨a, A, e1, e2, e.fr a e3 (by rw [e5]; exact fun z => nomatch z), e4, hh _ _ e5, e6.to e.ll⟩
    | dsh xs => obtain ⟨v, e1, e2⟩ := h2; exact ⟨v, e1, e2.to e.ll⟩
    | gen g => obtain ⟨v, e1, e2⟩ := h2; exact ⟨v, e1, g.mono e.ll e2⟩
/-- what was held apart is as before -/
theorem VR.thaw0 {Z : Zx} {a0 : Addr} {o : HO} (h : VR w { Z with H0 := upd Z.H0 a0 o } O σ Hs L H v r) : VR w Z O σ Hs L H v r := by
  have back : ∀ b, upd Z.H0 a0 o b = none → Z.H0 b = none := fun b e => by
    by_cases q : b = a0
    · rw [q, upd_same] at e; cases e
    · rw [upd_ne q] at e; exact e
  cases r with
  | nw ds =>
    obtain ⟨a, xs, rfl, h1, h2, h3, h4⟩ := h
    exact ⟨a, xs, rfl, h1, h2, back a h3, h4⟩
  | br i ds =>
    obtain ⟨a, xs, rfl, h1, h2, h3, h4⟩ := h
    exact ⟨a, xs, rfl, h1, h2, back a h3, h4⟩
  | sr i S n =>
    obtain ⟨a, rfl, h1, h2, h3, h4⟩ := h
    exact ⟨a, rfl, h1, h2, back a h3, h4⟩
  | dnw xs =>
    obtain ⟨a, rfl, h1, h2, h3, h4⟩ := h
    exact ⟨a, rfl, h1, h2, back a h3, h4⟩
  | dbr i xs =>
    obtain ⟨a, rfl, h1, h2, h3, h4⟩ := h
    exact ⟨a, rfl, h1, h2, back a h3, h4⟩
  | srt i M =>
    obtain ⟨a, A, rfl, h1, h2, h3, h4⟩ := h
    exact ⟨a, A, rfl, h1, h2, back a h3, h4⟩
  | _ => exact h
theorem Rep.thaw0 {Z : Zx} {a0 : Addr} {o : HO} (h0 : Z.H0 a0 = none) (hb : Z.b ≠ some a0) (ph : w.Φ Z) (x : Rep w { Z with H0 := upd Z.H0 a0 o } O L H σ ε) : Rep w Z O L H σ ε := by
  have back : ∀ b, upd Z.H0 a0 o b = none → Z.H0 b = none := fun b e => by
    by_cases q : b = a0
    · rw [q, upd_same] at e; cases e
    · rw [upd_ne q] at e; exact e
  have up : ∀ b u, Z.H0 b = some u → upd Z.H0 a0 o b = some u := fun b u e => by
    by_cases q : b = a0
    · rw [q, h0] at e; cases e
    · rw [upd_ne q]; exact e
  have upn : ∀ b, Z.H0 b ≠ none → upd Z.H0 a0 o b ≠ none := fun b e => by
    by_cases q : b = a0
    · rw [q, upd_same]; exact fun z => nomatch z
    · rw [upd_ne q]; exact e
  refine ⟨x.lh, x.pn, ⟨x.ex.ll, fun b u e nb => x.ex.hh b u (up b u e) nb, fun b e => x.ex.dom b (upn b e), fun b l e => x.ex.fr b l (upn b e)⟩, fun b e => ?_, fun b e => ⟨(x.oh b e).1, back b (x.oh b e).2⟩, x.len, fun i y hy => ?_, x.di, ph⟩
  · obtain ⟨q1, q2, q3⟩ := x.bo b e
    refine ⟨q1, q2, ?_⟩
    have ne : b ≠ a0 := fun q => hb (by rw [← q]; exact e)
    have q3 : upd Z.H0 a0 o b ≠ none := q3
    rw [upd_ne ne] at q3
    exact q3
  · obtain ⟨u, q1, q2⟩ := x.sl i y hy
    refine ⟨u, q1, ?_⟩
    cases y with
    | ow ds =>
      obtain ⟨b, xs, e1, e2, e3, e4, e5⟩ := q2
      exact ⟨b, xs, e1, e2, e3, back b e4, e5⟩
    | st S n =>
      obtain ⟨b, e1, e2, e3, e4, e5⟩ := q2
      exact ⟨b, e1, e2, e3, back b e4, e5⟩
    | dco xs =>
      obtain ⟨b, e1, e2, e3, e4, e5⟩ := q2
      exact ⟨b, e1, e2, e3, back b e4, e5⟩
    | sto M =>
      obtain ⟨b, A, e1, e2, e3, e4, e5⟩ := q2
      exact ⟨b, A, e1, e2, e3, back b e4, e5⟩
    | _ => exact q2
/-- a new list that nobody holds is published -/
theorem pub (x : Rep w Z O L' H' σ ε) (e : Ext Z.b L H L' H') {ds : List PyData} (h : VR w Z O σ H L' H' v (.nw ds)) : ∃ L2, Rep w Z O L2 H' σ ε ∧ Ext Z.b L H L2 H' ∧ DV L2 v (.list ds) := by
  obtain ⟨a, xs, rfl, h1, h2, h3, h4, h5, h6⟩ := h
  have s1 : Same L' (upd L' a (.lst xs)) := same_upd h4
  refine ⟨upd L' a (.lst xs), ⟨same_pub x.lh h5, x.pn.trans s1, ⟨x.ex.ll.trans s1, x.ex.hh, x.ex.dom, fun b hb hd => ?_⟩, fun b hb => ?_, x.oh, x.len, fun i y hy => ?_, x.di, x.ph⟩, ⟨e.ll.trans s1, e.hh, e.dom, fun b hb hd => ?_⟩, .lst upd_same (h6.to s1)⟩
  · rw [upd_ne (ne_at hd h3)]; exact x.ex.fr b hb hd
  · obtain ⟨q1, q2, q3⟩ := x.bo b hb
    exact ⟨by rw [upd_ne (ne_at q3 h3)]; exact q1, q2, q3⟩
  · obtain ⟨o, q1, q2⟩ := x.sl i y hy
    refine ⟨o, q1, ?_⟩
    cases y with
    | un => trivial
    | sh d =>
      obtain ⟨v, e1, e2⟩ := q2
      exact ⟨v, e1, e2.to s1⟩
    | ow ds =>
      obtain ⟨b, ys, e1, e2, e3, e4, e5, e6⟩ := q2
      exact ⟨b, ys, e1, e2, by rw [upd_ne (fun z => h2 (by rw [← z]; exact e2))]; exact e3, e4, e5, e6.to s1⟩
    | bx => exact q2
    | st S n =>
      obtain ⟨b, e1, e2, e3, e4, e5⟩ := q2
      exact ⟨b, e1, e2, by rw [upd_ne (fun z => h2 (by rw [← z]; exact e2))]; exact e3, e4, e5⟩
    | raw u => exact q2
    | exn x => obtain ⟨v, e1, e2⟩ := q2; exact ⟨v, e1, e2.to s1⟩
    | dco xs =>
      obtain ⟨b, e1, e2, e3, e4, e5, e6⟩ := q2
      exact ⟨b, e1, e2, by rw [upd_ne (fun z => h2 (by rw [← z]; exact e2))]; exact e3, e4, e5, e6.to s1⟩
    | sto M =>
      obtain ⟨b, A, e1, e2, e3, e4, e5, e6⟩ := q2
      exact ⟨b, A, e1, e2, by rw [upd_ne (fun z => h2 (by rw [← z]; exact e2))]; exact e3, e4, e5, e6.to s1⟩
    | dsh xs => obtain ⟨v, e1, e2⟩ := q2; exact ⟨v, e1, e2.to s1⟩
    | gen g => obtain ⟨v, e1, e2⟩ := q2; exact ⟨v, e1, g.mono s1 e2⟩
  · rw [upd_ne (ne_at hd h1)]; exact e.fr b hb hd
end
/-- a value as data, its own list (if it is one) as it stands in H -/
def VL (L H : Hp) (v : V) (d : PyData) : Prop := DV L v d ∨ ∃ a xs ds, d = .list ds ∧ v = .ref a ∧ H a = some (.lst xs) ∧ DVs L xs ds
section
variable {L H : Hp} {v : V}
theorem VL.dv {d : PyData} (x : VL L H v d) (s : Same L H) : DV H v d := by
  rcases x with x | ⟨a, xs, ds, rfl, rfl, h, r⟩
  · exact x.to s
  · exact .lst h (r.to s)
theorem VL.lst {ds : List PyData} (x : VL L H v (.list ds)) (s : Same L H) : ∃ a xs, v = .ref a ∧ H a = some (.lst xs) ∧ DVs L xs ds := by
  rcases x with x | ⟨a, xs, es, e, rfl, h, r⟩
  · cases x with
    | lst h r => exact ⟨_, _, rfl, s _ _ h, r⟩
  · cases e; exact ⟨a, xs, rfl, h, r⟩
theorem VL.tup {ds : List PyData} (x : VL L H v (.tuple ds)) : ∃ a xs, v = .ref a ∧ Sol L a xs ∧ DVs L xs ds := by
  rcases x with x | ⟨a, xs, es, e, rfl, h, r⟩
  · cases x with
    | tup h r => exact ⟨_, _, rfl, h, r⟩
  · cases e
theorem VL.int {i : Int} (x : VL L H v (.int i)) : v = .int i := by
  rcases x with x | ⟨a, xs, es, e, _⟩
  · cases x; rfl
  · cases e
theorem VL.bl {i : Bool} (x : VL L H v (.bool i)) : v = .bl i := by
  rcases x with x | ⟨a, xs, es, e, _⟩
  · cases x; rfl
  · cases e
theorem VL.str {i : Str} (x : VL L H v (.str i)) : v = .str i := by
  rcases x with x | ⟨a, xs, es, e, _⟩
  · cases x; rfl
  · cases e
theorem VL.non (x : VL L H v .none) : v = .non := by
  rcases x with x | ⟨a, xs, es, e, _⟩
  · cases x; rfl
  · cases e
end
/-- as data, a pair just made by a walk taken as it stands -/
def VT (L H : Hp) (v : V) (d : PyData) : Prop := DV L v d ∨ ∃ a xs ds, d = .tuple ds ∧ v = .ref a ∧ H a = some (.tup xs) ∧ DVs L xs ds
def VI (pk : Bool) (L H : Hp) (v : V) (d : PyData) : Prop := match pk with
  | true => VT L H v d
  | false => DV L v d
theorem VI.of {pk : Bool} {L H : Hp} {v : V} {d : PyData} (h : DV L v d) : VI pk L H v d := by
  cases pk with
  | true => exact .inl h
  | false => exact h
def R.dat : R → Option PyData
  | .sh d => some d
  | .nw ds => some (.list ds)
  | .br _ ds => some (.list ds)
  | _ => none
theorem VR.vl {w : Wx} {Z : Zx} {O : Addr → Prop} {σ : L2.St} {Hs L H : Hp} {v : V} {r : R} {d : PyData} (x : VR w Z O σ Hs L H v r) (e : r.dat = some d) : VL L H v d := by
  cases r with
  | sh d => cases e; exact .inl x
  | nw ds =>
    cases e
    obtain ⟨a, xs, rfl, h1, h2, h3, h4, h5, h6⟩ := x
    exact .inr ⟨a, xs, ds, rfl, rfl, h5, h6⟩
  | br i ds =>
    cases e
    obtain ⟨a, xs, rfl, h1, h2, h3, h4, h5, h6⟩ := x
    exact .inr ⟨a, xs, ds, rfl, rfl, h5, h6⟩
  | bx => cases e
  | raw u => cases e
  | sr i S n => cases e
  | exn y => cases e
  | dnw xs => cases e
  | dbr i xs => cases e
  | srt i M => cases e
  | dsh xs => cases e
  | gen g => cases e
end Lp

namespace Lp
open PySem PySem.Spec PyProof.Rows L2
abbrev DTE := Env → (R → Env → Prop) → Prop
abbrev DTT := Env → (Bool → Env → Prop) → Prop
abbrev DTA := Env → (List R → Env → Prop) → Prop
structure SE (w : Wx) (t : TE) (f : DTE) : Prop where
  mono : ∀ ε (A B : R → Env → Prop), (∀ r ε', A r ε' → B r ε') → f ε A → f ε B
  run : ∀ (Z : Zx) (O : Addr → Prop) (σ : L2.St) (ε : Env) (L H : Hp) (Q : VK), Rep w Z O L H σ ε → f ε (fun r ε' => ∀ v L' H', Rep w Z O L' H' σ ε' → Ext Z.b L H L' H' → VR w Z O σ H L' H' v r → Q v H') → t σ H Q
structure ST (w : Wx) (t : TT) (f : DTT) : Prop where
  mono : ∀ ε (A B : Bool → Env → Prop), (∀ r ε', A r ε' → B r ε') → f ε A → f ε B
  run : ∀ (Z : Zx) (O : Addr → Prop) (σ : L2.St) (ε : Env) (L H : Hp) (Q : Bool → Hp → Prop), Rep w Z O L H σ ε → f ε (fun b ε' => ∀ L' H', Rep w Z O L' H' σ ε' → Ext Z.b L H L' H' → Q b H') → t σ H Q
inductive VRs (w : Wx) (Z : Zx) (O : Addr → Prop) (σ : L2.St) (Hs L H : Hp) : List V → List R → Prop
  | nil : VRs w Z O σ Hs L H [] []
  | cons {v : V} {vs : List V} {r : R} {rs : List R} : VR w Z O σ Hs L H v r → VRs w Z O σ Hs L H vs rs → VRs w Z O σ Hs L H (v :: vs) (r :: rs)
/-- n arguments, each published -/
structure SA (w : Wx) (n : Nat) (t : TA) (f : DTA) : Prop where
  mono : ∀ ε (A B : List R → Env → Prop), (∀ r ε', A r ε' → B r ε') → f ε A → f ε B
  run : ∀ (Z : Zx) (O : Addr → Prop) (σ : L2.St) (ε : Env) (L H : Hp) (Q : List V → Hp → Prop), Rep w Z O L H σ ε → f ε (fun rs ε' => ∀ vs L' H', Rep w Z O L' H' σ ε' → Ext Z.b L H L' H' → VRs w Z O σ H L' H' vs rs → rs.length = n → (∀ r ∈ rs, ∀ ds, r ≠ .nw ds) → Q vs H') → t σ H Q
section
variable {w : Wx} {ta tb tc : TE} {f g h : DTE}
theorem VRs.mono {Z : Zx} {O : Addr → Prop} {σ : L2.St} {ε : Env} {Hs L H L' H' : Hp} (y : Rep w Z O L H σ ε) (e : Ext Z.b L H L' H') : ∀ {vs : List V} {rs : List R}, VRs w Z O σ Hs L H vs rs → VRs w Z O σ Hs L' H' vs rs
  | _, _, .nil => .nil
  | _, _, .cons a r => .cons (a.mono y e) (VRs.mono y e r)
theorem VRs.back {Z : Zx} {O : Addr → Prop} {σ : L2.St} {Hs L H L' Hr Lr : Hp} (e : Ext Z.b Lr Hr L' Hs) : ∀ {vs : List V} {rs : List R}, VRs w Z O σ Hs L H vs rs → VRs w Z O σ Hr L H vs rs
  | _, _, .nil => .nil
  | _, _, .cons a r => .cons (a.back e) (VRs.back e r)
theorem VRs.len {Z : Zx} {O : Addr → Prop} {σ : L2.St} {Hs L H : Hp} : ∀ {vs : List V} {rs : List R}, VRs w Z O σ Hs L H vs rs → vs.length = rs.length
  | _, _, .nil => rfl
  | _, _, .cons _ r => by rw [List.length_cons, List.length_cons, r.len]
def dVar (i : Nat)  (ε : Env) (Q : R → Env → Prop) : Prop := match ε.s[i]? with
  | some (.sh d) => Q (.sh d) ε
  | some (.ow ds) => Q (.br i ds) ε
  | some .bx => Q .bx ε
  | some (.raw v) => Q (.raw v) ε
  | some (.st S n) => Q (.sr i S n) ε
  | some (.exn x) => Q (.exn x) ε
  | some (.dco xs) => Q (.dbr i xs) ε
  | some (.sto M) => Q (.srt i M) ε
  | some (.dsh xs) => Q (.dsh xs) ε
  | some (.gen g) => Q (.gen g) ε
  | _ => False
theorem se_var {i : Nat} : SE w (tVar i) (dVar i) := by
  constructor
  · intro ε A B h q
    unfold dVar at q ⊢
    split at q
    all_goals first | exact h _ _ q | exact q.elim
  · intro Z O σ ε L H Q x q
    unfold dVar at q
    have e0 := Ext.refl Z.b L H
    split at q
    · rename_i d hd
      obtain ⟨o, h1, v, h2, h3⟩ := x.sl i _ hd
      subst h2
      exact ⟨v, h1, q v L H x e0 h3⟩
    · rename_i ds hd
      obtain ⟨o, h1, a, xs, h2, h3, h4, h5, h6, h7⟩ := x.sl i _ hd
      subst h2
      exact ⟨.ref a, h1, q _ L H x e0 ⟨a, xs, rfl, h1, h3, h5, h4, h6, h7⟩⟩
    · rename_i hd
      obtain ⟨o, h1, b, h2, h3⟩ := x.sl i _ hd
      subst h3
      exact ⟨.ref b, h1, q _ L H x e0 ⟨b, h2, rfl⟩⟩
    · rename_i v hd
      obtain ⟨o, h1, h2⟩ := x.sl i _ hd
      have h2' : o = some v := h2
      subst h2'
      exact ⟨v, h1, q _ L H x e0 rfl⟩
    · rename_i S n hd
      obtain ⟨o, h1, a, h2, h3, h4, h5, h6⟩ := x.sl i _ hd
      subst h2
      exact ⟨.ref a, h1, q _ L H x e0 ⟨a, rfl, h1, h3, h5, h4, h6⟩⟩
    · rename_i y hd
      obtain ⟨o, h1, v, h2, h3⟩ := x.sl i _ hd
      subst h2
      exact ⟨v, h1, q v L H x e0 h3⟩
    · rename_i xs hd
      obtain ⟨o, h1, a, h2, h3, h4, h5, h6, h7⟩ := x.sl i _ hd
      subst h2
      exact ⟨.ref a, h1, q _ L H x e0 ⟨a, rfl, h1, h3, h5, h4, h6, h7⟩⟩
    · rename_i M hd
      obtain ⟨o, h1, a, A, h2, h3, h4, h5, h6, h7⟩ := x.sl i _ hd
      subst h2
      exact ⟨.ref a, h1, q _ L H x e0 ⟨a, A, rfl, h1, h3, h5, h4, h6, h7⟩⟩
    · rename_i xs hd
      obtain ⟨o, h1, v, h2, h3⟩ := x.sl i _ hd
      subst h2
      exact ⟨v, h1, q v L H x e0 h3⟩
    · rename_i g hd
      obtain ⟨o, h1, v, h2, h3⟩ := x.sl i _ hd
      subst h2
      exact ⟨v, h1, q v L H x e0 h3⟩
    · exact q.elim
def dC (d : PyData)  (ε : Env) (Q : R → Env → Prop) : Prop := Q (.sh d) ε
theorem se_int {i : Int} : SE w (tC (.int i)) (dC (.int i)) := ⟨fun ε A B h q => h _ _ q, fun Z O σ ε L H Q x q => q _ L H x (Ext.refl _ _ _) (.int i)⟩
theorem se_bl {i : Bool} : SE w (tC (.bl i)) (dC (.bool i)) := ⟨fun ε A B h q => h _ _ q, fun Z O σ ε L H Q x q => q _ L H x (Ext.refl _ _ _) (.bl i)⟩
theorem se_non : SE w (tC .non) (dC .none) := ⟨fun ε A B h q => h _ _ q, fun Z O σ ε L H Q x q => q _ L H x (Ext.refl _ _ _) .non⟩
def dRaw (v : V)  (ε : Env) (Q : R → Env → Prop) : Prop := Q (.raw v) ε
structure R2K (r : R2) (φ : PyData → PyData → (R → Prop) → Prop) : Prop where
  mono : ∀ x y (A B : R → Prop), (∀ r, A r → B r) → φ x y A → φ x y B
  run : ∀ (L H : Hp) (x y : V) (dx dy : PyData) (Q : VK), Same L H → VL L H x dx → VL L H y dy → φ dx dy (fun r => ∀ v L' H', Ext none L H L' H' → Same L' H' → VR0 H L' H' v r → Q v H') → r x y H Q
def dOp (φ : PyData → PyData → (R → Prop) → Prop) (f g : DTE)  (ε : Env) (Q : R → Env → Prop) : Prop := f ε fun x ε1 => g ε1 fun y ε2 => match x.dat, y.dat with
  | some dx, some dy => φ dx dy fun r => Q r ε2
  | _, _ => False
theorem se_op {r : R2} {φ : PyData → PyData → (R → Prop) → Prop} (k : R2K r φ) (hf : SE w ta f) (hg : SE w tb g) : SE w (tOp r ta tb) (dOp φ f g) := by
  constructor
  · intro ε A B h q
    refine hf.mono _ _ _ (fun x ε1 q => hg.mono _ _ _ (fun y ε2 q => ?_) q) q
    show match x.dat, y.dat with
      | some dx, some dy => φ dx dy fun r => B r ε2
      | _, _ => False
    split at q
    · exact k.mono _ _ _ _ (fun r q => h _ _ q) q
    · exact q.elim
  · intro Z O σ ε L H Q X q
    refine hf.run Z O σ ε L H _ X (hf.mono _ _ _ (fun x ε1 q => ?_) q)
    intro v L1 H1 X1 e1 r1
    refine hg.run Z O σ ε1 L1 H1 _ X1 (hg.mono _ _ _ (fun y ε2 q => ?_) q)
    intro u L2 H2 X2 e2 r2
    have r1' := r1.mono X1 e2
    split at q
    · rename_i dx dy ex ey
      refine k.run L2 H2 v u dx dy Q X2.lh (r1'.vl ex) (r2.vl ey) (k.mono _ _ _ _ (fun r q => ?_) q)
      intro z L3 H3 e3 s3 r3
      exact q z L3 H3 (X2.step e3 s3) ((e1.trans e2).trans e3.any) ((r3.vr X2).back (e1.trans e2))
    · exact q.elim
structure RUK (r : V → Hp → VK → Prop) (φ : PyData → (R → Prop) → Prop) : Prop where
  mono : ∀ x (A B : R → Prop), (∀ r, A r → B r) → φ x A → φ x B
  run : ∀ (L H : Hp) (x : V) (dx : PyData) (Q : VK), Same L H → VL L H x dx → φ dx (fun r => ∀ v L' H', Ext none L H L' H' → Same L' H' → VR0 H L' H' v r → Q v H') → r x H Q
def dUn (φ : PyData → (R → Prop) → Prop) (f : DTE)  (ε : Env) (Q : R → Env → Prop) : Prop := f ε fun x ε1 => match x.dat with
  | some dx => φ dx fun r => Q r ε1
  | _ => False
theorem se_un {r : V → Hp → VK → Prop} {φ : PyData → (R → Prop) → Prop} (k : RUK r φ) (hf : SE w ta f) : SE w (tUn r ta) (dUn φ f) := by
  constructor
  · intro ε A B h q
    refine hf.mono _ _ _ (fun x ε1 q => ?_) q
    show match x.dat with
      | some dx => φ dx fun r => B r ε1
      | _ => False
    split at q
    · exact k.mono _ _ _ (fun r q => h _ _ q) q
    · exact q.elim
  · intro Z O σ ε L H Q X q
    refine hf.run Z O σ ε L H _ X (hf.mono _ _ _ (fun x ε1 q => ?_) q)
    intro v L1 H1 X1 e1 r1
    split at q
    · rename_i dx ex
      refine k.run L1 H1 v dx Q X1.lh (r1.vl ex) (k.mono _ _ _ (fun r q => ?_) q)
      intro z L3 H3 e3 s3 r3
      exact q z L3 H3 (X1.step e3 s3) (e1.trans e3.any) ((r3.vr X1).back e1)
    · exact q.elim
def dTest (f : DTE)  (ε : Env) (Q : Bool → Env → Prop) : Prop := f ε fun r ε1 => match r.dat with
  | some (.bool k) => Q k ε1
  | _ => False
theorem st_test (hf : SE w ta f) : ST w (tTest ta) (dTest f) := by
  constructor
  · intro ε A B h q
    refine hf.mono _ _ _ (fun r ε1 q => ?_) q
    show match r.dat with
      | some (.bool k) => B k ε1
      | _ => False
    split at q
    · exact h _ _ q
    · exact q.elim
  · intro Z O σ ε L H Q X q
    refine hf.run Z O σ ε L H _ X (hf.mono _ _ _ (fun r ε1 q => ?_) q)
    intro v L1 H1 X1 e1 r1
    split at q
    · rename_i k ek
      exact ⟨k, (r1.vl ek).bl, q L1 H1 X1 e1⟩
    · exact q.elim
def truD : PyData → Option Bool
  | .none => some false
  | .bool b => some b
  | .int i => some (i != 0)
  | .list ds => some (!ds.isEmpty)
  | .tuple ds => some (!ds.isEmpty)
  | _ => none
theorem isE {H : Hp} {xs : List V} {ds : List PyData} (h : DVs H xs ds) : xs.isEmpty = ds.isEmpty := by cases h <;> rfl
def dTruth (f : DTE)  (ε : Env) (Q : Bool → Env → Prop) : Prop := f ε fun r ε1 => match r.dat.bind truD with
  | some k => Q k ε1
  | _ => False
theorem tru_of {K : PySem.W.Frag} {L H : Hp} {v : V} {d : PyData} {k : Bool} (x : VL L H v d) (s : Same L H) (e : truD d = some k) : TruV K v H k := by
  cases d with
  | none => rw [x.non]; cases e; rfl
  | bool b => rw [x.bl]; cases e; rfl
  | int i => rw [x.int]; cases e; rfl
  | list ds =>
    obtain ⟨a, xs, rfl, h1, h2⟩ := x.lst s
    cases e
    exact .inl ⟨xs, SqL.of h1, by rw [isE h2]⟩
  | tuple ds =>
    obtain ⟨a, xs, rfl, h1, h2⟩ := x.tup
    cases e
    exact .inr (.inl ⟨xs, (h1.to s).seq, by rw [isE h2]⟩)
  | str _ => cases e
  | dict _ => cases e
theorem st_truth {K : PySem.W.Frag} (hf : SE w ta f) : ST w (fun σ H Q => ta σ H fun x H1 => ∃ k, TruV K x H1 k ∧ Q k H1) (dTruth f) := by
  constructor
  · intro ε A B h q
    refine hf.mono _ _ _ (fun r ε1 q => ?_) q
    show match r.dat.bind truD with
      | some k => B k ε1
      | _ => False
    split at q
    · exact h _ _ q
    · exact q.elim
  · intro Z O σ ε L H Q X q
    refine hf.run Z O σ ε L H _ X (hf.mono _ _ _ (fun r ε1 q => ?_) q)
    intro v L1 H1 X1 e1 r1
    split at q
    · rename_i k ek
      cases ed : r.dat with
      | none => rw [ed] at ek; cases ek
      | some d =>
        rw [ed] at ek
        exact ⟨k, tru_of (r1.vl ed) X1.lh ek, q L1 H1 X1 e1⟩
    · exact q.elim
def dAnd (f g : DTT)  (ε : Env) (Q : Bool → Env → Prop) : Prop := f ε fun c ε1 => if c = true then g ε1 Q else Q false ε1
def dOr (f g : DTT)  (ε : Env) (Q : Bool → Env → Prop) : Prop := f ε fun c ε1 => if c = true then Q true ε1 else g ε1 Q
def dNot (f : DTT)  (ε : Env) (Q : Bool → Env → Prop) : Prop := f ε fun c ε1 => Q (!c) ε1
variable {t u : TT} {p q : DTT}
theorem st_or (hf : ST w t p) (hg : ST w u q) : ST w (tOr t u) (dOr p q) := by
  constructor
  · intro ε A B h z
    refine hf.mono _ _ _ (fun c ε1 z => ?_) z
    cases c with
    | false => exact iteF (hg.mono _ _ _ h (by rw [if_neg Bool.false_ne_true] at z; exact z))
    | true => exact iteT (h _ _ (by rw [if_pos rfl] at z; exact z))
  · intro Z O σ ε L H Q X z
    refine hf.run Z O σ ε L H _ X (hf.mono _ _ _ (fun c ε1 z => ?_) z)
    intro L1 H1 X1 e1
    cases c with
    | false =>
      rw [if_neg Bool.false_ne_true] at z
      exact iteF (hg.run Z O σ ε1 L1 H1 _ X1 (hg.mono _ _ _ (fun b ε2 z L2 H2 X2 e2 => z L2 H2 X2 (e1.trans e2)) z))
    | true =>
      rw [if_pos rfl] at z
      exact iteT (z L1 H1 X1 e1)
theorem st_not (hf : ST w t p) : ST w (tNot t) (dNot p) := by
  constructor
  · intro ε A B h z
    exact hf.mono _ _ _ (fun c ε1 z => h _ _ z) z
  · intro Z O σ ε L H Q X z
    exact hf.run Z O σ ε L H _ X z
def dYes  (ε : Env) (Q : Bool → Env → Prop) : Prop := Q true ε
theorem st_yes : ST w tYes dYes := ⟨fun ε A B h q => h _ _ q, fun Z O σ ε L H Q X z => z L H X (Ext.refl _ _ _)⟩
def dIf (c : DTT) (f g : DTE)  (ε : Env) (Q : R → Env → Prop) : Prop := c ε fun b ε1 => if b = true then f ε1 Q else g ε1 Q
theorem se_if (hc : ST w t p) (hf : SE w ta f) (hg : SE w tb g) : SE w (tIf t ta tb) (dIf p f g) := by
  constructor
  · intro ε A B h z
    refine hc.mono _ _ _ (fun c ε1 z => ?_) z
    cases c with
    | false => exact iteF (hg.mono _ _ _ h (by rw [if_neg Bool.false_ne_true] at z; exact z))
    | true => exact iteT (hf.mono _ _ _ h (by rw [if_pos rfl] at z; exact z))
  · intro Z O σ ε L H Q X z
    refine hc.run Z O σ ε L H _ X (hc.mono _ _ _ (fun c ε1 z => ?_) z)
    intro L1 H1 X1 e1
    cases c with
    | false =>
      rw [if_neg Bool.false_ne_true] at z
      exact iteF (hg.run Z O σ ε1 L1 H1 _ X1 (hg.mono _ _ _ (fun b ε2 z v L2 H2 X2 e2 r => z v L2 H2 X2 (e1.trans e2) (r.back e1)) z))
    | true =>
      rw [if_pos rfl] at z
      exact iteT (hf.run Z O σ ε1 L1 H1 _ X1 (hf.mono _ _ _ (fun b ε2 z v L2 H2 X2 e2 r => z v L2 H2 X2 (e1.trans e2) (r.back e1)) z))
def dAndV (f g : DTE)  (ε : Env) (Q : R → Env → Prop) : Prop := f ε fun r ε1 => match r.dat with
  | some (.bool k) => if k = true then g ε1 Q else Q (.sh (.bool false)) ε1
  | _ => False
def dOrV (f g : DTE)  (ε : Env) (Q : R → Env → Prop) : Prop := f ε fun r ε1 => match r.dat with
  | some (.bool k) => if k = true then Q (.sh (.bool true)) ε1 else g ε1 Q
  | _ => False
def dNotV (f : DTE)  (ε : Env) (Q : R → Env → Prop) : Prop := f ε fun r ε1 => match r.dat with
  | some (.bool b) => Q (.sh (.bool (!b))) ε1
  | _ => False
theorem se_andV (hf : SE w ta f) (hg : SE w tb g) : SE w (tAndV ta tb) (dAndV f g) := by
  constructor
  · intro ε A B h z
    refine hf.mono _ _ _ (fun r ε1 z => ?_) z
    split at z
    · rename_i k _
      cases k with
      | true => exact iteT (hg.mono _ _ _ h (by rw [if_pos rfl] at z; exact z))
      | false => exact iteF (h _ _ (by rw [if_neg Bool.false_ne_true] at z; exact z))
    · exact z.elim
  · intro Z O σ ε L H Q X z
    refine hf.run Z O σ ε L H _ X (hf.mono _ _ _ (fun r ε1 z => ?_) z)
    intro v L1 H1 X1 e1 r1
    split at z
    · rename_i k ek
      cases k with
      | true =>
        rw [if_pos rfl] at z
        exact ⟨true, (r1.vl ek).bl, iteT (hg.run Z O σ ε1 L1 H1 _ X1 (hg.mono _ _ _ (fun b ε2 z v L2 H2 X2 e2 r => z v L2 H2 X2 (e1.trans e2) (r.back e1)) z))⟩
      | false =>
        rw [if_neg Bool.false_ne_true] at z
        exact ⟨false, (r1.vl ek).bl, iteF (z _ L1 H1 X1 e1 (.bl false))⟩
    · exact z.elim
theorem se_orV (hf : SE w ta f) (hg : SE w tb g) : SE w (tOrV ta tb) (dOrV f g) := by
  constructor
  · intro ε A B h z
    refine hf.mono _ _ _ (fun r ε1 z => ?_) z
    split at z
    · rename_i k _
      cases k with
      | false => exact iteF (hg.mono _ _ _ h (by rw [if_neg Bool.false_ne_true] at z; exact z))
      | true => exact iteT (h _ _ (by rw [if_pos rfl] at z; exact z))
    · exact z.elim
  · intro Z O σ ε L H Q X z
    refine hf.run Z O σ ε L H _ X (hf.mono _ _ _ (fun r ε1 z => ?_) z)
    intro v L1 H1 X1 e1 r1
    split at z
    · rename_i k ek
      cases k with
      | false =>
        rw [if_neg Bool.false_ne_true] at z
        exact ⟨false, (r1.vl ek).bl, iteF (hg.run Z O σ ε1 L1 H1 _ X1 (hg.mono _ _ _ (fun b ε2 z v L2 H2 X2 e2 r => z v L2 H2 X2 (e1.trans e2) (r.back e1)) z))⟩
      | true =>
        rw [if_pos rfl] at z
        exact ⟨true, (r1.vl ek).bl, iteT (z _ L1 H1 X1 e1 (.bl true))⟩
    · exact z.elim
theorem se_notV (hf : SE w ta f) : SE w (tNotV ta) (dNotV f) := by
  constructor
  · intro ε A B h z
    refine hf.mono _ _ _ (fun r ε1 z => ?_) z
    show match r.dat with
      | some (.bool b) => B (.sh (.bool (!b))) ε1
      | _ => False
    split at z
    · exact h _ _ z
    · exact z.elim
  · intro Z O σ ε L H Q X z
    refine hf.run Z O σ ε L H _ X (hf.mono _ _ _ (fun r ε1 z => ?_) z)
    intro v L1 H1 X1 e1 r1
    split at z
    · rename_i b ek
      exact ⟨b, (r1.vl ek).bl, z _ L1 H1 X1 e1 (.bl (!b))⟩
    · exact z.elim
/-- a op b op' c -/
def dChain (φ ψ : PyData → PyData → (R → Prop) → Prop) (f g h : DTE)  (ε : Env) (Q : R → Env → Prop) : Prop := f ε fun x ε1 => g ε1 fun y ε2 => match x.dat, y.dat with
  | some dx, some dy => φ dx dy fun r => match r with
    | .sh (.bool k) => if k = true then (h ε2 fun z ε3 => match z.dat with
      | some dz => ψ dy dz fun r => Q r ε3
      | _ => False) else Q (.sh (.bool false)) ε2
    | _ => False
  | _, _ => False
theorem se_chain {r s : R2} {φ ψ : PyData → PyData → (R → Prop) → Prop} (k : R2K r φ) (l : R2K s ψ) (hf : SE w ta f) (hg : SE w tb g) (hh : SE w tc h) : SE w (tChain r s ta tb tc) (dChain φ ψ f g h) := by
  constructor
  · intro ε A B hAB q
    refine hf.mono _ _ _ (fun x ε1 q => hg.mono _ _ _ (fun y ε2 q => ?_) q) q
    split at q
    · refine k.mono _ _ _ _ (fun r q => ?_) q
      split at q
      · rename_i k0
        cases k0 with
        | true =>
          rw [if_pos rfl] at q
          refine iteT (hh.mono _ _ _ (fun z ε3 q => ?_) q)
          split at q
          · exact l.mono _ _ _ _ (fun r q => hAB _ _ q) q
          · exact q.elim
        | false =>
          rw [if_neg Bool.false_ne_true] at q
          exact iteF (hAB _ _ q)
      · exact q.elim
    · exact q.elim
  · intro Z O σ ε L H Q X q
    refine hf.run Z O σ ε L H _ X (hf.mono _ _ _ (fun x ε1 q => ?_) q)
    intro v L1 H1 X1 e1 r1
    refine hg.run Z O σ ε1 L1 H1 _ X1 (hg.mono _ _ _ (fun y ε2 q => ?_) q)
    intro u L2 H2 X2 e2 r2
    have r1' := r1.mono X1 e2
    split at q
    · rename_i dx dy ex ey
      refine k.run L2 H2 v u dx dy _ X2.lh (r1'.vl ex) (r2.vl ey) (k.mono _ _ _ _ (fun r q => ?_) q)
      intro z L3 H3 e3 s3 r3
      have X3 := X2.step e3 s3
      have r2' := r2.mono X2 e3.any
      split at q
      · rename_i k0
        cases (show DV L3 z (.bool k0) from r3)
        cases k0 with
        | true =>
          rw [if_pos rfl] at q
          refine ⟨true, rfl, iteT ?_⟩
          refine hh.run Z O σ ε2 L3 H3 _ X3 (hh.mono _ _ _ (fun c ε3 q => ?_) q)
          intro z' L4 H4 X4 e4 r4
          split at q
          · rename_i dz ez
            refine l.run L4 H4 u z' dy dz Q X4.lh ((r2'.mono X3 e4).vl ey) (r4.vl ez) (l.mono _ _ _ _ (fun r q => ?_) q)
            intro o L5 H5 e5 s5 r5
            have et := ((e1.trans e2).trans e3.any).trans e4
            exact q o L5 H5 (X4.step e5 s5) (et.trans e5.any) ((r5.vr X4).back et)
          · exact q.elim
        | false =>
          rw [if_neg Bool.false_ne_true] at q
          exact ⟨false, rfl, iteF (q _ L3 H3 X3 ((e1.trans e2).trans e3.any) (.bl false))⟩
      · exact q.elim
    · exact q.elim
def R.pub : R → R
  | .nw ds => .sh (.list ds)
  | r => r
theorem R.pub_nw (r : R) (ds : List PyData) : r.pub ≠ .nw ds := by
  cases r <;> exact fun h => nomatch h
theorem publ {Z : Zx} {O : Addr → Prop} {σ : L2.St} {ε : Env} {L H L' H' : Hp} {v : V} {r : R} (x : Rep w Z O L' H' σ ε) (e : Ext Z.b L H L' H') (h : VR w Z O σ H L' H' v r) : ∃ L2, Rep w Z O L2 H' σ ε ∧ Ext Z.b L H L2 H' ∧ VR w Z O σ H L2 H' v r.pub := by
  cases r with
  | nw ds =>
    obtain ⟨L2, h1, h2, h3⟩ := Lp.pub x e h
    exact ⟨L2, h1, h2, h3⟩
  | _ => exact ⟨L', x, e, h⟩
def dNil  (ε : Env) (Q : List R → Env → Prop) : Prop := Q [] ε
def dCons (f : DTE) (g : DTA)  (ε : Env) (Q : List R → Env → Prop) : Prop := f ε fun r ε1 => g ε1 fun rs ε2 => Q (r.pub :: rs) ε2
theorem sa_nil : SA w 0 tNil dNil := ⟨fun ε A B h q => h _ _ q, fun Z O σ ε L H Q X z => z _ L H X (Ext.refl _ _ _) .nil rfl (fun _ h => nomatch h)⟩
theorem sa_cons {n : Nat} {tr : TA} {g : DTA} (hf : SE w ta f) (hg : SA w n tr g) : SA w (n + 1) (tCons ta tr) (dCons f g) := by
  constructor
  · intro ε A B h z
    exact hf.mono _ _ _ (fun r ε1 z => hg.mono _ _ _ (fun rs ε2 z => h _ _ z) z) z
  · intro Z O σ ε L H Q X z
    refine hf.run Z O σ ε L H _ X (hf.mono _ _ _ (fun r ε1 z => ?_) z)
    intro v L1 H1 X1 e1 r1
    obtain ⟨L1', X1', e1', r1'⟩ := publ X1 e1 r1
    refine hg.run Z O σ ε1 L1' H1 _ X1' (hg.mono _ _ _ (fun rs ε2 z => ?_) z)
    intro vs L2 H2 X2 e2 rs2 hl np
    refine z (v :: vs) L2 H2 X2 (e1'.trans e2) (.cons (r1'.mono X1' e2) (rs2.back e1')) (by rw [List.length_cons, hl]) (fun x hx ds => ?_)
    rcases List.mem_cons.mp hx with rfl | hx
    · exact R.pub_nw r ds
    · exact np x hx ds
/-- all of them data that stands still -/
def shs : List R → Option (List PyData)
  | [] => some []
  | .sh d :: rs => match shs rs with
    | some ds => some (d :: ds)
    | none => none
  | _ => none
theorem shs_ok {Z : Zx} {O : Addr → Prop} {σ : L2.St} {Hs L H : Hp} : ∀ {rs : List R} {vs : List V} {ds : List PyData}, VRs w Z O σ Hs L H vs rs → shs rs = some ds → DVs L vs ds
  | [], _, _, .nil, e => by cases e; exact .nil
  | .sh d :: rs, _, ds, .cons a r, e => by
    unfold shs at e
    split at e
    · rename_i es h
      cases e
      exact .cons a (shs_ok r h)
    · cases e
  | .nw _ :: _, _, _, .cons _ _, e => by cases e
  | .br _ _ :: _, _, _, .cons _ _, e => by cases e
  | .bx :: _, _, _, .cons _ _, e => by cases e
  | .raw _ :: _, _, _, .cons _ _, e => by cases e
  | .sr _ _ _ :: _, _, _, .cons _ _, e => by cases e
  | .exn _ :: _, _, _, .cons _ _, e => by cases e
  | .dnw _ :: _, _, _, .cons _ _, e => by cases e
  | .dbr _ _ :: _, _, _, .cons _ _, e => by cases e
  | .srt _ _ :: _, _, _, .cons _ _, e => by cases e
  | .dsh _ :: _, _, _, .cons _ _, e => by cases e
  | .gen _ :: _, _, _, .cons _ _, e => by cases e
def dTup (f : DTA)  (ε : Env) (Q : R → Env → Prop) : Prop := f ε fun rs ε1 => match shs rs with
  | some ds => Q (.sh (.tuple ds)) ε1
  | none => False
def dLst (f : DTA)  (ε : Env) (Q : R → Env → Prop) : Prop := f ε fun rs ε1 => match shs rs with
  | some ds => Q (.nw ds) ε1
  | none => False
theorem se_tup {n : Nat} {t : TA} {f : DTA} (hf : SA w n t f) (hn : n ≤ sizeLine := by decide) : SE w (tTupS t) (dTup f) := by
  constructor
  · intro ε A B h z
    refine hf.mono _ _ _ (fun rs ε1 z => ?_) z
    split at z
    · exact h _ _ z
    · exact z.elim
  · intro Z O σ ε L H Q X z
    refine hf.run Z O σ ε L H _ X (hf.mono _ _ _ (fun rs ε1 z => ?_) z)
    intro vs L1 H1 X1 e1 r1 hl np
    split at z
    · rename_i ds hd
      refine ⟨by rw [r1.len, hl]; exact hn, fun p o np no => ?_⟩
      have e2 : Ext none L1 H1 (upd L1 p (.frz o (.tup vs))) (upd H1 p (.frz o (.tup vs))) := Ext.new X1.lh np
      exact z _ _ _ (X1.step e2 (same_both X1.lh)) (e1.trans e2.any) (.tup ⟨o, no, upd_same⟩ ((shs_ok r1 hd).to e2.ll))
    · exact z.elim
theorem se_lst {n : Nat} {t : TA} {f : DTA} (hf : SA w n t f) (hn : n ≤ sizeLine := by decide) : SE w (tLst t) (dLst f) := by
  constructor
  · intro ε A B h z
    refine hf.mono _ _ _ (fun rs ε1 z => ?_) z
    split at z
    · exact h _ _ z
    · exact z.elim
  · intro Z O σ ε L H Q X z
    refine hf.run Z O σ ε L H _ X (hf.mono _ _ _ (fun rs ε1 z => ?_) z)
    intro vs L1 H1 X1 e1 r1 hl np
    split at z
    · rename_i ds hd
      refine ⟨by rw [r1.len, hl]; exact hn, fun p np => ?_⟩
      have e2 : Ext none L1 H1 L1 (upd H1 p (.lst vs)) := Ext.own np
      refine z _ _ _ (X1.step e2 (same_own X1.lh (X1.lh.free np))) (e1.trans e2.any) (VR.back (VR0.vr (r := .nw ds) ⟨p, vs, rfl, np, X1.lh.free np, upd_same, shs_ok r1 hd⟩ X1) e1)
    · exact z.elim
def dats : List R → Option (List PyData)
  | [] => some []
  | r :: rs => match r.dat, dats rs with
    | some d, some ds => some (d :: ds)
    | _, _ => none
inductive VLs (L H : Hp) : List V → List PyData → Prop
  | nil : VLs L H [] []
  | cons {v : V} {vs : List V} {d : PyData} {ds : List PyData} : VL L H v d → VLs L H vs ds → VLs L H (v :: vs) (d :: ds)
theorem dats_ok {Z : Zx} {O : Addr → Prop} {σ : L2.St} {Hs L H : Hp} : ∀ {rs : List R} {vs : List V} {ds : List PyData}, VRs w Z O σ Hs L H vs rs → dats rs = some ds → VLs L H vs ds
  | [], _, _, .nil, e => by cases e; exact .nil
  | r :: rs, _, ds, .cons a b, e => by
    unfold dats at e
    split at e
    · rename_i d es h1 h2
      cases e
      exact .cons (a.vl h1) (dats_ok b h2)
    · cases e
structure RCK (r : List V → Hp → VK → Prop) (φ : List PyData → (R → Prop) → Prop) : Prop where
  mono : ∀ x (A B : R → Prop), (∀ r, A r → B r) → φ x A → φ x B
  run : ∀ (L H : Hp) (xs : List V) (ds : List PyData) (Q : VK), Same L H → VLs L H xs ds → φ ds (fun r => ∀ v L' H', Ext none L H L' H' → Same L' H' → VR0 H L' H' v r → Q v H') → r xs H Q
def dCB (φ : List PyData → (R → Prop) → Prop) (f : DTA)  (ε : Env) (Q : R → Env → Prop) : Prop := f ε fun rs ε1 => match dats rs with
  | some ds => φ ds fun r => Q r ε1
  | _ => False
theorem se_cb {n : Nat} {t : TA} {f : DTA} {r : List V → Hp → VK → Prop} {φ : List PyData → (R → Prop) → Prop} (k : RCK r φ) (hf : SA w n t f) : SE w (tCB r t) (dCB φ f) := by
  constructor
  · intro ε A B h z
    refine hf.mono _ _ _ (fun rs ε1 z => ?_) z
    split at z
    · exact k.mono _ _ _ (fun r q => h _ _ q) z
    · exact z.elim
  · intro Z O σ ε L H Q X z
    refine hf.run Z O σ ε L H _ X (hf.mono _ _ _ (fun rs ε1 z => ?_) z)
    intro vs L1 H1 X1 e1 r1 hl np
    split at z
    · rename_i ds hd
      refine k.run L1 H1 vs ds Q X1.lh (dats_ok r1 hd) (k.mono _ _ _ (fun r q => ?_) z)
      intro z L3 H3 e3 s3 r3
      exact q z L3 H3 (X1.step e3 s3) (e1.trans e3.any) ((r3.vr X1).back e1)
    · exact z.elim
abbrev DTO := Env → (Option Int → Env → Prop) → Prop
def dNoP  (ε : Env) (Q : Option Int → Env → Prop) : Prop := Q none ε
def dPart (f : DTE)  (ε : Env) (Q : Option Int → Env → Prop) : Prop := f ε fun r ε1 => match r.dat with
  | some (.int i) => Q (some i) ε1
  | _ => False
def dSl (φ : PyData → Option Int → Option Int → (R → Prop) → Prop) (f : DTE) (l h : DTO)  (ε : Env) (Q : R → Env → Prop) : Prop := f ε fun r ε1 => l ε1 fun i ε2 => h ε2 fun j ε3 => match r.dat with
  | some d => φ d i j fun r => Q r ε3
  | _ => False
end
end Lp

namespace Lp
open PySem PySem.Spec PyProof.Rows L2
structure DEnds where
  nx : Env → Prop
  rt : R → Env → Prop
  bk : Env → Prop := fun _ => False
  ct : Env → Prop := fun _ => False
structure DEnds.le (A B : DEnds) : Prop where
  nx : ∀ ε, A.nx ε → B.nx ε
  rt : ∀ r ε, A.rt r ε → B.rt r ε
  bk : ∀ ε, A.bk ε → B.bk ε
  ct : ∀ ε, A.ct ε → B.ct ε
theorem DEnds.le.refl (A : DEnds) : A.le A := ⟨fun _ h => h, fun _ _ h => h, fun _ h => h, fun _ h => h⟩
abbrev DTS := DEnds → Env → Prop
structure EndsOk (w : Wx) (Z : Zx) (D : Ends) (Δ : DEnds) : Prop where
  nx : ∀ (O : Addr → Prop) (σ : L2.St) (ε : Env) (L H : Hp), Rep w Z O L H σ ε → Δ.nx ε → D.nx σ H
  rt : ∀ (O : Addr → Prop) (σ : L2.St) (ε : Env) (L H : Hp) (v : V) (r : R), Rep w Z O L H σ ε → VR0 Z.H0 L H v r → Δ.rt r ε → D.rt v H
  bk : ∀ (O : Addr → Prop) (σ : L2.St) (ε : Env) (L H : Hp), Rep w Z O L H σ ε → Δ.bk ε → D.bk σ H
  ct : ∀ (O : Addr → Prop) (σ : L2.St) (ε : Env) (L H : Hp), Rep w Z O L H σ ε → Δ.ct ε → D.ct σ H
structure SS (w : Wx) (t : TS) (f : DTS) : Prop where
  mono : ∀ Δ Δ' ε, DEnds.le Δ Δ' → f Δ ε → f Δ' ε
  run : ∀ (Z : Zx) (O : Addr → Prop) (σ : L2.St) (ε : Env) (L H : Hp) (D : Ends) (Δ : DEnds), Rep w Z O L H σ ε → EndsOk w Z D Δ → f Δ ε → t D σ H
section
variable {w : Wx} {Z : Zx} {O : Addr → Prop} {σ : L2.St} {ε : Env} {L H : Hp}
theorem get_set {α : Type} {l : List α} {i j : Nat} {x y : α} (h : (l.set i x)[j]? = some y) : (i = j ∧ y = x ∧ j < l.length) ∨ (i ≠ j ∧ l[j]? = some y) := by
  rw [List.getElem?_set] at h
  split at h
  · rename_i e
    subst e
    split at h
    · cases h; exact .inl ⟨rfl, rfl, by assumption⟩
    · cases h
  · rename_i e
    exact .inr ⟨e, h⟩
/-- a slot takes a value -/
theorem Rep.put0 (x : Rep w Z O L H σ ε) {i : Nat} {v : V} {y : SV} (O' : Addr → Prop) (ho : ∀ a, O a → O' a) (hn : ∀ a, O' a → H a ≠ none ∧ Z.H0 a = none) (h : SlotR w Z O' L H (some v) y) (hd : Own y = true → ∀ a, v = .ref a → ¬ O a) : Rep w Z O' L H (σ.set i (some v)) (ε.set i y) := by
  have own : ∀ (j : Nat) (z : SV) (a : Addr), ε.s[j]? = some z → Own z = true → σ[j]? = some (some (.ref a)) → O a := by
    intro j z a hz ho ha
    obtain ⟨o, h1, h2⟩ := x.sl j z hz
    rw [ha] at h1
    cases h1
    cases z with
    | ow ds => obtain ⟨b, xs, e, h3, _⟩ := h2; cases e; exact h3
    | st S n => obtain ⟨b, e, h3, _⟩ := h2; cases e; exact h3
    | dco xs => obtain ⟨b, e, h3, _⟩ := h2; cases e; exact h3
    | sto M => obtain ⟨b, A, e, h3, _⟩ := h2; cases e; exact h3
    | _ => cases ho
  refine ⟨x.lh, x.pn, x.ex, x.bo, hn, ?_, fun j z hz => ?_, fun j k z z' a hjk hz hz' oz oz' hj hk => ?_, x.ph⟩
  · show (σ.set i (some v)).length = (ε.s.set i y).length
    rw [List.length_set, List.length_set]; exact x.len
  · rcases get_set hz with ⟨rfl, rfl, hl⟩ | ⟨ne, hz⟩
    · refine ⟨some v, ?_, h⟩
      rw [List.getElem?_set, if_pos rfl, if_pos (by rw [x.len]; exact hl)]
    · obtain ⟨o, h1, h2⟩ := x.sl j z hz
      refine ⟨o, by rw [List.getElem?_set, if_neg ne]; exact h1, ?_⟩
      cases z with
      | ow ds => obtain ⟨a, xs, e1, e2, e3⟩ := h2; exact ⟨a, xs, e1, ho a e2, e3⟩
      | st S n => obtain ⟨a, e1, e2, e3⟩ := h2; exact ⟨a, e1, ho a e2, e3⟩
      | dco xs => obtain ⟨a, e1, e2, e3⟩ := h2; exact ⟨a, e1, ho a e2, e3⟩
      | sto M => obtain ⟨a, A, e1, e2, e3⟩ := h2; exact ⟨a, A, e1, ho a e2, e3⟩
      | _ => exact h2
  · rcases get_set hz with ⟨rfl, rfl, hl⟩ | ⟨ne, hz1⟩
    · rcases get_set hz' with ⟨rfl, _, _⟩ | ⟨ne', hz'⟩
      · exact hjk rfl
      · rw [List.getElem?_set, if_pos rfl, if_pos (by rw [x.len]; exact hl)] at hj
        rw [List.getElem?_set, if_neg ne'] at hk
        exact hd oz a (Option.some.inj (Option.some.inj hj)) (own k z' a hz' oz' hk)
    · rw [List.getElem?_set, if_neg ne] at hj
      rcases get_set hz' with ⟨e1, e2, hl⟩ | ⟨ne', hz2⟩
      · subst e1
        subst e2
        rw [List.getElem?_set, if_pos rfl, if_pos (by rw [x.len]; exact hl)] at hk
        exact hd oz' a (Option.some.inj (Option.some.inj hk)) (own j z a hz1 oz hj)
      · rw [List.getElem?_set, if_neg ne'] at hk
        exact x.di j k z z' a hjk hz1 hz2 oz oz' hj hk
theorem Rep.sh (x : Rep w Z O L H σ ε) {i : Nat} {v : V} {d : PyData} (h : DV L v d) : Rep w Z O L H (σ.set i (some v)) (ε.set i (.sh d)) :=
  x.put0 O (fun _ h => h) x.oh ⟨v, rfl, h⟩ (fun z => nomatch z)
theorem Rep.exnS (x : Rep w Z O L H σ ε) {i : Nat} {v : V} {y : Xn} (h : XV w L v y) : Rep w Z O L H (σ.set i (some v)) (ε.set i (.exn y)) :=
  x.put0 O (fun _ h => h) x.oh ⟨v, rfl, h⟩ (fun z => nomatch z)
theorem Rep.rawS (x : Rep w Z O L H σ ε) {i : Nat} {v : V} : Rep w Z O L H (σ.set i (some v)) (ε.set i (.raw v)) :=
  x.put0 O (fun _ h => h) x.oh rfl (fun z => nomatch z)
theorem Rep.dsS (x : Rep w Z O L H σ ε) {i : Nat} {v : V} {xs : List DRow} (h : DVd L v xs) : Rep w Z O L H (σ.set i (some v)) (ε.set i (.dsh xs)) :=
  x.put0 O (fun _ h => h) x.oh ⟨v, rfl, h⟩ (fun e => nomatch e)
theorem Rep.genS (x : Rep w Z O L H σ ε) {i : Nat} {v : V} {g : Gn} (h : g.ok L v) : Rep w Z O L H (σ.set i (some v)) (ε.set i (.gen g)) :=
  x.put0 O (fun _ h => h) x.oh ⟨v, rfl, h⟩ (fun e => nomatch e)
/-- an object that nobody holds is published -/
theorem Rep.pubO (x : Rep w Z O L H σ ε) {a : Addr} {o : HO} (h2 : ¬ O a) (h3 : Z.H0 a = none) (h4 : L a = none) (h5 : H a = some o) : Rep w Z O (upd L a o) H σ ε := by
  have s1 : Same L (upd L a o) := same_upd h4
  refine ⟨same_pub x.lh h5, x.pn.trans s1, ⟨x.ex.ll.trans s1, x.ex.hh, x.ex.dom, fun b hb hd => ?_⟩, fun b hb => ?_, x.oh, x.len, fun i y hy => ?_, x.di, x.ph⟩
  · rw [upd_ne (ne_at hd h3)]; exact x.ex.fr b hb hd
  · obtain ⟨q1, q2, q3⟩ := x.bo b hb
    exact ⟨by rw [upd_ne (ne_at q3 h3)]; exact q1, q2, q3⟩
  · obtain ⟨o, q1, q2⟩ := x.sl i y hy
    refine ⟨o, q1, ?_⟩
    cases y with
    | un => trivial
    | sh d =>
      obtain ⟨v, e1, e2⟩ := q2
      exact ⟨v, e1, e2.to s1⟩
    | ow ds =>
      obtain ⟨b, ys, e1, e2, e3, e4, e5, e6⟩ := q2
      exact ⟨b, ys, e1, e2, by rw [upd_ne (fun z => h2 (by rw [← z]; exact e2))]; exact e3, e4, e5, e6.to s1⟩
    | bx => exact q2
    | st S n =>
      obtain ⟨b, e1, e2, e3, e4, e5⟩ := q2
      exact ⟨b, e1, e2, by rw [upd_ne (fun z => h2 (by rw [← z]; exact e2))]; exact e3, e4, e5⟩
    | raw u => exact q2
    | exn x => obtain ⟨v, e1, e2⟩ := q2; exact ⟨v, e1, e2.to s1⟩
    | dco xs =>
      obtain ⟨b, e1, e2, e3, e4, e5, e6⟩ := q2
      exact ⟨b, e1, e2, by rw [upd_ne (fun z => h2 (by rw [← z]; exact e2))]; exact e3, e4, e5, e6.to s1⟩
    | sto M =>
      obtain ⟨b, A, e1, e2, e3, e4, e5, e6⟩ := q2
      exact ⟨b, A, e1, e2, by rw [upd_ne (fun z => h2 (by rw [← z]; exact e2))]; exact e3, e4, e5, e6.to s1⟩
    | dsh xs => obtain ⟨v, e1, e2⟩ := q2; exact ⟨v, e1, e2.to s1⟩
    | gen g => obtain ⟨v, e1, e2⟩ := q2; exact ⟨v, e1, g.mono s1 e2⟩
/-- what is stored of a value: own or for all to see -/
def val (own : Bool) : R → Option SV
  | .sh d => some (.sh d)
  | .nw ds => some (if own = true then .ow ds else .sh (.list ds))
  | .raw v => some (.raw v)
  | .exn x => some (.exn x)
  | .dnw xs => some (if own = true then .dco xs else .dsh xs)
  | .dsh xs => some (.dsh xs)
  | .gen g => some (.gen g)
  | _ => none
/-- a new list at a -/
def nwAt (r : R) (v : V) (a : Addr) : Prop := ((∃ ds, r = .nw ds) ∨ ∃ xs, r = .dnw xs) ∧ v = .ref a
theorem Rep.put {Hs : Hp} (x : Rep w Z O L H σ ε) {i : Nat} {own : Bool} {v : V} {r : R} {y : SV} (h : VR w Z O σ Hs L H v r) (hy : val own r = some y) : ∃ O' L', Rep w Z O' L' H (σ.set i (some v)) (ε.set i y) ∧ Same L L' ∧ (∀ a, L a = none → ¬ nwAt r v a → L' a = none) ∧ ∀ a, O' a → O a ∨ nwAt r v a := by
  cases r with
  | sh d =>
    cases hy
    exact ⟨O, L, x.sh h, Same.refl L, fun a h _ => h, fun a h => .inl h⟩
  | nw ds =>
    cases own with
    | true =>
      cases hy
      obtain ⟨a, xs, rfl, h1, h2, h3, h4, h5, h6⟩ := h
      refine ⟨fun b => O b ∨ b = a, L, x.put0 (fun b => O b ∨ b = a) (fun b h => .inl h) (fun b hb => ?_) ⟨a, xs, rfl, .inr rfl, h4, h3, h5, h6⟩ (fun _ b e => by cases e; exact h2), Same.refl L, fun b h _ => h, fun b hb => hb.imp id fun z => ⟨.inl ⟨_, rfl⟩, by rw [z]⟩⟩
      rcases hb with hb | rfl
      · exact x.oh b hb
      · exact ⟨by rw [h5]; exact (fun z => nomatch z), h3⟩
    | false =>
      cases hy
      have h' := h
      obtain ⟨a, xs, rfl, h1, h2, h3, h4, h5, h6⟩ := h'
      have s1 : Same L (upd L a (.lst xs)) := same_upd h4
      obtain ⟨L2, X2, e2, d2⟩ : ∃ L2, Rep w Z O L2 H σ ε ∧ L2 = upd L a (.lst xs) ∧ DV L2 (.ref a) (.list ds) := by
        refine ⟨_, ⟨same_pub x.lh h5, x.pn.trans s1, ⟨x.ex.ll.trans s1, x.ex.hh, x.ex.dom, fun b hb hd => ?_⟩, fun b hb => ?_, x.oh, x.len, fun i y hy => ?_, x.di, x.ph⟩, rfl, .lst upd_same (h6.to s1)⟩
        · rw [upd_ne (ne_at hd h3)]; exact x.ex.fr b hb hd
        · obtain ⟨q1, q2, q3⟩ := x.bo b hb
          exact ⟨by rw [upd_ne (ne_at q3 h3)]; exact q1, q2, q3⟩
        · obtain ⟨o, q1, q2⟩ := x.sl i y hy
          refine ⟨o, q1, ?_⟩
          cases y with
          | un => trivial
          | sh d =>
            obtain ⟨v, e1, e2⟩ := q2
            exact ⟨v, e1, e2.to s1⟩
          | ow ds =>
            obtain ⟨b, ys, e1, e2, e3, e4, e5, e6⟩ := q2
            exact ⟨b, ys, e1, e2, by rw [upd_ne (fun z => h2 (by rw [← z]; exact e2))]; exact e3, e4, e5, e6.to s1⟩
          | bx => exact q2
          | st S n =>
            obtain ⟨b, e1, e2, e3, e4, e5⟩ := q2
            exact ⟨b, e1, e2, by rw [upd_ne (fun z => h2 (by rw [← z]; exact e2))]; exact e3, e4, e5⟩
          | raw u => exact q2
          | exn x => obtain ⟨v, e1, e2⟩ := q2; exact ⟨v, e1, e2.to s1⟩
          | dco xs =>
            obtain ⟨b, e1, e2, e3, e4, e5, e6⟩ := q2
            exact ⟨b, e1, e2, by rw [upd_ne (fun z => h2 (by rw [← z]; exact e2))]; exact e3, e4, e5, e6.to s1⟩
          | sto M =>
            obtain ⟨b, A, e1, e2, e3, e4, e5, e6⟩ := q2
            exact ⟨b, A, e1, e2, by rw [upd_ne (fun z => h2 (by rw [← z]; exact e2))]; exact e3, e4, e5, e6.to s1⟩
          | dsh xs => obtain ⟨v, e1, e2⟩ := q2; exact ⟨v, e1, e2.to s1⟩
          | gen g => obtain ⟨v, e1, e2⟩ := q2; exact ⟨v, e1, g.mono s1 e2⟩
      refine ⟨O, L2, X2.sh d2, by rw [e2]; exact s1, fun b hb nb => ?_, fun b hb => .inl hb⟩
      rw [e2, upd_ne (fun z => nb ⟨.inl ⟨_, rfl⟩, by rw [z]⟩)]; exact hb
  | raw u =>
    cases hy
    cases (show v = u from h)
    exact ⟨O, L, x.rawS, Same.refl L, fun a h _ => h, fun a h => .inl h⟩
  | exn y =>
    cases hy
    exact ⟨O, L, x.exnS h, Same.refl L, fun a h _ => h, fun a h => .inl h⟩
  | br i ds => cases hy
  | bx => cases hy
  | sr i S n => cases hy
  | dbr i xs => cases hy
  | srt i M => cases hy
  | dsh xs =>
    cases hy
    exact ⟨O, L, x.dsS h, Same.refl L, fun a h _ => h, fun a h => .inl h⟩
  | gen g =>
    cases hy
    exact ⟨O, L, x.genS h, Same.refl L, fun a h _ => h, fun a h => .inl h⟩
  | dnw xs =>
    cases own with
    | true =>
      cases hy
      obtain ⟨a, rfl, h1, h2, h3, h4, h5, h6⟩ := h
      refine ⟨fun b => O b ∨ b = a, L, x.put0 (fun b => O b ∨ b = a) (fun b h => .inl h) (fun b hb => ?_) ⟨a, rfl, .inr rfl, h4, h3, h5, h6⟩ (fun _ b e => by cases e; exact h2), Same.refl L, fun b h _ => h, fun b hb => hb.imp id fun z => ⟨.inr ⟨_, rfl⟩, by rw [z]⟩⟩
      rcases hb with hb | rfl
      · exact x.oh b hb
      · exact ⟨h5.ne, h3⟩
    | false =>
      cases hy
      obtain ⟨a, rfl, h1, h2, h3, h4, ⟨ob, h5⟩, h6⟩ := h
      have s1 : Same L (upd L a (DctO ob a xs)) := same_upd h4
      obtain ⟨L2, X2, e2, d2⟩ : ∃ L2, Rep w Z O L2 H σ ε ∧ L2 = upd L a (DctO ob a xs) ∧ DVd L2 (.ref a) xs :=
        ⟨_, x.pubO h2 h3 h4 h5, rfl, a, rfl, ⟨ob, upd_same⟩, h6.to s1⟩
      refine ⟨O, L2, X2.dsS d2, by rw [e2]; exact s1, fun b hb nb => ?_, fun b hb => .inl hb⟩
      rw [e2, upd_ne (fun z => nb ⟨.inr ⟨_, rfl⟩, by rw [z]⟩)]; exact hb
end
section
variable {w : Wx} {ta tb tc : TE} {f g h : DTE} {t u : TS} {p q : DTS}
def dNext  (Δ : DEnds) (ε : Env) : Prop := Δ.nx ε
theorem ss_next : SS w tNext dNext := ⟨fun _ _ ε l z => l.nx ε z, fun Z O σ ε L H D Δ X E z => E.nx O σ ε L H X z⟩
def dSeq (p q : DTS)  (Δ : DEnds) (ε : Env) : Prop := p { Δ with nx := q Δ } ε
theorem ss_seq (hp : SS w t p) (hq : SS w u q) : SS w (tSeq t u) (dSeq p q) :=
  ⟨fun Δ Δ' ε l z => hp.mono { Δ with nx := q Δ } _ ε ⟨fun ε z => hq.mono _ _ ε l z, l.rt, l.bk, l.ct⟩ z,
   fun Z O σ ε L H D Δ X E z => hp.run Z O σ ε L H _ { Δ with nx := q Δ } X ⟨fun O σ ε L H X z => hq.run Z O σ ε L H D Δ X E z, E.rt, E.bk, E.ct⟩ z⟩
def dBreak  (Δ : DEnds) (ε : Env) : Prop := Δ.bk ε
def dCont  (Δ : DEnds) (ε : Env) : Prop := Δ.ct ε
def dNever  (_ : DEnds) (_ : Env) : Prop := False
theorem ss_never : SS w tNever dNever := ⟨fun _ _ _ _ z => z, fun Z O σ ε L H D Δ X E z => z⟩
def dDrop (f : DTE)  (Δ : DEnds) (ε : Env) : Prop := f ε fun _ ε1 => Δ.nx ε1
theorem ss_drop (hf : SE w ta f) : SS w (tDrop ta) (dDrop f) :=
  ⟨fun Δ Δ' ε l z => hf.mono _ _ _ (fun _ ε1 z => l.nx ε1 z) z,
   fun Z O σ ε L H D Δ X E z => hf.run Z O σ ε L H _ X (hf.mono _ _ _ (fun _ ε1 z v L1 H1 X1 e1 r1 => E.nx O σ ε1 L1 H1 X1 z) z)⟩
def R.ret : R → Option R
  | .sh d => some (.sh d)
  | .nw ds => some (.nw ds)
  | .br _ ds => some (.nw ds)
  | .dnw xs => some (.dnw xs)
  | .dbr _ xs => some (.dnw xs)
  | .dsh xs => some (.dsh xs)
  | .gen g => some (.gen g)
  | _ => none
def dRet (f : DTE)  (Δ : DEnds) (ε : Env) : Prop := f ε fun r ε1 => match r.ret with
  | some r => Δ.rt r ε1
  | none => False
theorem VR.ret {Z : Zx} {O : Addr → Prop} {σ : L2.St} {Hs L H : Hp} {v : V} {r r' : R} (x : VR w Z O σ Hs L H v r) (e : r.ret = some r') : VR0 Z.H0 L H v r' := by
  cases r with
  | sh d => cases e; exact x
  | nw ds =>
    cases e
    obtain ⟨a, xs, rfl, h1, h2, h3, h4, h5, h6⟩ := x
    exact ⟨a, xs, rfl, h3, h4, h5, h6⟩
  | br i ds =>
    cases e
    obtain ⟨a, xs, rfl, h1, h2, h3, h4, h5, h6⟩ := x
    exact ⟨a, xs, rfl, h3, h4, h5, h6⟩
  | bx => cases e
  | raw u => cases e
  | sr i S n => cases e
  | exn y => cases e
  | dnw xs =>
    cases e
    obtain ⟨a, rfl, h1, h2, h3, h4, h5, h6⟩ := x
    exact ⟨a, rfl, h3, h4, h5, h6⟩
  | dbr i xs =>
    cases e
    obtain ⟨a, rfl, h1, h2, h3, h4, h5, h6⟩ := x
    exact ⟨a, rfl, h3, h4, h5, h6⟩
  | srt i M => cases e
  | dsh xs => cases e; exact x
  | gen g => cases e; exact x
theorem ss_ret (hf : SE w ta f) : SS w (tRet ta) (dRet f) := by
  constructor
  · intro Δ Δ' ε l z
    refine hf.mono _ _ _ (fun r ε1 z => ?_) z
    split at z
    · exact l.rt _ _ z
    · exact z.elim
  · intro Z O σ ε L H D Δ X E z
    refine hf.run Z O σ ε L H _ X (hf.mono _ _ _ (fun r ε1 z => ?_) z)
    intro v L1 H1 X1 e1 r1
    split at z
    · rename_i r' hr
      exact E.rt O σ ε1 L1 H1 v r' X1 (r1.ret hr) z
    · exact z.elim
def dRetN  (Δ : DEnds) (ε : Env) : Prop := Δ.rt (.sh .none) ε
def dIfS (c : DTT) (p q : DTS)  (Δ : DEnds) (ε : Env) : Prop := c ε fun b ε1 => if b = true then p Δ ε1 else q Δ ε1
theorem ss_if {c : TT} {k : DTT} (hc : ST w c k) (hp : SS w t p) (hq : SS w u q) : SS w (tIfS c t u) (dIfS k p q) := by
  constructor
  · intro Δ Δ' ε l z
    refine hc.mono _ _ _ (fun b ε1 z => ?_) z
    cases b with
    | true => exact iteT (hp.mono _ _ _ l (by rw [if_pos rfl] at z; exact z))
    | false => exact iteF (hq.mono _ _ _ l (by rw [if_neg Bool.false_ne_true] at z; exact z))
  · intro Z O σ ε L H D Δ X E z
    refine hc.run Z O σ ε L H _ X (hc.mono _ _ _ (fun b ε1 z => ?_) z)
    intro L1 H1 X1 e1
    cases b with
    | true => exact iteT (hp.run Z O σ ε1 L1 H1 D Δ X1 E (by rw [if_pos rfl] at z; exact z))
    | false => exact iteF (hq.run Z O σ ε1 L1 H1 D Δ X1 E (by rw [if_neg Bool.false_ne_true] at z; exact z))
def dSetG (own : Bool) (i : Nat) (f : DTE)  (Δ : DEnds) (ε : Env) : Prop := f ε fun r ε1 => match val own r with
  | some x => Δ.nx (ε1.set i x)
  | none => False
theorem ss_set (own : Bool) {i : Nat} (hf : SE w ta f) : SS w (tAsg ta (gName i)) (dSetG own i f) := by
  constructor
  · intro Δ Δ' ε l z
    refine hf.mono _ _ _ (fun r ε1 z => ?_) z
    split at z
    · exact l.nx _ z
    · exact z.elim
  · intro Z O σ ε L H D Δ X E z
    refine hf.run Z O σ ε L H _ X (hf.mono _ _ _ (fun r ε1 z => ?_) z)
    intro v L1 H1 X1 e1 r1
    split at z
    · rename_i x hx
      obtain ⟨O', L', X', _⟩ := X1.put (i := i) r1 hx
      exact E.nx O' _ _ L' H1 X' z
    · exact z.elim
def dPar (i : Nat) (oi : Bool) (j : Nat) (oj : Bool) (f g : DTE)  (Δ : DEnds) (ε : Env) : Prop := f ε fun x ε1 => g ε1 fun y ε2 => match val oi x, val oj y with
  | some a, some b => Δ.nx ((ε2.set i a).set j b)
  | _, _ => False
theorem VR.setσ {Z : Zx} {O O' : Addr → Prop} {σ σ' : L2.St} {Hs L L' H : Hp} {v : V} {r : R} (N : Addr → Prop) (x : VR w Z O σ Hs L H v r) {own : Bool} {y : SV} (hy : val own r = some y) (s : Same L L') (hl : ∀ a, L a = none → ¬ N a → L' a = none) (ho : ∀ a, O' a → O a ∨ N a) (hu : ∀ a, N a → Hs a ≠ none) : VR w Z O' σ' Hs L' H v r := by
  cases r with
  | sh d => exact DV.to x s
  | nw ds =>
    obtain ⟨a, xs, rfl, h1, h2, h3, h4, h5, h6⟩ := x
    have ne : ¬ N a := fun z => hu a z h1
    exact ⟨a, xs, rfl, h1, fun o => (ho a o).elim h2 ne, h3, hl a h4 ne, h5, h6.to s⟩
  | raw u => exact x
  | exn y => exact XV.to x s
  | br i ds => cases hy
  | bx => cases hy
  | sr i S n => cases hy
  | dbr i xs => cases hy
  | srt i M => cases hy
  | dsh xs => exact DVd.to s x
  | gen g => exact g.mono s x
  | dnw xs =>
    obtain ⟨a, rfl, h1, h2, h3, h4, h5, h6⟩ := x
    have ne : ¬ N a := fun z => hu a z h1
    exact ⟨a, rfl, h1, fun o => (ho a o).elim h2 ne, h3, hl a h4 ne, h5, h6.to s⟩
theorem VR.nwAt {Z : Zx} {O : Addr → Prop} {σ : L2.St} {Hs L H : Hp} {v : V} {r : R} {a : Addr} (x : VR w Z O σ Hs L H v r) (e : Lp.nwAt r v a) : H a ≠ none := by
  obtain ⟨⟨ds, rfl⟩ | ⟨ys, rfl⟩, rfl⟩ := e
  · obtain ⟨b, xs, e, h1, h2, h3, h4, h5, h6⟩ := x
    cases e
    rw [h5]; exact fun z => nomatch z
  · obtain ⟨b, e, h1, h2, h3, h4, h5, h6⟩ := x
    cases e
    exact h5.ne
theorem two_put {Z : Zx} {O : Addr → Prop} {σ : L2.St} {ε : Env} {H L1 H1 L2 H2 : Hp} {v u : V} {x y : R} {oi oj : Bool} {i j : Nat} {a b : SV} (X2 : Rep w Z O L2 H2 σ ε) (r1 : VR w Z O σ H L1 H1 v x) (r1' : VR w Z O σ H L2 H2 v x) (r2 : VR w Z O σ H1 L2 H2 u y) (ha : val oi x = some a) (hb : val oj y = some b) :
    ∃ O' L', Rep w Z O' L' H2 ((σ.set i (some v)).set j (some u)) ((ε.set i a).set j b) ∧ Same L2 L' ∧ (∀ a, L2 a = none → ¬ (nwAt x v a ∨ nwAt y u a) → L' a = none) ∧ ∀ a, O' a → O a ∨ nwAt x v a ∨ nwAt y u a := by
  obtain ⟨O', L', X3, s3, hl3, ho3⟩ := X2.put (i := i) r1' ha
  have r2' : VR w Z O' (σ.set i (some v)) H1 L' H2 u y := r2.setσ (nwAt x v) hb s3 hl3 ho3 fun a ea => r1.nwAt ea
  obtain ⟨O2, L3, X4, s4, hl4, ho4⟩ := X3.put (i := j) r2' hb
  refine ⟨O2, L3, X4, s3.trans s4, fun a h n => hl4 a (hl3 a h (fun z => n (.inl z))) (fun z => n (.inr z)), fun a h => ?_⟩
  rcases ho4 a h with q | q
  · exact (ho3 a q).imp id .inl
  · exact .inr (.inr q)
theorem ss_par {i j : Nat} {oi oj : Bool} (hf : SE w ta f) (hg : SE w tb g) : SS w (tPar i j (tCons ta (tCons tb tNil))) (dPar i oi j oj f g) := by
  constructor
  · intro Δ Δ' ε l z
    refine hf.mono _ _ _ (fun x ε1 z => hg.mono _ _ _ (fun y ε2 z => ?_) z) z
    split at z
    · exact l.nx _ z
    · exact z.elim
  · intro Z O σ ε L H D Δ X E z
    refine hf.run Z O σ ε L H _ X (hf.mono _ _ _ (fun x ε1 z => ?_) z)
    intro v L1 H1 X1 e1 r1
    refine hg.run Z O σ ε1 L1 H1 _ X1 (hg.mono _ _ _ (fun y ε2 z => ?_) z)
    intro u L2 H2 X2 e2 r2
    split at z
    · rename_i a b ha hb
      obtain ⟨O', L', X', _⟩ := two_put (i := i) (j := j) X2 r1 (r1.mono X1 e2) r2 ha hb
      exact ⟨v, u, rfl, E.nx O' _ _ L' H2 X' z⟩
    · exact z.elim
def dPar3 (i : Nat) (oi : Bool) (j : Nat) (oj : Bool) (k : Nat) (ok : Bool) (f g h : DTE)  (Δ : DEnds) (ε : Env) : Prop := f ε fun x ε1 => g ε1 fun y ε2 => h ε2 fun z ε3 => match val oi x, val oj y, val ok z with
  | some a, some b, some c => Δ.nx (((ε3.set i a).set j b).set k c)
  | _, _, _ => False
end
end Lp

namespace Lp
open PySem PySem.Spec PyProof.Rows L2
section
variable {w : Wx} {Z : Zx} {O : Addr → Prop} {σ : L2.St} {ε : Env} {L H : Hp}
/-- the list of slot i changes -/
theorem Rep.mut (x : Rep w Z O L H σ ε) {i : Nat} {a : Addr} {y z : SV} {o : HO} (hi : ε.s[i]? = some y) (hy : Own y = true) (ha : σ[i]? = some (some (.ref a))) (h : SlotR w Z O L (upd H a o) (some (.ref a)) z) : Rep w Z O L (upd H a o) σ (ε.set i z) ∧ L a = none ∧ Z.H0 a = none ∧ O a := by
  obtain ⟨o1, h1, h2⟩ := x.sl i y hi
  rw [ha] at h1
  cases h1
  have key : O a ∧ L a = none ∧ Z.H0 a = none := by
    cases y with
    | ow ds => obtain ⟨b, xs, e, k1, k2, k3, _⟩ := h2; cases e; exact ⟨k1, k2, k3⟩
    | st S n => obtain ⟨b, e, k1, k2, k3, _⟩ := h2; cases e; exact ⟨k1, k2, k3⟩
    | dco xs => obtain ⟨b, e, k1, k2, k3, _⟩ := h2; cases e; exact ⟨k1, k2, k3⟩
    | sto M => obtain ⟨b, A, e, k1, k2, k3, _⟩ := h2; cases e; exact ⟨k1, k2, k3⟩
    | _ => cases hy
  obtain ⟨k1, k2, k3⟩ := key
  have nb : ∀ b, Z.b = some b → b ≠ a := fun b hb e => (x.bo b hb).2.2 (by rw [e]; exact k3)
  refine ⟨⟨same_own x.lh k2, x.pn, ⟨x.ex.ll, fun b u hb nb => ?_, fun b hb => ?_, x.ex.fr⟩, fun b hb => ?_, fun b hb => ⟨?_, (x.oh b hb).2⟩, ?_, fun j u hu => ?_, fun j k u u' b hjk hu hu' ou ou' => ?_, x.ph⟩, k2, k3, k1⟩
  · rw [upd_ne (ne_of_none hb k3)]; exact x.ex.hh b u hb nb
  · by_cases q : b = a
    · rw [q, upd_same]; exact fun z => nomatch z
    · rw [upd_ne q]; exact x.ex.dom b hb
  · obtain ⟨q1, q2, q3⟩ := x.bo b hb
    exact ⟨q1, q2.keep (upd_ne (nb b hb)), q3⟩
  · by_cases q : b = a
    · rw [q, upd_same]; exact fun z => nomatch z
    · rw [upd_ne q]; exact (x.oh b hb).1
  · show σ.length = (ε.s.set i z).length
    rw [List.length_set]; exact x.len
  · rcases get_set hu with ⟨rfl, rfl, hl⟩ | ⟨ne, hu1⟩
    · exact ⟨_, ha, h⟩
    · obtain ⟨o2, g1, g2⟩ := x.sl j u hu1
      refine ⟨o2, g1, ?_⟩
      cases u with
      | ow ds =>
        obtain ⟨b, ys, e1, e2, e3, e4, e5, e6⟩ := g2
        subst e1
        have ba : b ≠ a := fun q => x.di i j y (.ow ds) a ne hi hu1 hy rfl ha (by rw [g1, q])
        exact ⟨b, ys, rfl, e2, e3, e4, by rw [upd_ne ba]; exact e5, e6⟩
      | st S n =>
        obtain ⟨b, e1, e2, e3, e4, e5⟩ := g2
        subst e1
        have ba : b ≠ a := fun q => x.di i j y (.st S n) a ne hi hu1 hy rfl ha (by rw [g1, q])
        exact ⟨b, rfl, e2, e3, e4, by rw [upd_ne ba]; exact e5⟩
      | dco xs =>
        obtain ⟨b, e1, e2, e3, e4, e5, e6⟩ := g2
        subst e1
        have ba : b ≠ a := fun q => x.di i j y (.dco xs) a ne hi hu1 hy rfl ha (by rw [g1, q])
        exact ⟨b, rfl, e2, e3, e4, (let ⟨ob, k⟩ := e5; ⟨ob, by rw [upd_ne ba]; exact k⟩), e6⟩
      | sto M =>
        obtain ⟨b, A, e1, e2, e3, e4, e5, e6⟩ := g2
        subst e1
        have ba : b ≠ a := fun q => x.di i j y (.sto M) a ne hi hu1 hy rfl ha (by rw [g1, q])
        exact ⟨b, A, rfl, e2, e3, e4, by rw [upd_ne ba]; exact e5, e6⟩
      | _ => exact g2
  · have back : ∀ (j : Nat) (u : SV), (ε.set i z).s[j]? = some u → Own u = true → ∃ u', ε.s[j]? = some u' ∧ Own u' = true := fun j u hu ou => by
      rcases get_set hu with ⟨rfl, rfl, _⟩ | ⟨_, h⟩
      · exact ⟨y, hi, hy⟩
      · exact ⟨u, h, ou⟩
    obtain ⟨v, hv, ov⟩ := back j u hu ou
    obtain ⟨v', hv', ov'⟩ := back k u' hu' ou'
    exact x.di j k v v' b hjk hv hv' ov ov'
end
section
variable {w : Wx} {ta tb tc te : TE} {f g h : DTE} {t u : TS} {p q : DTS} {K : PySem.W.Frag}
def dAppend (i : Nat) (f : DTE)  (Δ : DEnds) (ε : Env) : Prop := match ε.s[i]? with
  | some (.ow _) => f ε fun r ε1 => match r.pub, ε1.s[i]? with
    | .sh d, some (.ow ds) => ds.length < sizeLine ∧ Δ.nx (ε1.set i (.ow (ds ++ [d])))
    | _, _ => False
  | _ => False
theorem ss_append {i : Nat} (hf : SE w te f) : SS w (tDrop (tBM K "list" rAppend (tVar i) (tCons te tNil))) (dAppend i f) := by
  constructor
  · intro Δ Δ' ε l z
    unfold dAppend at z ⊢
    split at z
    · refine hf.mono _ _ _ (fun r ε1 z => ?_) z
      split at z
      · exact ⟨z.1, l.nx _ z.2⟩
      · exact z.elim
    · exact z.elim
  · intro Z O σ ε L H D Δ X E z
    unfold dAppend at z
    split at z
    · rename_i ds0 h0
      obtain ⟨o, h1, a, xs, h2, h3, h4, h5, h6, h7⟩ := X.sl i _ h0
      subst h2
      refine ⟨.ref a, h1, .inl ⟨rfl, _, SqL.of h6⟩, ?_⟩
      refine hf.run Z O σ ε L H _ X (hf.mono _ _ _ (fun r ε1 z => ?_) z)
      intro v L1 H1 X1 e1 r1
      split at z
      · rename_i d ds hd hs
        obtain ⟨L2, X2, e2, r2⟩ := publ X1 e1 r1
        rw [hd] at r2
        obtain ⟨o', g1, b, ys, g2, g3, g4, g5, g6, g7⟩ := X2.sl i _ hs
        subst g2
        rw [h1] at g1
        cases g1
        refine ⟨a, ys, v, rfl, rfl, g6, by rw [g7.len]; exact z.1, ?_⟩
        have X3 := (X2.mut (o := .lst (ys ++ [v])) hs rfl h1 (z := .ow (ds ++ [d])) ⟨a, _, rfl, g3, g4, g5, upd_same, g7.app (.one r2)⟩).1
        exact E.nx _ _ _ _ _ X3 z.2
      · exact z.elim
    · exact z.elim
/-- xs.append(ys.pop(e)) -/
def dAppPop (i j : Nat) (f : DTE)  (Δ : DEnds) (ε : Env) : Prop := match ε.s[i]?, ε.s[j]? with
  | some (.ow _), some (.ow _) => f ε fun r ε1 => match r.dat, ε1.s[i]?, ε1.s[j]? with
    | some (.int k), some (.ow ds), some (.ow es) => 0 ≤ k ∧ k < (es.length : Int) ∧ es.length < 1000000 ∧ ds.length < sizeLine ∧ ∃ d, es[k.toNat]? = some d ∧ Δ.nx ((ε1.set j (.ow (es.eraseIdx k.toNat))).set i (.ow (ds ++ [d])))
    | _, _, _ => False
  | _, _ => False
theorem DVs.erase {H : Hp} : ∀ {vs : List V} {ds : List PyData} (n : Nat), DVs H vs ds → DVs H (vs.eraseIdx n) (ds.eraseIdx n)
  | _, _, _, .nil => .nil
  | _, _, 0, .cons a r => r
  | _, _, n + 1, .cons a r => .cons a (r.erase n)
theorem ss_appPop {i j : Nat} (hij : i ≠ j) (hf : SE w te f) : SS w (tDrop (tBM K "list" rAppend (tVar i) (tCons (tBM K "list" rPopAt (tVar j) (tCons te tNil)) tNil))) (dAppPop i j f) := by
  constructor
  · intro Δ Δ' ε l z
    unfold dAppPop at z ⊢
    split at z
    · refine hf.mono _ _ _ (fun r ε1 z => ?_) z
      split at z
      · obtain ⟨h1, h2, h3, h4, d, h5, h6⟩ := z
        exact ⟨h1, h2, h3, h4, d, h5, l.nx _ h6⟩
      · exact z.elim
    · exact z.elim
  · intro Z O σ ε L H D Δ X E z
    unfold dAppPop at z
    split at z
    · rename_i ds0 es0 h0 h0'
      obtain ⟨o, h1, a, xs, h2, h3, h4, h5, h6, h7⟩ := X.sl i _ h0
      subst h2
      obtain ⟨o', k1, b, zs, k2, k3, k4, k5, k6, k7⟩ := X.sl j _ h0'
      subst k2
      refine ⟨.ref a, h1, .inl ⟨rfl, _, SqL.of h6⟩, .ref b, k1, .inl ⟨rfl, _, SqL.of k6⟩, ?_⟩
      refine hf.run Z O σ ε L H _ X (hf.mono _ _ _ (fun r ε1 z => ?_) z)
      intro v L1 H1 X1 e1 r1
      split at z
      · rename_i k ds es hd hs hs'
        obtain ⟨m1, m2, m3, m4, d, m5, m6⟩ := z
        cases (r1.vl hd).int
        obtain ⟨_, g1, _, ys, g2, g3, g4, g5, g6, g7⟩ := X1.sl i _ hs
        subst g2
        rw [h1] at g1
        cases g1
        obtain ⟨_, f1, _, us, f2, f3, f4, f5, f6, f7⟩ := X1.sl j _ hs'
        subst f2
        rw [k1] at f1
        cases f1
        have ab : a ≠ b := fun q => X1.di i j _ _ a hij hs hs' rfl rfl h1 (by rw [k1, q])
        obtain ⟨u, hu, du⟩ := f7.get m5
        have hl := f7.len
        refine ⟨b, us, k, k.toNat, u, rfl, rfl, f6, by omega, by omega, ?_, hu, ?_⟩
        · refine (ixN_seq (n := us.length) (i := k) (j := k.toNat) ?_).1
          unfold ixN
          rw [if_pos m1, if_pos (by omega)]
        · have X2 := (X1.mut (o := .lst (us.eraseIdx k.toNat)) hs' rfl k1 (z := .ow (es.eraseIdx k.toNat)) ⟨b, _, rfl, f3, f4, f5, upd_same, f7.erase _⟩).1
          have hs2 : (ε1.set j (.ow (es.eraseIdx k.toNat))).s[i]? = some (.ow ds) := by
            show (ε1.s.set j _)[i]? = _
            rw [List.getElem?_set, if_neg (Ne.symm hij)]; exact hs
          refine ⟨a, ys, u, rfl, rfl, by rw [upd_ne ab]; exact g6, by rw [g7.len]; exact m4, ?_⟩
          have X3 := (X2.mut (o := .lst (ys ++ [u])) hs2 rfl h1 (z := .ow (ds ++ [d])) ⟨a, _, rfl, g3, g4, g5, upd_same, g7.app (.one du)⟩).1
          exact E.nx _ _ _ _ _ X3 m6
      · exact z.elim
    · exact z.elim
/-- xs[e] = e' -/
def dSetIx (i : Nat) (f g : DTE)  (Δ : DEnds) (ε : Env) : Prop := f ε fun r ε1 => match r.pub with
  | .sh d => match ε1.s[i]? with
    | some (.ow _) => g ε1 fun k ε2 => match k.dat, ε2.s[i]? with
      | some (.int j), some (.ow ds) => ∃ m, ixN ds.length j = some m ∧ Δ.nx (ε2.set i (.ow (ds.set m d)))
      | _, _ => False
    | _ => False
  | _ => False
theorem ss_setIx {i : Nat} (hf : SE w ta f) (hg : SE w tb g) : SS w (tAsg ta (gSub (tVar i) tb rSetL)) (dSetIx i f g) := by
  constructor
  · intro Δ Δ' ε l z
    refine hf.mono _ _ _ (fun r ε1 z => ?_) z
    split at z
    · split at z
      · refine hg.mono _ _ _ (fun k ε2 z => ?_) z
        split at z
        · obtain ⟨m, h1, h2⟩ := z
          exact ⟨m, h1, l.nx _ h2⟩
        · exact z.elim
      · exact z.elim
    · exact z.elim
  · intro Z O σ ε L H D Δ X E z
    refine hf.run Z O σ ε L H _ X (hf.mono _ _ _ (fun r ε1 z => ?_) z)
    intro v L1 H1 X1 e1 r1
    split at z
    · rename_i d hd
      obtain ⟨L2, X2, e2, r2⟩ := publ X1 e1 r1
      rw [hd] at r2
      split at z
      · rename_i ds0 h0
        obtain ⟨o, h1, a, xs, h2, _⟩ := X2.sl i _ h0
        subst h2
        refine ⟨.ref a, h1, ?_⟩
        refine hg.run Z O σ ε1 L2 H1 _ X2 (hg.mono _ _ _ (fun k ε2 z => ?_) z)
        intro u L3 H3 X3 e3 r3
        split at z
        · rename_i j ds hj hs
          obtain ⟨m, m1, m2⟩ := z
          cases (r3.vl hj).int
          obtain ⟨_, g1, b, ys, g2, g3, g4, g5, g6, g7⟩ := X3.sl i _ hs
          subst g2
          rw [h1] at g1
          cases g1
          refine ⟨a, ys, j, m, rfl, rfl, g6, by rw [g7.len]; exact m1, ?_⟩
          have X4 := (X3.mut (o := .lst (ys.set m v)) hs rfl h1 (z := .ow (ds.set m d)) ⟨a, _, rfl, g3, g4, g5, upd_same, DVs.set (DV.to r2 e3.ll) m g7⟩).1
          exact E.nx _ _ _ _ _ X4 m2
        · exact z.elim
      · exact z.elim
    · exact z.elim
/-- xs += e, xs an own list -/
def dExt (i : Nat) (f : DTE)  (Δ : DEnds) (ε : Env) : Prop := match ε.s[i]? with
  | some (.ow _) => f ε fun r ε1 => match r.dat, ε1.s[i]? with
    | some (.list es), some (.ow ds) => ds.length + es.length ≤ sizeLine ∧ Δ.nx (ε1.set i (.ow (ds ++ es)))
    | _, _ => False
  | _ => False
/-- x op= e -/
def dAug (φ : PyData → PyData → (R → Prop) → Prop) (i : Nat) (f : DTE)  (Δ : DEnds) (ε : Env) : Prop := match ε.s[i]? with
  | some (.sh a) => f ε fun r ε1 => match r.dat with
    | some b => φ a b fun q => match val false q with
      | some y => Δ.nx (ε1.set i y)
      | none => False
    | none => False
  | _ => False
def dSet0 (i : Nat)  (Δ : DEnds) (ε : Env) : Prop := Δ.nx (ε.set i (.st (fun _ => false) 0))
def dSAdd (i : Nat) (f : DTE)  (Δ : DEnds) (ε : Env) : Prop := match ε.s[i]? with
  | some (.st _ _) => f ε fun r ε1 => match r.dat, ε1.s[i]? with
    | some (.int k), some (.st S n) => n + 1 < scanBound ∧ Δ.nx (ε1.set i (.st (fun j => S j || decide (j = k)) (if S k = true then n else n + 1)))
    | _, _ => False
  | _ => False
def dSNotIn (f g : DTE)  (ε : Env) (Q : R → Env → Prop) : Prop := f ε fun x ε1 => g ε1 fun y ε2 => match x.dat, y with
  | some (.int k), .sr _ S _ => Q (.sh (.bool (!S k))) ε2
  | _, _ => False
end
end Lp

namespace Lp
open PySem PySem.Spec PyProof.Rows L2
/-- a list or a tuple -/
def iSeq (K : PySem.W.Frag) (tl : TE) : TI := fun σ H R => tl σ H fun x H1 => ∃ a, x = .ref a ∧ (((∃ xs, SqL K H1 a xs) ∧ R (Itl K a) H1) ∨ ((∃ xs, SqT K H1 a xs) ∧ R (Itt K a) H1))
theorem pi_seq {X : Cx} {tg o : Expr} {to : TE} (ho : PE X o to) : PI X tg o (iSeq X.K to) := by
  constructor
  intro pins s σ H R I want
  refine thn (ho.run pins s σ H _ I want) ?_
  rintro u s' ⟨_, H', J, rel, a, rfl, ways⟩
  cases rel
  have fp : ∀ b ∈ [s'.heap.objs.size], FpOk X pins H' b := fun b hb => by
    cases List.mem_singleton.mp hb
    exact J.fpOk (Nat.le_refl _) (J.hok.fresh (Nat.le_refl _))
  rcases ways with ⟨⟨xs, at_a⟩, go⟩ | ⟨⟨xs, at_a⟩, go⟩
  · obtain ⟨vals, _, lst, _⟩ := J.list at_a
    refine wpAny_pyIter_list lst.isList ⟨s'.heap.objs.size, [s'.heap.objs.size], _, _, H', rfl, ?_, turn_list a _, ⟨_, Heap.get?_push_size _ rfl, rfl, rfl⟩, fp, go⟩
    exact J.kept (t' := s'.toks) fun _ _ q => Heap.get?_push_of_some _ q
  · obtain ⟨vals, _, tup, _⟩ := J.tuple at_a
    have tup' : s'.heap.IsTuple a vals.toArray := tup
    refine wpAny_pyIter_tuple tup' ⟨s'.heap.objs.size, [s'.heap.objs.size], _, _, H', rfl, ?_, turn_tuple a _, ⟨_, Heap.get?_push_size _ rfl, rfl, rfl⟩, fp, go⟩
    exact J.kept (t' := s'.toks) fun _ _ q => Heap.get?_push_of_some _ q
/-- the items, while what is walked stands still -/
structure WalkS (pk : Bool) (L : Hp) (J : It) (ds : List PyData) : Prop where
  go : ∀ i L' H', Same L L' → Same L' H' → i < ds.length → J.go i H'
  stop : ∀ L' H', Same L L' → Same L' H' → J.stop ds.length H'
  yld : ∀ (i : Nat) d L' H' x H2, Same L L' → Same L' H' → ds[i]? = some d → J.yld i H' x H2 → ∃ L2, Ext none L' H' L2 H2 ∧ Same L2 H2 ∧ VI pk L2 H2 x d
structure WalkE (pk : Bool) (b : Option Addr) (L H : Hp) (J : It) (ds : List PyData) : Prop where
  go : ∀ i L' H', Ext b L H L' H' → Same L' H' → i < ds.length → J.go i H'
  stop : ∀ L' H', Ext b L H L' H' → Same L' H' → J.stop ds.length H'
  yld : ∀ (i : Nat) d L' H' x H2, Ext b L H L' H' → Same L' H' → ds[i]? = some d → J.yld i H' x H2 → ∃ L2, Ext none L' H' L2 H2 ∧ Same L2 H2 ∧ VI pk L2 H2 x d
theorem WalkS.e {pk : Bool} {b : Option Addr} {L H : Hp} {J : It} {ds : List PyData} (x : WalkS pk L J ds) : WalkE pk b L H J ds :=
  ⟨fun i L' H' e s h => x.go i L' H' e.ll s h, fun L' H' e s => x.stop L' H' e.ll s, fun i d L' H' y H2 e s h => x.yld i d L' H' y H2 e.ll s h⟩
abbrev DTI := Env → (List PyData → Bool → Env → Prop) → Prop
structure SI (w : Wx) (pk : Bool) (t : TI) (f : DTI) : Prop where
  mono : ∀ ε (A B : List PyData → Bool → Env → Prop), (∀ r b ε', A r b ε' → B r b ε') → f ε A → f ε B
  run : ∀ (Z : Zx) (O : Addr → Prop) (σ : L2.St) (ε : Env) (L H : Hp) (R : It → Hp → Prop), Rep w Z O L H σ ε → f ε (fun ds fl ε' => ∀ J L' H', Rep w Z O L' H' σ ε' → Ext Z.b L H L' H' → WalkE pk Z.b L' H' J ds → (fl = true → WalkS pk L' J ds) → R J H') → t σ H R
section
variable {w : Wx} {K : PySem.W.Frag} {ta tb te : TE} {f g : DTE}
theorem walkS_list {L : Hp} {a : Addr} {xs : List V} {ds : List PyData} (h : L a = some (.lst xs)) (r : DVs L xs ds) : WalkS false L (Itl K a) ds := by
  have hl := r.len
  refine ⟨fun i L' H' s1 s2 hi => ?_, fun L' H' s1 s2 => ?_, fun i d L' H' x H2 s1 s2 hd y => ?_⟩
  · exact ⟨xs, xs[i]'(by omega), SqL.of (s2 _ _ (s1 _ _ h)), List.getElem?_eq_getElem (by omega)⟩
  · exact ⟨xs, SqL.of (s2 _ _ (s1 _ _ h)), by omega⟩
  · obtain ⟨rfl, y2⟩ := y
    have hx := y2 xs (SqL.of (s2 _ _ (s1 _ _ h)))
    obtain ⟨v, h1, h2⟩ := r.get hd
    rw [hx] at h1
    cases h1
    exact ⟨L', Ext.refl _ _ _, s2, h2.to s1⟩
theorem walkS_tup {L : Hp} {a : Addr} {xs : List V} {ds : List PyData} (h : Sol L a xs) (r : DVs L xs ds) : WalkS false L (Itt K a) ds := by
  have hl := r.len
  refine ⟨fun i L' H' s1 s2 hi => ?_, fun L' H' s1 s2 => ?_, fun i d L' H' x H2 s1 s2 hd y => ?_⟩
  · exact ⟨xs, xs[i]'(by omega), ((h.to s1).to s2).seq, List.getElem?_eq_getElem (by omega)⟩
  · exact ⟨xs, ((h.to s1).to s2).seq, by omega⟩
  · obtain ⟨rfl, y2⟩ := y
    have hx := y2 xs (((h.to s1).to s2).seq)
    obtain ⟨v, h1, h2⟩ := r.get hd
    rw [hx] at h1
    cases h1
    exact ⟨L', Ext.refl _ _ _, s2, h2.to s1⟩
theorem walkE_list {b : Option Addr} {L H : Hp} {a : Addr} {xs : List V} {ds : List PyData} (hb : b ≠ some a) (h : H a = some (.lst xs)) (r : DVs L xs ds) : WalkE false b L H (Itl K a) ds := by
  have hl := r.len
  refine ⟨fun i L' H' e s2 hi => ?_, fun L' H' e s2 => ?_, fun i d L' H' x H2 e s2 hd y => ?_⟩
  · exact ⟨xs, xs[i]'(by omega), SqL.of (e.hh _ _ h hb), List.getElem?_eq_getElem (by omega)⟩
  · exact ⟨xs, SqL.of (e.hh _ _ h hb), by omega⟩
  · obtain ⟨rfl, y2⟩ := y
    have hx := y2 xs (SqL.of (e.hh _ _ h hb))
    obtain ⟨v, h1, h2⟩ := r.get hd
    rw [hx] at h1
    cases h1
    exact ⟨L', Ext.refl _ _ _, s2, h2.to e.ll⟩
def dIter (f : DTE)  (ε : Env) (Q : List PyData → Bool → Env → Prop) : Prop := f ε fun r ε1 => match r.pub with
  | .sh (.list ds) => Q ds true ε1
  | .sh (.tuple ds) => Q ds true ε1
  | .br _ ds => Q ds false ε1
  | _ => False
theorem si_seq (hf : SE w ta f) : SI w false (iSeq K ta) (dIter f) := by
  constructor
  · intro ε A B h q
    refine hf.mono _ _ _ (fun r ε1 q => ?_) q
    split at q
    · exact h _ _ _ q
    · exact h _ _ _ q
    · exact h _ _ _ q
    · exact q.elim
  · intro Z O σ ε L H R X q
    refine hf.run Z O σ ε L H _ X (hf.mono _ _ _ (fun r ε1 q => ?_) q)
    intro v L1 H1 X1 e1 r1
    obtain ⟨L2, X2, e2, r2⟩ := publ X1 e1 r1
    split at q
    · rename_i ds hd
      rw [hd] at r2
      cases (show DV L2 v (.list ds) from r2) with
      | lst h1 h2 =>
        have W := walkS_list (K := K) h1 h2
        exact ⟨_, rfl, .inl ⟨⟨_, SqL.of (X2.lh _ _ h1)⟩, q _ L2 H1 X2 e2 W.e fun _ => W⟩⟩
    · rename_i ds hd
      rw [hd] at r2
      cases (show DV L2 v (.tuple ds) from r2) with
      | tup h1 h2 =>
        have W := walkS_tup (K := K) h1 h2
        exact ⟨_, rfl, .inr ⟨⟨_, (h1.to X2.lh).seq⟩, q _ L2 H1 X2 e2 W.e fun _ => W⟩⟩
    · rename_i i ds hd
      rw [hd] at r2
      obtain ⟨a, xs, rfl, h1, h2, h3, h4, h5, h6⟩ := r2
      exact ⟨a, rfl, .inl ⟨⟨_, SqL.of h5⟩, q _ L2 H1 X2 e2 (walkE_list (X2.nob h3) h5 h6) (fun z => nomatch z)⟩⟩
    · exact q.elim
/-- the ints from lo on, n of them -/
def rgD (lo : Int) (n : Nat) : List PyData := (List.range n).map fun i => .int (lo + (i : Nat))
theorem rgD_len (lo : Int) (n : Nat) : (rgD lo n).length = n := by unfold rgD; rw [List.length_map, List.length_range]
theorem rgD_get {lo : Int} {n i : Nat} {d : PyData} (h : (rgD lo n)[i]? = some d) : i < n ∧ d = .int (lo + (i : Nat)) := by
  have hi : i < n := by
    have := (List.getElem?_eq_some_iff.mp h).1
    rwa [rgD_len] at this
  unfold rgD at h
  rw [List.getElem?_map, List.getElem?_range hi] at h
  cases h
  exact ⟨hi, rfl⟩
theorem walkS_rg {L : Hp} {lo : Int} {n : Nat} : WalkS false L (Itr lo n) (rgD lo n) := by
  refine ⟨fun i L' H' s1 s2 hi => ?_, fun L' H' s1 s2 => ?_, fun i d L' H' x H2 s1 s2 hd y => ?_⟩
  · rw [rgD_len] at hi; exact hi
  · rw [rgD_len]; exact Nat.le_refl n
  · obtain ⟨rfl, rfl⟩ := y
    obtain ⟨_, rfl⟩ := rgD_get hd
    exact ⟨L', Ext.refl _ _ _, s2, .int _⟩
def dRng1 (f : DTA)  (ε : Env) (Q : List PyData → Bool → Env → Prop) : Prop := f ε fun rs ε1 => match rs with
  | [.sh (.int j)] => (-(2 ^ 62) ≤ j ∧ j < 2 ^ 62) ∧ Q (rgD 0 j.toNat) true ε1
  | _ => False
theorem si_rng1 {n : Nat} {t : TA} {f : DTA} (hf : SA w n t f) : SI w false (iRng1 t) (dRng1 f) := by
  constructor
  · intro ε A B h q
    refine hf.mono _ _ _ (fun r ε1 q => ?_) q
    split at q
    · exact ⟨q.1, h _ _ _ q.2⟩
    · exact q.elim
  · intro Z O σ ε L H R X q
    refine hf.run Z O σ ε L H _ X (hf.mono _ _ _ (fun r ε1 q => ?_) q)
    intro vs L1 H1 X1 e1 r1 hl np
    split at q
    · rename_i j
      cases r1 with
      | cons r1 r2 =>
        cases r2
        cases (show DV L1 _ (.int j) from r1)
        exact ⟨j, rfl, q.1.1, q.1.2, q.2 _ L1 H1 X1 e1 walkS_rg.e fun _ => walkS_rg⟩
    · exact q.elim
def dRng2 (f : DTA)  (ε : Env) (Q : List PyData → Bool → Env → Prop) : Prop := f ε fun rs ε1 => match rs with
  | [.sh (.int i), .sh (.int j)] => (-(2 ^ 62) ≤ i ∧ i < 2 ^ 62 ∧ -(2 ^ 62) ≤ j ∧ j < 2 ^ 62) ∧ Q (rgD i (j - i).toNat) true ε1
  | _ => False
end
abbrev DTG := PyData → Env → (Env → Prop) → Prop
/-- but for the slots js all is as it was -/
def But (js : List Nat) (σ σ' : L2.St) : Prop := σ'.length = σ.length ∧ ∀ i : Nat, i ∉ js → σ'[i]? = σ[i]?
structure SG (w : Wx) (pk : Bool) (js : List Nat) (g : TG) (γ : DTG) : Prop where
  mono : ∀ d ε (A B : Env → Prop), (∀ ε', A ε' → B ε') → γ d ε A → γ d ε B
  run : ∀ (Z : Zx) (O : Addr → Prop) (σ : L2.St) (ε : Env) (L H : Hp) (v : V) (d : PyData) (Q : L2.St → Hp → Prop), Rep w Z O L H σ ε → VI pk L H v d → γ d ε (fun ε' => ∀ σ', Rep w Z O L H σ' ε' → But js σ σ' → Q σ' H) → g v σ H Q
abbrev DTGs := List PyData → Env → (Env → Prop) → Prop
structure SGs (w : Wx) (js : List Nat) (g : TGs) (γ : DTGs) : Prop where
  mono : ∀ d ε (A B : Env → Prop), (∀ ε', A ε' → B ε') → γ d ε A → γ d ε B
  run : ∀ (Z : Zx) (O : Addr → Prop) (σ : L2.St) (ε : Env) (L H : Hp) (v : List V) (d : List PyData) (Q : L2.St → Hp → Prop), Rep w Z O L H σ ε → DVs L v d → γ d ε (fun ε' => ∀ σ', Rep w Z O L H σ' ε' → But js σ σ' → Q σ' H) → g v σ H Q
section
variable {w : Wx} {K : PySem.W.Frag}
def dName (i : Nat)  (d : PyData) (ε : Env) (Q : Env → Prop) : Prop := Q (ε.set i (.sh d))
theorem sg_name {i : Nat} : SG w false [i] (gName i) (dName i) := ⟨fun _ _ _ _ h q => h _ q, fun Z O σ ε L H v d Q X r q => q _ (X.sh r) ⟨List.length_set, fun j hj => by
  rw [List.getElem?_set, if_neg (fun e => hj (by rw [e]; exact List.mem_singleton.mpr rfl))]⟩⟩
def dGNil  (ds : List PyData) (ε : Env) (Q : Env → Prop) : Prop := match ds with
  | [] => Q ε
  | _ => False
def dGCons (γ : DTG) (γs : DTGs)  (ds : List PyData) (ε : Env) (Q : Env → Prop) : Prop := match ds with
  | d :: ds => γ d ε fun ε1 => γs ds ε1 Q
  | _ => False
theorem sgs_nil : SGs w [] gNil dGNil := by
  constructor
  · intro ds ε A B h q
    cases ds with
    | nil => exact h _ q
    | cons _ _ => exact q.elim
  · intro Z O σ ε L H v d Q X r q
    cases r with
    | nil => exact ⟨rfl, q _ X ⟨rfl, fun _ _ => rfl⟩⟩
    | cons _ _ => exact q.elim
theorem sgs_cons {g : TG} {gs : TGs} {γ : DTG} {γs : DTGs} {js ks : List Nat} (hg : SG w false js g γ) (hs : SGs w ks gs γs) : SGs w (js ++ ks) (gCons g gs) (dGCons γ γs) := by
  constructor
  · intro ds ε A B h q
    cases ds with
    | nil => exact q.elim
    | cons d ds => exact hg.mono _ _ _ _ (fun ε1 q => hs.mono _ _ _ _ h q) q
  · intro Z O σ ε L H v d Q X r q
    cases r with
    | nil => exact q.elim
    | cons r rr =>
      refine ⟨_, _, rfl, hg.run Z O σ ε L H _ _ _ X r (hg.mono _ _ _ _ (fun ε1 q σ1 X1 b1 => ?_) q)⟩
      refine hs.run Z O σ1 ε1 L H _ _ _ X1 rr (hs.mono _ _ _ _ (fun ε2 q σ2 X2 b2 => ?_) q)
      exact q σ2 X2 ⟨b2.1.trans b1.1, fun i hi => (b2.2 i fun h => hi (List.mem_append_right _ h)).trans (b1.2 i fun h => hi (List.mem_append_left _ h))⟩
def dGTup (n : Nat) (γs : DTGs)  (d : PyData) (ε : Env) (Q : Env → Prop) : Prop := match d with
  | .tuple ds => ds.length = n ∧ γs ds ε Q
  | _ => False
theorem sg_tup {pk : Bool} {n : Nat} {gs : TGs} {γs : DTGs} {js : List Nat} (hs : SGs w js gs γs) : SG w pk js (gTup K n gs) (dGTup n γs) := by
  constructor
  · intro d ε A B h q
    cases d with
    | tuple ds => exact ⟨q.1, hs.mono _ _ _ _ h q.2⟩
    | _ => exact q.elim
  · intro Z O σ ε L H v d Q X r q
    have solid : DV L v d → gTup K n gs v σ H Q := fun r => by
      cases r with
      | tup h1 h2 => exact ⟨_, _, rfl, (h1.to X.lh).seq, by rw [h2.len]; exact q.1, hs.run Z O σ ε L H _ _ _ X h2 q.2⟩
      | _ => exact q.elim
    cases pk with
    | false => exact solid r
    | true =>
      rcases r with r | ⟨a, xs, ds, rfl, rfl, h1, h2⟩
      · exact solid r
      · exact ⟨_, _, rfl, SqT.of h1, by rw [h2.len]; exact q.1, hs.run Z O σ ε L H _ _ _ X h2 q.2⟩
variable {ta : TE} {f : DTE}
def dAsg (f : DTE) (γ : DTG)  (Δ : DEnds) (ε : Env) : Prop := f ε fun r ε1 => match r.pub with
  | .sh d => γ d ε1 Δ.nx
  | _ => False
def forD (γ : DTG) (p : DTS) (Δ : DEnds) : List PyData → Env → Prop
  | [], ε => Δ.nx ε
  | d :: ds, ε => γ d ε fun ε1 => p { nx := forD γ p Δ ds, rt := Δ.rt, bk := Δ.nx, ct := forD γ p Δ ds } ε1
def dFor (i : DTI) (γ : DTG) (p : DTS)  (Δ : DEnds) (ε : Env) : Prop := i ε fun ds fl ε1 => fl = true ∧ forD γ p Δ ds ε1
/-- what is known of the pinned view may be forgotten -/
theorem Rep.unpin {Z : Zx} {O : Addr → Prop} {σ : L2.St} {ε : Env} {L H P : Hp} (h : Same Z.P P) (ph : w.Φ Z) (x : Rep w { Z with P := P } O L H σ ε) : Rep w Z O L H σ ε :=
  ⟨x.lh, h.trans x.pn, x.ex, x.bo, x.oh, x.len, x.sl, x.di, ph⟩
theorem Rep.pin {Z : Zx} {O : Addr → Prop} {σ : L2.St} {ε : Env} {L H P : Hp} (h0 : Same Z.P P) (h : Same P L) (x : Rep w Z O L H σ ε) : Rep w { Z with P := P } O L H σ ε :=
  ⟨x.lh, h, x.ex, x.bo, x.oh, x.len, x.sl, x.di, w.up _ _ h0 x.ph⟩
theorem forD_mono {pk : Bool} {γ : DTG} {p : DTS} {t : TS} {g : TG} {js : List Nat} (hg : SG w pk js g γ) (hp : SS w t p) {Δ Δ' : DEnds} (l : DEnds.le Δ Δ') : ∀ (ds : List PyData) (ε : Env), forD γ p Δ ds ε → forD γ p Δ' ds ε
  | [], ε, z => l.nx ε z
  | d :: ds, ε, z => hg.mono _ _ _ _ (fun ε1 z => hp.mono { nx := forD γ p Δ ds, rt := Δ.rt, bk := Δ.nx, ct := forD γ p Δ ds } _ ε1 ⟨forD_mono hg hp l ds, l.rt, l.nx, forD_mono hg hp l ds⟩ z) z
theorem ss_for {pk : Bool} {wi : TI} {i : DTI} {g : TG} {γ : DTG} {t : TS} {p : DTS} {js : List Nat} (hi : SI w pk wi i) (hg : SG w pk js g γ) (hp : SS w t p) : SS w (tFor wi g t) (dFor i γ p) := by
  constructor
  · intro Δ Δ' ε l z
    exact hi.mono _ _ _ (fun ds b ε1 z => ⟨z.1, forD_mono hg hp l ds ε1 z.2⟩) z
  · intro Z O σ ε L H D Δ X E z
    refine hi.run Z O σ ε L H _ X (hi.mono _ _ _ (fun ds b ε1 z => ?_) z)
    intro J L1 H1 X1 e1 _ W
    obtain ⟨hb, z⟩ := z
    have W := W hb
    have sP := X1.pn
    refine ⟨fun i m σ H => i + m = ds.length ∧ ∃ O L ε, Rep w { Z with P := L1 } O L H σ ε ∧ forD γ p Δ (ds.drop i) ε, ⟨ds.length, by omega, O, L1, ε1, X1.pin X1.pn (Same.refl _), by rw [List.drop_zero]; exact z⟩, ?_⟩
    rintro i m σ2 H2 ⟨him, O2, L2, ε2, X2, z2⟩
    by_cases hlt : i < ds.length
    · refine .inr ⟨W.go i L2 H2 X2.pn X2.lh hlt, fun σ' H' => ∃ O L ε, Rep w { Z with P := L1 } O L H' σ' ε ∧ forD γ p Δ (ds.drop (i + 1)) ε, fun σ' H' q => ⟨m - 1, by omega, by omega, q⟩, fun x H' y => ?_⟩
      have hd : ds[i]? = some ds[i] := List.getElem?_eq_getElem hlt
      rw [List.drop_eq_getElem_cons hlt] at z2
      obtain ⟨L3, e3, s3, r3⟩ := W.yld i ds[i] L2 H2 x H' X2.pn X2.lh hd y
      have X3 := X2.step e3 s3
      refine hg.run _ O2 σ2 ε2 L3 H' x ds[i] _ X3 r3 (hg.mono _ _ _ _ (fun ε3 z3 σ3 X4 _ => ?_) z2)
      refine hp.run _ O2 σ3 ε3 L3 H' _ { nx := forD γ p Δ (ds.drop (i + 1)), rt := Δ.rt, bk := Δ.nx, ct := forD γ p Δ (ds.drop (i + 1)) } X4 ⟨fun O σ ε L H X z => ⟨O, L, ε, X, z⟩, fun O σ ε L H v r X q z => E.rt O σ ε L H v r (X.unpin sP X1.ph) q z, fun O σ ε L H X z => E.nx O σ ε L H (X.unpin sP X1.ph) z, fun O σ ε L H X z => ⟨O, L, ε, X, z⟩⟩ z3
    · have e : i = ds.length := by omega
      subst e
      rw [List.drop_length] at z2
      exact .inl ⟨W.stop L2 H2 X2.pn X2.lh, E.nx O2 σ2 ε2 L2 H2 (X2.unpin sP X1.ph) z2⟩
def whileN (c : DTT) (p : DTS) (Δ : DEnds) : Nat → Env → Prop
  | 0, _ => False
  | n + 1, ε => c ε fun b ε1 => if b = true then p { nx := whileN c p Δ n, rt := Δ.rt, bk := Δ.nx, ct := whileN c p Δ n } ε1 else Δ.nx ε1
def dWhile (c : DTT) (p : DTS)  (Δ : DEnds) (ε : Env) : Prop := ∃ n, whileN c p Δ n ε
theorem whileN_mono {c : DTT} {p : DTS} {tc : TT} {t : TS} (hc : ST w tc c) (hp : SS w t p) {Δ Δ' : DEnds} (l : DEnds.le Δ Δ') : ∀ (n : Nat) (ε : Env), whileN c p Δ n ε → whileN c p Δ' n ε
  | 0, ε, z => z
  | n + 1, ε, z => by
    refine hc.mono _ _ _ (fun b ε1 z => ?_) z
    cases b with
    | true => exact iteT (hp.mono { nx := whileN c p Δ n, rt := Δ.rt, bk := Δ.nx, ct := whileN c p Δ n } _ ε1 ⟨whileN_mono hc hp l n, l.rt, l.nx, whileN_mono hc hp l n⟩ (by rw [if_pos rfl] at z; exact z))
    | false => exact iteF (l.nx _ (by rw [if_neg Bool.false_ne_true] at z; exact z))
theorem ss_while {c : DTT} {p : DTS} {tc : TT} {t : TS} (hc : ST w tc c) (hp : SS w t p) : SS w (tWhile tc t) (dWhile c p) := by
  constructor
  · rintro Δ Δ' ε l ⟨n, z⟩
    exact ⟨n, whileN_mono hc hp l n ε z⟩
  · rintro Z O σ ε L H D Δ X E ⟨n, z⟩
    refine ⟨fun m σ H => ∃ O L ε, Rep w Z O L H σ ε ∧ whileN c p Δ m ε, ⟨n, O, L, ε, X, z⟩, ?_⟩
    rintro m σ1 H1 ⟨O1, L1, ε1, X1, z1⟩
    cases m with
    | zero => exact z1.elim
    | succ m =>
      refine hc.run Z O1 σ1 ε1 L1 H1 _ X1 (hc.mono _ _ _ (fun b ε2 z2 => ?_) z1)
      intro L2 H2 X2 e2
      cases b with
      | true =>
        rw [if_pos rfl] at z2
        refine iteT ⟨fun σ' H' => ∃ O L ε, Rep w Z O L H' σ' ε ∧ whileN c p Δ m ε, fun σ' H' q => ⟨m, Nat.lt_succ_self m, q⟩, ?_⟩
        exact hp.run Z O1 σ1 ε2 L2 H2 _ { nx := whileN c p Δ m, rt := Δ.rt, bk := Δ.nx, ct := whileN c p Δ m } X2 ⟨fun O σ ε L H X z => ⟨O, L, ε, X, z⟩, E.rt, E.nx, fun O σ ε L H X z => ⟨O, L, ε, X, z⟩⟩ z2
      | false =>
        rw [if_neg Bool.false_ne_true] at z2
        exact iteF (E.nx O1 σ1 ε2 L2 H2 X2 z2)
end
end Lp

namespace Lp
open PySem PySem.Spec PyProof.Rows L2
theorem Rep.exts {w : Wx} {Z : Zx} {O : Addr → Prop} {σ : L2.St} {ε : Env} {L H L' H' : Hp} {c : Nat} (x : Rep w Z O L H σ ε) (e : Ext Z.b L H L' H') (s : Same L' H') (hc : ∀ b, Z.b = some b → Box H' b c) : Rep w Z O L' H' σ ⟨ε.s, c⟩ := by
  refine ⟨s, x.pn.trans e.ll, x.ex.trans e, fun b hb => ?_, fun a h => ⟨e.dom a (x.oh a h).1, (x.oh a h).2⟩, x.len, fun i y hy => ?_, x.di, x.ph⟩
  · obtain ⟨h1, h2, h3⟩ := x.bo b hb
    exact ⟨e.fr b h1 h2.there, hc b hb, h3⟩
  · obtain ⟨o, h1, h2⟩ := x.sl i y hy
    refine ⟨o, h1, ?_⟩
    cases y with
    | un => trivial
    | sh d =>
      obtain ⟨v, e1, e2⟩ := h2
      exact ⟨v, e1, e2.to e.ll⟩
    | ow ds =>
      obtain ⟨a, xs, e1, e2, e3, e4, e5, e6⟩ := h2
      exact ⟨a, xs, e1, e2, e.fr a e3 (by rw [e5]; exact (fun z => nomatch z)), e4, e.hh _ _ e5 (x.nob e4), e6.to e.ll⟩
    | bx => exact h2
    | st S n =>
      obtain ⟨a, e1, e2, e3, e4, e5⟩ := h2
      exact ⟨a, e1, e2, e.fr a e3 (by rw [e5]; exact (fun z => nomatch z)), e4, e.hh _ _ e5 (x.nob e4)⟩
    | raw u => exact h2
    | exn x => obtain ⟨v, e1, e2⟩ := h2; exact ⟨v, e1, e2.to e.ll⟩
    | dco xs =>
      obtain ⟨a, e1, e2, e3, e4, ⟨ob, e5⟩, e6⟩ := h2
      exact ⟨a, e1, e2, e.fr a e3 (by rw [e5]; exact (fun z => nomatch z)), e4, ⟨ob, e.hh _ _ e5 (x.nob e4)⟩, e6.to e.ll⟩
    | sto M =>
      obtain ⟨a, A, e1, e2, e3, e4, e5, e6⟩ := h2
      exact ⟨a, A, e1, e2, e.fr a e3 (by rw [e5]; exact (fun z => nomatch z)), e4, e.hh _ _ e5 (x.nob e4), e6.to e.ll⟩
    | dsh xs => obtain ⟨v, e1, e2⟩ := h2; exact ⟨v, e1, e2.to e.ll⟩
    | gen g => obtain ⟨v, e1, e2⟩ := h2; exact ⟨v, e1, g.mono e.ll e2⟩
abbrev DSp := List SV → Nat → (R → Nat → Prop) → Prop
def MonF (F : DSp) : Prop := ∀ args c (A B : R → Nat → Prop), (∀ r c', A r c' → B r c') → F args c A → F args c B
def CallZ (b : Option Addr) (L H : Hp) (c : Nat) : Prop := Same L H ∧ ∀ a, b = some a → L a = none ∧ Box H a c
def ArgR (b : Option Addr) (L : Hp) (v : V) : SV → Prop
  | .sh d => DV L v d
  | .bx => ∃ a, b = some a ∧ v = .ref a
  | .raw u => v = u
  | .dsh xs => DVd L v xs
  | .gen g => g.ok L v
  | _ => False
inductive ArgsR (b : Option Addr) (L : Hp) : List V → List SV → Prop
  | nil : ArgsR b L [] []
  | cons {v : V} {vs : List V} {x : SV} {xs : List SV} : ArgR b L v x → ArgsR b L vs xs → ArgsR b L (v :: vs) (x :: xs)
def spD (n : Nat) (F : DSp) : Sp := fun vs H Q _ => ∃ (b : Option Addr) (L : Hp) (c : Nat) (args : List SV), vs.length = n ∧ CallZ b L H c ∧ ArgsR b L vs args ∧
  F args c fun r c' => ∀ v L' H', CallZ b L' H' c' → Ext b L H L' H' → VR0 H L' H' v r → Q v H'
def R.arg : R → Option SV
  | .sh d => some (.sh d)
  | .br _ ds => some (.sh (.list ds))
  | .bx => some .bx
  | .raw v => some (.raw v)
  | .dsh xs => some (.dsh xs)
  | .gen g => some (.gen g)
  | _ => none
def argsOf : List R → Option (List SV)
  | [] => some []
  | r :: rs => match r.arg, argsOf rs with
    | some x, some xs => some (x :: xs)
    | _, _ => none
def hasBr : List R → Bool
  | [] => false
  | .br _ _ :: _ => true
  | _ :: rs => hasBr rs
def immR : R → Bool
  | .sh d => imm d
  | .nw ds => imms ds
  | _ => false
def dArgs (F : DSp) (rs : List R) (ε : Env) (Q : R → Env → Prop) : Prop := match argsOf rs with
  | some args => F args ε.c fun r c => match hasBr rs with
    | true => immR r = true ∧ Q r ⟨ε.s, c⟩
    | false => Q r ⟨ε.s, c⟩
  | none => False
theorem dArgs_mono {F : DSp} (hF : MonF F) {rs : List R} {ε : Env} {A B : R → Env → Prop} (h : ∀ r ε, A r ε → B r ε) (q : dArgs F rs ε A) : dArgs F rs ε B := by
  unfold dArgs at q ⊢
  split at q
  · refine hF _ _ _ _ (fun r c q => ?_) q
    split at q
    · exact ⟨q.1, h _ _ q.2⟩
    · exact h _ _ q
  · exact q.elim
section
variable {w : Wx} {Z : Zx} {O : Addr → Prop} {σ : L2.St} {ε : Env} {L H Hs : Hp}
theorem args_plain : ∀ {vs : List V} {rs : List R} {args : List SV}, VRs w Z O σ Hs L H vs rs → argsOf rs = some args → hasBr rs = false → ArgsR Z.b L vs args
  | _, _, _, .nil, e, _ => by cases e; exact .nil
  | _, r :: rs, args, .cons a b, e, h => by
    unfold argsOf at e
    split at e
    · rename_i x xs hx hxs
      cases e
      have h2 : hasBr rs = false := by cases r <;> first | exact h | cases h
      refine .cons ?_ (args_plain b hxs h2)
      cases r with
      | sh d => cases hx; exact a
      | br i ds => cases h
      | bx => cases hx; exact a
      | raw u => cases hx; exact a
      | nw ds => cases hx
      | sr i S n => cases hx
      | exn y => cases hx
      | dnw xs => cases hx
      | dbr i xs => cases hx
      | srt i M => cases hx
      | dsh xs => cases hx; exact a
      | gen g => cases hx; exact a
    · cases e
/-- the lists that slots own and arguments lend -/
def lent (σ : L2.St) (rs : List R) (a : Addr) : Prop := ∃ i ds, R.br i ds ∈ rs ∧ σ[i]? = some (some (.ref a))
theorem args_lent {L2 : Hp} (s : Same L L2) : ∀ {vs : List V} {rs : List R} {args : List SV}, VRs w Z O σ Hs L H vs rs → argsOf rs = some args → (∀ a, lent σ rs a → L2 a = H a) → ArgsR Z.b L2 vs args
  | _, _, _, .nil, e, _ => by cases e; exact .nil
  | _, r :: rs, args, .cons x y, e, h => by
    unfold argsOf at e
    split at e
    · rename_i z zs hz hzs
      cases e
      refine .cons ?_ (args_lent s y hzs fun a ⟨i, ds, h1, h2⟩ => h a ⟨i, ds, List.mem_cons_of_mem _ h1, h2⟩)
      cases r with
      | sh d => cases hz; exact DV.to x s
      | br i ds =>
        cases hz
        obtain ⟨a, xs, rfl, h1, h2, h3, h4, h5, h6⟩ := x
        exact .lst (by rw [h a ⟨i, ds, List.mem_cons_self, h1⟩]; exact h5) (h6.to s)
      | bx => cases hz; exact x
      | raw u => cases hz; exact x
      | nw ds => cases hz
      | sr i S n => cases hz
      | exn y => cases hz
      | dnw xs => cases hz
      | dbr i xs => cases hz
      | srt i M => cases hz
      | dsh xs => cases hz; exact DVd.to s x
      | gen g => cases hz; exact g.mono s x
    · cases e
theorem lent_own : ∀ {vs : List V} {rs : List R} {a : Addr}, VRs w Z O σ Hs L H vs rs → lent σ rs a → O a ∧ Z.H0 a = none ∧ L a = none ∧ ∃ xs, H a = some (.lst xs)
  | _, _, _, .nil, h => by obtain ⟨i, ds, h1, _⟩ := h; cases h1
  | _, r :: rs, a, .cons x y, h => by
    obtain ⟨i, ds, h1, h2⟩ := h
    rcases List.mem_cons.mp h1 with rfl | h1
    · obtain ⟨b, xs, _, g1, g2, g3, g4, g5, g6⟩ := x
      rw [h2] at g1
      cases g1
      exact ⟨g2, g3, g4, xs, g5⟩
    · exact lent_own y ⟨i, ds, h1, h2⟩
open Classical in
theorem run_args {n : Nat} {F : DSp} (hF : MonF F) {vs : List V} {rs : List R} {Q : VK} {E : XK} {L0 H0 : Hp} (X : Rep w Z O L H σ ε) (e : Ext Z.b L0 H0 L H) (r : VRs w Z O σ Hs L H vs rs) (hn : vs.length = n)
    (q : dArgs F rs ε fun r ε' => ∀ v L' H', Rep w Z O L' H' σ ε' → Ext Z.b L0 H0 L' H' → VR w Z O σ H0 L' H' v r → Q v H') : spD n F vs H Q E := by
  unfold dArgs at q
  split at q
  · rename_i args ha
    have cz : ∀ b, Z.b = some b → L b = none ∧ Box H b ε.c := fun b hb => ⟨(X.bo b hb).1, (X.bo b hb).2.1⟩
    cases hb : hasBr rs with
    | false =>
      rw [hb] at q
      refine ⟨Z.b, L, ε.c, args, hn, ⟨X.lh, cz⟩, args_plain r ha hb, hF _ _ _ _ (fun r c q => ?_) q⟩
      intro v L' H' z' e' r'
      exact q v L' H' (X.exts e' z'.1 fun b hb => (z'.2 b hb).2) (e.trans e') ((r'.vr X).back e)
    | true =>
      rw [hb] at q
      let L2 : Hp := fun a => if lent σ rs a then H a else L a
      have h1 : ∀ a, lent σ rs a → L2 a = H a := fun a h => if_pos h
      have h0 : ∀ a, ¬ lent σ rs a → L2 a = L a := fun a h => if_neg h
      have s1 : Same L L2 := fun a o h => by
        by_cases q : lent σ rs a
        · rw [h1 a q]; exact X.lh a o h
        · rw [h0 a q]; exact h
      have s2 : Same L2 H := fun a o h => by
        by_cases q : lent σ rs a
        · rw [h1 a q] at h; exact h
        · rw [h0 a q] at h; exact X.lh a o h
      refine ⟨Z.b, L2, ε.c, args, hn, ⟨s2, fun b hb => ⟨?_, (cz b hb).2⟩⟩, args_lent s1 r ha h1, hF _ _ _ _ (fun u c q => ?_) q⟩
      · rw [h0 b fun h => (X.bo b hb).2.2 (lent_own r h).2.1]; exact (cz b hb).1
      intro v L' H' z' e' r'
      obtain ⟨hi, q⟩ := q
      let L3 : Hp := fun a => if lent σ rs a then none else L' a
      have k1 : ∀ a, lent σ rs a → L3 a = none := fun a h => if_pos h
      have k0 : ∀ a, ¬ lent σ rs a → L3 a = L' a := fun a h => if_neg h
      have s3 : Same L3 H' := fun a o h => by
        by_cases q : lent σ rs a
        · rw [k1 a q] at h; cases h
        · rw [k0 a q] at h; exact z'.1 a o h
      have e3 : Ext Z.b L H L3 H' := by
        refine ⟨fun a o h => ?_, e'.hh, e'.dom, fun a h d => ?_⟩
        · by_cases q : lent σ rs a
          · rw [(lent_own r q).2.2.1] at h; cases h
          · rw [k0 a q]; exact e'.ll a o (s1 a o h)
        · by_cases q : lent σ rs a
          · exact k1 a q
          · rw [k0 a q]; exact e'.fr a (by rw [h0 a q]; exact h) d
      have tups : ∀ a xs, Sol L' a xs → Sol L3 a xs := fun a xs ⟨o, ho, h⟩ => by
        by_cases q : lent σ rs a
        · obtain ⟨_, _, _, ys, hy⟩ := lent_own r q
          have := e'.ll a _ (by rw [h1 a q]; exact hy)
          rw [this] at h; cases h
        · exact ⟨o, ho, by rw [k0 a q]; exact h⟩
      have r3 : VR0 H L3 H' v u := by
        cases u with
        | sh d => exact DV.imm tups d v hi r'
        | nw ds =>
          obtain ⟨a, xs, rfl, g1, g2, g3, g4⟩ := r'
          refine ⟨a, xs, rfl, g1, ?_, g3, DVs.imm tups ds xs hi g4⟩
          by_cases q : lent σ rs a
          · exact k1 a q
          · rw [k0 a q]; exact g2
        | dnw xs => cases hi
        | dsh xs => cases hi
        | gen g => cases hi
        | _ => exact r'.elim
      exact q v L3 H' (X.exts e3 s3 fun b hb => (z'.2 b hb).2) (e.trans e3) ((r3.vr X).back e)
  · exact q.elim
end
section
variable {w : Wx} {K : PySem.W.Frag} {ta te : TE} {f : DTE}
def dCall (F : DSp) (f : DTA)  (ε : Env) (Q : R → Env → Prop) : Prop := f ε fun rs ε1 => dArgs F rs ε1 Q
theorem se_call {n : Nat} {F : DSp} {t : TA} {f : DTA} {E : XK} (hF : MonF F) (hf : SA w n t f) : SE w (tCall (spD n F) [] E t) (dCall F f) := by
  constructor
  · intro ε A B h q
    exact hf.mono _ _ _ (fun rs ε1 q => dArgs_mono hF h q) q
  · intro Z O σ ε L H Q X q
    refine hf.run Z O σ ε L H _ X (hf.mono _ _ _ (fun rs ε1 q => ?_) q)
    intro vs L1 H1 X1 e1 r1 hl np
    rw [List.append_nil]
    exact run_args hF X1 e1 r1 (by rw [r1.len, hl]) q
def dCallR (F : DSp) (f : DTA)  (ε : Env) (Q : R → Env → Prop) : Prop := f ε fun rs ε1 => dArgs F rs.reverse ε1 Q
theorem VRs.snoc {Z : Zx} {O : Addr → Prop} {σ : L2.St} {Hs L H : Hp} {v : V} {r : R} (x : VR w Z O σ Hs L H v r) : ∀ {vs : List V} {rs : List R}, VRs w Z O σ Hs L H vs rs → VRs w Z O σ Hs L H (vs ++ [v]) (rs ++ [r])
  | _, _, .nil => .cons x .nil
  | _, _, .cons a b => .cons a (VRs.snoc x b)
def wipeE (ε : Env) : List Nat → List SV
  | [] => ε.s
  | v :: vs => (wipeE ε vs).set v .un
theorem wipe_get (σ : L2.St) (i : Nat) : ∀ vs : List Nat, (wipe σ vs)[i]? = if i ∈ vs then (if i < σ.length then some none else none) else σ[i]?
  | [] => by rw [if_neg List.not_mem_nil]; rfl
  | v :: vs => by
    unfold wipe
    rw [List.getElem?_set, wipe_length, wipe_get σ i vs]
    by_cases e : v = i
    · subst e
      rw [if_pos rfl, if_pos List.mem_cons_self]
    · rw [if_neg e]
      by_cases m : i ∈ vs
      · rw [if_pos m, if_pos (List.mem_cons_of_mem _ m)]
      · rw [if_neg m, if_neg (fun h => (List.mem_cons.mp h).elim (fun q => e q.symm) m)]
theorem wipe_but {σ σ' : L2.St} {vs : List Nat} (h : But vs (wipe σ vs) σ') : wipe σ' vs = wipe σ vs := by
  have hl : σ'.length = σ.length := by rw [h.1, wipe_length]
  refine List.ext_getElem? fun i => ?_
  rw [wipe_get, wipe_get]
  by_cases m : i ∈ vs
  · rw [if_pos m, if_pos m, hl]
  · rw [if_neg m, if_neg m, h.2 i m, wipe_get, if_neg m]
theorem wipeE_len (ε : Env) : ∀ vs : List Nat, (wipeE ε vs).length = ε.s.length
  | [] => rfl
  | v :: vs => by unfold wipeE; rw [List.length_set, wipeE_len ε vs]
theorem wipeE_get (ε : Env) (i : Nat) : ∀ (vs : List Nat) (x : SV), (wipeE ε vs)[i]? = some x → (i ∈ vs ∧ x = .un) ∨ (i ∉ vs ∧ ε.s[i]? = some x)
  | [], x, h => .inr ⟨List.not_mem_nil, h⟩
  | v :: vs, x, h => by
    unfold wipeE at h
    rcases get_set h with ⟨rfl, rfl, _⟩ | ⟨ne, h⟩
    · exact .inl ⟨List.mem_cons_self, rfl⟩
    · rcases wipeE_get ε i vs x h with ⟨m, e⟩ | ⟨m, e⟩
      · exact .inl ⟨List.mem_cons_of_mem _ m, e⟩
      · exact .inr ⟨fun q => (List.mem_cons.mp q).elim (fun z => ne z.symm) m, e⟩
theorem Rep.wipe {Z : Zx} {O : Addr → Prop} {σ : L2.St} {ε : Env} {L H : Hp} (x : Rep w Z O L H σ ε) (vs : List Nat) : Rep w Z O L H (L2.wipe σ vs) ⟨wipeE ε vs, ε.c⟩ := by
  refine ⟨x.lh, x.pn, x.ex, x.bo, x.oh, ?_, fun i y hy => ?_, fun i j y z a hij hy hz oy oz hi hj => ?_, x.ph⟩
  · show (L2.wipe σ vs).length = (wipeE ε vs).length
    rw [wipe_length, wipeE_len]; exact x.len
  · have hl : i < σ.length := by
      have := (List.getElem?_eq_some_iff.mp hy).1
      rw [wipeE_len] at this
      rw [x.len]; exact this
    rcases wipeE_get ε i vs y hy with ⟨m, rfl⟩ | ⟨m, e⟩
    · exact ⟨none, by rw [wipe_get, if_pos m, if_pos hl], trivial⟩
    · obtain ⟨o, h1, h2⟩ := x.sl i y e
      exact ⟨o, by rw [wipe_get, if_neg m]; exact h1, h2⟩
  · rcases wipeE_get ε i vs y hy with ⟨m, rfl⟩ | ⟨m, e⟩
    · cases oy
    · rcases wipeE_get ε j vs z hz with ⟨m', rfl⟩ | ⟨m', e'⟩
      · cases oz
      · rw [wipe_get, if_neg m] at hi
        rw [wipe_get, if_neg m'] at hj
        exact x.di i j y z a hij e e' oy oz hi hj
def lcD (γ : DTG) (c : DTT) (f : DTE) (vs : List Nat) (s : List SV) (Q : R → Env → Prop) : List PyData → List PyData → Nat → Prop
  | [], acc, n => Q (.nw acc) ⟨s, n⟩
  | d :: ds, acc, n => γ d ⟨wipeE ⟨s, n⟩ vs, n⟩ fun ε1 => c ε1 fun b ε2 => if b = true then f ε2 fun r ε3 => match r.pub with
      | .sh e => acc.length < sizeLine ∧ lcD γ c f vs s Q ds (acc ++ [e]) ε3.c
      | _ => False
    else lcD γ c f vs s Q ds acc ε2.c
def dLc (i : DTI) (γ : DTG) (c : DTT) (f : DTE) (vs : List Nat)  (ε : Env) (Q : R → Env → Prop) : Prop := i ε fun ds _ ε1 => lcD γ c f vs ε1.s Q ds [] ε1.c
theorem lcD_mono {pk : Bool} {g : TG} {γ : DTG} {tt : TT} {c : DTT} {js vs : List Nat} {s : List SV} {A B : R → Env → Prop} (hg : SG w pk js g γ) (hc : ST w tt c) (hf : SE w te f) (h : ∀ r ε, A r ε → B r ε) : ∀ (ds acc : List PyData) (n : Nat), lcD γ c f vs s A ds acc n → lcD γ c f vs s B ds acc n
  | [], acc, n, z => h _ _ z
  | d :: ds, acc, n, z => by
    refine hg.mono _ _ _ _ (fun ε1 z => hc.mono _ _ _ (fun b ε2 z => ?_) z) z
    cases b with
    | true =>
      rw [if_pos rfl] at z ⊢
      refine hf.mono _ _ _ (fun r ε3 z => ?_) z
      split at z
      · exact ⟨z.1, lcD_mono hg hc hf h ds _ _ z.2⟩
      · exact z.elim
    | false =>
      rw [if_neg Bool.false_ne_true] at z ⊢
      exact lcD_mono hg hc hf h ds _ _ z
theorem se_lc {pk : Bool} {wi : TI} {i : DTI} {g : TG} {γ : DTG} {tt : TT} {c : DTT} {vs : List Nat} (hi : SI w pk wi i) (hg : SG w pk vs g γ) (hc : ST w tt c) (hf : SE w te f) : SE w (tLc wi g tt te vs) (dLc i γ c f vs) := by
  constructor
  · intro ε A B h z
    exact hi.mono _ _ _ (fun ds b ε1 z => lcD_mono hg hc hf h ds [] _ z) z
  · intro Z O σ ε L H Q X z
    refine hi.run Z O σ ε L H _ X (hi.mono _ _ _ (fun ds b ε1 z => ?_) z)
    intro J L1 H1 X1 e1 W _ D nD
    have eD : Ext none L1 H1 L1 (upd H1 D (.lst [])) := Ext.own nD
    have X1' := X1.step eD (same_own X1.lh (X1.lh.free nD))
    have n0 : Z.H0 D = none := X1.ex.free nD
    have nO : ¬ O D := fun o => (X1.oh D o).1 nD
    have bD : Z.b ≠ some D := X1.nob n0
    refine ⟨fun k m H2 => k + m = ds.length ∧ ∃ L2 n acc xs, Rep w Z O L2 H2 σ ⟨ε1.s, n⟩ ∧ Ext Z.b L1 H1 L2 H2 ∧ H2 D = some (.lst xs) ∧ DVs L2 xs acc ∧ L2 D = none ∧ lcD γ c f vs ε1.s (fun r ε' => ∀ v L' H', Rep w Z O L' H' σ ε' → Ext Z.b L H L' H' → VR w Z O σ H L' H' v r → Q v H') (ds.drop k) acc n,
      ⟨ds.length, by omega, L1, ε1.c, [], [], X1', eD.any, upd_same, .nil, X1.lh.free nD, by rw [List.drop_zero]; exact z⟩, ?_⟩
    rintro k m H2 ⟨hkm, L2, n, acc, xs, X2, e2, hD, rD, lD, z2⟩
    have e2' := e2
    by_cases hlt : k < ds.length
    · refine .inr ⟨W.go k L2 H2 e2' X2.lh hlt, fun H' => ∃ L2 n acc xs, Rep w Z O L2 H' σ ⟨ε1.s, n⟩ ∧ Ext Z.b L1 H1 L2 H' ∧ H' D = some (.lst xs) ∧ DVs L2 xs acc ∧ L2 D = none ∧ lcD γ c f vs ε1.s (fun r ε' => ∀ v L' H', Rep w Z O L' H' σ ε' → Ext Z.b L H L' H' → VR w Z O σ H L' H' v r → Q v H') (ds.drop (k + 1)) acc n,
        fun H' q => ⟨m - 1, by omega, by omega, q⟩, fun x H' y => ?_⟩
      have hd : ds[k]? = some ds[k] := List.getElem?_eq_getElem hlt
      rw [List.drop_eq_getElem_cons hlt] at z2
      obtain ⟨L3, e3, s3, r3⟩ := W.yld k ds[k] L2 H2 x H' e2' X2.lh hd y
      have X3 := X2.step e3 s3
      have hD3 := e3.hh D _ hD (fun z => nomatch z)
      have lD3 : L3 D = none := e3.fr D lD (by rw [hD]; exact (fun z => nomatch z))
      refine hg.run Z O _ _ L3 H' x ds[k] _ (X3.wipe vs) r3 (hg.mono _ _ _ _ (fun ε3 z3 σ3 X4 b3 => ⟨wipe_but b3, ?_⟩) z2)
      refine hc.run Z O σ3 ε3 L3 H' _ X4 (hc.mono _ _ _ (fun b ε4 z4 => ?_) z3)
      intro L5 H5 X5 e5
      have hD5 := e5.hh D _ hD3 bD
      have lD5 : L5 D = none := e5.fr D lD3 (by rw [hD3]; exact (fun z => nomatch z))
      have e35 := (e3.any (b := Z.b)).trans e5
      cases b with
      | true =>
        rw [if_pos rfl] at z4 ⊢
        refine hf.run Z O σ3 ε4 L5 H5 _ X5 (hf.mono _ _ _ (fun r ε6 z6 => ?_) z4)
        intro v L6 H6 X6 e6 r6
        split at z6
        · rename_i d' hd'
          obtain ⟨L7, X7, e7, r7⟩ := publ X6 e6 r6
          rw [hd'] at r7
          have hD6 := e7.hh D _ hD5 bD
          have lD7 : L7 D = none := e7.fr D lD5 (by rw [hD5]; exact (fun z => nomatch z))
          have et := e35.trans e7
          have rD7 : DVs L7 xs acc := rD.to et.ll
          have X8 : Rep w Z O L7 H6 σ ⟨ε1.s, ε6.c⟩ := X2.exts et X7.lh fun b hb => (X7.bo b hb).2.1
          refine ⟨xs, hD6, by rw [rD7.len]; exact z6.1, L7, ε6.c, acc ++ [d'], xs ++ [v], ?_, ?_, upd_same, rD7.app (.one r7), lD7, z6.2⟩
          · refine ⟨same_own X8.lh lD7, X8.pn, ⟨X8.ex.ll, fun a o h nb => ?_, fun a h => ?_, X8.ex.fr⟩, fun b hb => ?_, fun a h => ⟨?_, (X8.oh a h).2⟩, X8.len, fun i y hy => ?_, X8.di, X8.ph⟩
            · rw [upd_ne (ne_of_none h n0)]; exact X8.ex.hh a o h nb
            · by_cases q : a = D
              · rw [q, upd_same]; exact (fun z => nomatch z)
              · rw [upd_ne q]; exact X8.ex.dom a h
            · obtain ⟨q1, q2, q3⟩ := X8.bo b hb
              exact ⟨q1, q2.keep (upd_ne (ne_at q3 n0)), q3⟩
            · rw [upd_ne (fun q => nO (by rw [← q]; exact h))]; exact (X8.oh a h).1
            · obtain ⟨o, q1, q2⟩ := X8.sl i y hy
              refine ⟨o, q1, ?_⟩
              cases y with
              | ow ds =>
                obtain ⟨a, ys, g1, g2, g3, g4, g5, g6⟩ := q2
                exact ⟨a, ys, g1, g2, g3, g4, by rw [upd_ne (fun q => nO (by rw [← q]; exact g2))]; exact g5, g6⟩
              | st S n =>
                obtain ⟨a, g1, g2, g3, g4, g5⟩ := q2
                exact ⟨a, g1, g2, g3, g4, by rw [upd_ne (fun q => nO (by rw [← q]; exact g2))]; exact g5⟩
              | dco xs =>
                obtain ⟨a, g1, g2, g3, g4, ⟨ob, g5⟩, g6⟩ := q2
                exact ⟨a, g1, g2, g3, g4, ⟨ob, by rw [upd_ne (fun q => nO (by rw [← q]; exact g2))]; exact g5⟩, g6⟩
              | sto M =>
                obtain ⟨a, A, g1, g2, g3, g4, g5, g6⟩ := q2
                exact ⟨a, A, g1, g2, g3, g4, by rw [upd_ne (fun q => nO (by rw [← q]; exact g2))]; exact g5, g6⟩
              | _ => exact q2
          · have e27 := e2.trans et
            refine ⟨e27.ll, fun a o h nb => ?_, fun a h => ?_, e27.fr⟩
            · rw [upd_ne (ne_of_none h nD)]; exact e27.hh a o h nb
            · by_cases q : a = D
              · rw [q, upd_same]; exact (fun z => nomatch z)
              · rw [upd_ne q]; exact e27.dom a h
        · exact z6.elim
      | false =>
        rw [if_neg Bool.false_ne_true] at z4 ⊢
        have X8 : Rep w Z O L5 H5 σ ⟨ε1.s, ε4.c⟩ := X2.exts e35 X5.lh fun b hb => (X5.bo b hb).2.1
        exact ⟨L5, ε4.c, acc, xs, X8, e2.trans e35, hD5, rD.to e35.ll, lD5, z4⟩
    · have e : k = ds.length := by omega
      subst e
      rw [List.drop_length] at z2
      refine .inl ⟨W.stop L2 H2 e2' X2.lh, z2 _ L2 H2 X2 (e1.trans e2') ⟨D, xs, rfl, e1.free nD, nO, n0, lD, hD, rD⟩⟩
def env0 (args : List SV) (k : Nat) (c : Nat) : Env := ⟨args ++ List.replicate k .un, c⟩
def defF (k : Nat) (p : DTS) (args : List SV) (c : Nat) (Q : R → Nat → Prop) : Prop := p { nx := fun ε => Q (.sh .none) ε.c, rt := fun r ε => Q r ε.c } (env0 args k c)
theorem ArgsR.len {b : Option Addr} {L : Hp} : ∀ {vs : List V} {xs : List SV}, ArgsR b L vs xs → vs.length = xs.length
  | _, _, .nil => rfl
  | _, _, .cons _ r => by rw [List.length_cons, List.length_cons, r.len]
theorem ArgsR.get {b : Option Addr} {L : Hp} : ∀ {vs : List V} {xs : List SV} {i : Nat} {x : SV}, ArgsR b L vs xs → xs[i]? = some x → ∃ v, vs[i]? = some v ∧ ArgR b L v x
  | _, _, _, _, .nil, e => by simp at e
  | _, _, 0, _, .cons a _, e => by simp at e; subst e; exact ⟨_, rfl, a⟩
  | _, _, i + 1, x, .cons _ r, e => by
    obtain ⟨v, h1, h2⟩ := ArgsR.get (i := i) (x := x) r (by simpa using e)
    exact ⟨v, by simpa using h1, h2⟩
theorem rep_start {N : List Str} {b : Option Addr} {L H : Hp} {c k : Nat} {vs : List V} {args : List SV} (z : CallZ b L H c) (a : ArgsR b L vs args) (hk : N.length = vs.length + k) (ph : w.Φ ⟨b, L, H, fun _ => none⟩) : Rep w ⟨b, L, H, fun _ => none⟩ (fun _ => False) L H (start N vs) (env0 args k c) := by
  have hl := a.len
  have un : ∀ (i : Nat) (x : SV), (env0 args k c).s[i]? = some x → (∃ v, vs[i]? = some v ∧ ArgR b L v x) ∨ (vs.length ≤ i ∧ x = .un) := by
    intro i x hx
    have hx : (args ++ List.replicate k SV.un)[i]? = some x := hx
    by_cases hi : i < args.length
    · rw [List.getElem?_append_left hi] at hx
      exact .inl (a.get hx)
    · rw [List.getElem?_append_right (by omega)] at hx
      have := List.mem_of_getElem? hx
      exact .inr ⟨by omega, List.eq_of_mem_replicate this⟩
  have nown : ∀ (i : Nat) (x : SV), (env0 args k c).s[i]? = some x → Own x = true → False := by
    intro i x hx ho
    rcases un i x hx with ⟨v, _, r⟩ | ⟨_, rfl⟩
    · cases x with
      | ow ds => exact r
      | st S n => exact r
      | dco xs => exact r
      | sto M => exact r
      | _ => cases ho
    · cases ho
  refine ⟨z.1, (fun _ _ h => nomatch h), Ext.refl _ _ _, fun d hd => ⟨(z.2 d hd).1, (z.2 d hd).2, (z.2 d hd).2.there⟩, fun _ h => h.elim, ?_, fun i x hx => ?_, fun i j x y d _ hx _ ox => (nown i x hx ox).elim, ph⟩
  · show (start N vs).length = (args ++ List.replicate k SV.un).length
    unfold L2.start
    rw [List.length_append, List.length_map, List.length_replicate, List.length_append, List.length_replicate]
    omega
  · have hi : i < vs.length + k := by
      have := (List.getElem?_eq_some_iff.mp hx).1
      have e : (env0 args k c).s.length = args.length + k := by
        show (args ++ List.replicate k SV.un).length = _
        rw [List.length_append, List.length_replicate]
      omega
    rcases un i x hx with ⟨v, h1, r⟩ | ⟨h1, rfl⟩
    · have hv : i < vs.length := (List.getElem?_eq_some_iff.mp h1).1
      refine ⟨some v, ?_, ?_⟩
      · unfold L2.start
        rw [List.getElem?_append_left (by rw [List.length_map]; exact hv), List.getElem?_map, h1]; rfl
      · cases x with
        | sh d => exact ⟨v, rfl, r⟩
        | bx =>
          obtain ⟨d, h2, rfl⟩ := r
          exact ⟨d, h2, rfl⟩
        | raw u =>
          cases (show v = u from r)
          rfl
        | dsh xs => exact ⟨v, rfl, r⟩
        | gen g => exact ⟨v, rfl, r⟩
        | _ => exact r.elim
    · refine ⟨none, ?_, trivial⟩
      unfold L2.start
      rw [List.getElem?_append_right (by rw [List.length_map]; exact h1), List.getElem?_replicate, if_pos (by rw [List.length_map]; omega)]
end
section
variable {P : Program} {w : World} {K : PySem.W.Frag} {mg : Str → Option Value} {base : Heap}
theorem run_def {N ps : List Str} {t : TS} {p : DTS} {k : Nat} (hp : SS (W0 w) t p) (hk : N.length = ps.length + k) {vs : List V} {H : Hp} {Q : VK} {E : XK} (h : spD ps.length (defF k p) vs H Q E) : t { nx := fun _ H' => Q .non H', rt := Q } (start N vs) H := by
  obtain ⟨b, L, c, args, hn, z, a, q⟩ := h
  refine hp.run _ _ _ _ L H _ _ (rep_start (w := W0 w) z a (by omega) trivial) ?_ q
  refine ⟨fun O σ ε L' H' X q => ?_, fun O σ ε L' H' v r X hr q => ?_, fun O σ ε L' H' X q => q.elim, fun O σ ε L' H' X q => q.elim⟩
  · exact q .non L' H' ⟨X.lh, fun a ha => ⟨(X.bo a ha).1, (X.bo a ha).2.1⟩⟩ X.ex DV.non
  · exact q v L' H' ⟨X.lh, fun a ha => ⟨(X.bo a ha).1, (X.bo a ha).2.1⟩⟩ X.ex hr
theorem spD_len {n : Nat} {F : DSp} {vs : List V} {H : Hp} {Q : VK} {E : XK} (h : spD n F vs H Q E) : vs.length = n := by
  obtain ⟨b, L, c, args, hn, _⟩ := h
  exact hn
theorem spD_imp {n : Nat} {F G : DSp} (h : ∀ args c Q, F args c Q → G args c Q) {vs : List V} {H : Hp} {Q : VK} {E : XK} (x : spD n F vs H Q E) : spD n G vs H Q E := by
  obtain ⟨b, L, c, args, hn, z, a, q⟩ := x
  exact ⟨b, L, c, args, hn, z, a, h _ _ _ q⟩
/-- a def by its data -/
theorem okD {x qual : Str} {st : Stmt} {f : Addr} {fd : FuncData} {N ps : List Str} {k j : Nat} {p : DTS} {F : DSp} (G : Fun K x qual st f fd) (S : FnScope N ps (defScope st)) (hj : N.length = ps.length + j)
    (body : ∀ (cdv : Value) (A : Around) (outer : List PySem.Env) (s : Shared) (H : Hp) (E : XK), Room k (A.deeper (envOfC qual (defScope st) s.heap.objs.size f cdv)) → ∃ t, PSs (cxOf CX0 P w K mg base N qual (defScope st) f cdv A outer s H E).nox (defBody st) t ∧ SS (W0 w) t p)
    (h : ∀ args c Q, F args c Q → defF j p args c Q) : FnOk P w K mg base CX0 (k + 1) f fd ps (spD ps.length F) := by
  refine G.ok S (fun vs H Q E h => spD_len h) fun cdv A outer s H vs Q E hr q => ?_
  obtain ⟨t, ht, hs⟩ := body cdv A outer s H E hr
  exact ⟨t, ht, run_def hs hj (spD_imp h q)⟩
end
end Lp

namespace Lp
open PySem PySem.Spec PyProof.Rows L2
theorem op_or {X : Cx} {f : Value → Value → Sem Value} {r r' : R2} (h : OpR X f r) (h' : OpR X f r') : OpR X f (fun x y H Q => r x y H Q ∨ r' x y H Q) :=
  fun pins s σ H x y v u Q I rx ry q => q.elim (h pins s σ H x y v u Q I rx ry) (h' pins s σ H x y v u Q I rx ry)
/-- ints in, an int out -/
def φI (h : Int → Int → Int)  (x y : PyData) (Q : R → Prop) : Prop := match x, y with
  | .int i, .int j => Q (.sh (.int (h i j)))
  | _, _ => False
def φB (h : Int → Int → Bool)  (x y : PyData) (Q : R → Prop) : Prop := match x, y with
  | .int i, .int j => Q (.sh (.bool (h i j)))
  | _, _ => False
def φC (C : Int → Int → Prop) (h : Int → Int → Int)  (x y : PyData) (Q : R → Prop) : Prop := match x, y with
  | .int i, .int j => C i j ∧ Q (.sh (.int (h i j)))
  | _, _ => False
theorem r2_I {h : Int → Int → Int} : R2K (rI0 fun i j => .int (h i j)) (φI h) := by
  constructor
  · intro x y A B hAB q
    unfold φI at q ⊢
    split at q
    · exact hAB _ q
    · exact q.elim
  · intro L H x y dx dy Q s hx hy q
    unfold φI at q
    split at q
    · exact ⟨_, _, hx.int, hy.int, q _ L H (Ext.refl _ _ _) s (.int _)⟩
    · exact q.elim
theorem r2_B {h : Int → Int → Bool} : R2K (rI0 fun i j => .bl (h i j)) (φB h) := by
  constructor
  · intro x y A B hAB q
    unfold φB at q ⊢
    split at q
    · exact hAB _ q
    · exact q.elim
  · intro L H x y dx dy Q s hx hy q
    unfold φB at q
    split at q
    · exact ⟨_, _, hx.int, hy.int, q _ L H (Ext.refl _ _ _) s (.bl _)⟩
    · exact q.elim
theorem r2_C {C : Int → Int → Prop} {h : Int → Int → Int} : R2K (rI C fun i j => .int (h i j)) (φC C h) := by
  constructor
  · intro x y A B hAB q
    unfold φC at q ⊢
    split at q
    · exact ⟨q.1, hAB _ q.2⟩
    · exact q.elim
  · intro L H x y dx dy Q s hx hy q
    unfold φC at q
    split at q
    · exact ⟨_, _, hx.int, hy.int, q.1, q.2 _ L H (Ext.refl _ _ _) s (.int _)⟩
    · exact q.elim
def φNeg (x : PyData) (Q : R → Prop) : Prop := match x with
  | .int i => Q (.sh (.int (-i)))
  | _ => False
theorem ru_neg : RUK (rU fun i => .int (-i)) φNeg := by
  constructor
  · intro x A B hAB q
    cases x <;> first | exact hAB _ q | exact q.elim
  · intro L H x dx Q s hx q
    cases dx <;> first | exact ⟨_, hx.int, q _ L H (Ext.refl _ _ _) s (.int _)⟩ | exact q.elim
abbrev rAdd (K : PySem.W.Frag) : R2 := fun x y H Q => rI0 (fun i j => .int (i + j)) x y H Q ∨ (rCat x y H Q ∨ rCatS K x y H Q)
theorem op_addA {X : Cx} : OpR X (binaryOp .Add) (rAdd X.K) := op_or op_add (op_or op_cat op_catS)
def φAdd  (x y : PyData) (Q : R → Prop) : Prop := match x, y with
  | .int i, .int j => Q (.sh (.int (i + j)))
  | .list a, .list b => a.length + b.length ≤ sizeLine ∧ Q (.nw (a ++ b))
  | .tuple a, .tuple b => a.length + b.length ≤ sizeLine ∧ Q (.sh (.tuple (a ++ b)))
  | _, _ => False
theorem DVs.nil_iff {H : Hp} {vs : List V} {ds : List PyData} (h : DVs H vs ds) : vs = [] ↔ ds = [] := by
  cases h with
  | nil => exact ⟨fun _ => rfl, fun _ => rfl⟩
  | cons _ _ => exact ⟨(fun z => nomatch z), (fun z => nomatch z)⟩
theorem r2_add {K : PySem.W.Frag} : R2K (rAdd K) φAdd := by
  constructor
  · intro x y A B hAB q
    unfold φAdd at q ⊢
    split at q
    · exact hAB _ q
    · exact ⟨q.1, hAB _ q.2⟩
    · exact ⟨q.1, hAB _ q.2⟩
    · exact q.elim
  · intro L H x y dx dy Q s hx hy q
    unfold φAdd at q
    split at q
    · exact .inl ⟨_, _, hx.int, hy.int, q _ L H (Ext.refl _ _ _) s (.int _)⟩
    · obtain ⟨a, xs, rfl, h1, h2⟩ := hx.lst s
      obtain ⟨b, ys, rfl, h3, h4⟩ := hy.lst s
      refine .inr (.inl ⟨a, b, xs, ys, rfl, rfl, h1, h3, by rw [h2.len, h4.len]; exact q.1, fun p np => ?_⟩)
      exact q.2 _ L _ (Ext.own np) (same_own s (s.free np)) ⟨p, _, rfl, np, s.free np, upd_same, h2.app h4⟩
    · obtain ⟨a, xs, rfl, h1, h2⟩ := hx.tup
      obtain ⟨b, ys, rfl, h3, h4⟩ := hy.tup
      refine .inr (.inr ⟨a, b, xs, ys, rfl, rfl, (h1.to s).seq, (h3.to s).seq, by rw [h2.len, h4.len]; exact q.1, fun e => ?_, fun e => ?_, fun p o np no => ?_⟩)
      · have e2 := h2.nil_iff.mp e
        rw [e2, List.nil_append] at q
        exact q.2 _ L H (Ext.refl _ _ _) s (.tup h3 h4)
      · have e2 := h4.nil_iff.mp e
        rw [e2, List.append_nil] at q
        exact q.2 _ L H (Ext.refl _ _ _) s (.tup h1 h2)
      · have e1 : Ext none L H (upd L p (.frz o (.tup (xs ++ ys)))) (upd H p (.frz o (.tup (xs ++ ys)))) := Ext.new s np
        exact q.2 _ _ _ e1 (same_both s) (.tup ⟨o, no, upd_same⟩ ((h2.app h4).to e1.ll))
    · exact q.elim
abbrev rMulA : R2 := fun x y H Q => rI CMulW (fun i j => .int (i * j)) x y H Q ∨ rRep x y H Q
theorem op_mulA {X : Cx} : OpR X (binaryOp .Mult) rMulA := op_or op_mulW op_rep
def φMul  (x y : PyData) (Q : R → Prop) : Prop := match x, y with
  | .int i, .int j => CMulW i j ∧ Q (.sh (.int (i * j)))
  | .list a, .int k => (-(2 ^ 63) ≤ k ∧ k < 2 ^ 63 ∧ a.length * k.toNat ≤ sizeLine) ∧ Q (.nw (List.replicate k.toNat a).flatten)
  | _, _ => False
theorem DVs.rep {H : Hp} {vs : List V} {ds : List PyData} (h : DVs H vs ds) : ∀ n : Nat, DVs H (List.replicate n vs).flatten (List.replicate n ds).flatten
  | 0 => .nil
  | n + 1 => by rw [List.replicate_succ, List.replicate_succ, List.flatten_cons, List.flatten_cons]; exact h.app (h.rep n)
theorem r2_mul : R2K rMulA φMul := by
  constructor
  · intro x y A B hAB q
    unfold φMul at q ⊢
    split at q
    · exact ⟨q.1, hAB _ q.2⟩
    · exact ⟨q.1, hAB _ q.2⟩
    · exact q.elim
  · intro L H x y dx dy Q s hx hy q
    unfold φMul at q
    split at q
    · exact .inl ⟨_, _, hx.int, hy.int, q.1, q.2 _ L H (Ext.refl _ _ _) s (.int _)⟩
    · obtain ⟨a, xs, rfl, h1, h2⟩ := hx.lst s
      refine .inr ⟨a, _, xs, rfl, hy.int, h1, q.1.1, q.1.2.1, by rw [h2.len]; exact q.1.2.2, fun p np => ?_⟩
      exact q.2 _ L _ (Ext.own np) (same_own s (s.free np)) ⟨p, _, rfl, np, s.free np, upd_same, h2.rep _⟩
    · exact q.elim
def PyData.its : PyData → Option (List PyData)
  | .list ds => some ds
  | .tuple ds => some ds
  | _ => none
def φIx  (x y : PyData) (Q : R → Prop) : Prop := match PyData.its x, y with
  | some ds, .int i => ∃ d, atI ds i = some d ∧ Q (.sh d)
  | _, _ => False
theorem atI_dv {H : Hp} {vs : List V} {ds : List PyData} {i : Int} {d : PyData} (h : DVs H vs ds) (e : atI ds i = some d) : ∃ v, atI vs i = some v ∧ DV H v d := by
  unfold atI at e ⊢
  rw [← h.len] at e
  cases hx : ixN vs.length i with
  | none => rw [hx] at e; cases e
  | some j =>
    rw [hx] at e
    exact h.get e
theorem r2_ix {K : PySem.W.Frag} : R2K (rIx K) φIx := by
  constructor
  · intro x y A B hAB q
    unfold φIx at q ⊢
    split at q
    · obtain ⟨d, h1, h2⟩ := q
      exact ⟨d, h1, hAB _ h2⟩
    · exact q.elim
  · intro L H x y dx dy Q s hx hy q
    unfold φIx at q
    split at q
    · rename_i ds i hd
      obtain ⟨d, e, q⟩ := q
      cases dx with
      | list es =>
        cases hd
        obtain ⟨a, xs, rfl, h1, h2⟩ := hx.lst s
        obtain ⟨v, h3, h4⟩ := atI_dv h2 e
        exact .inl ⟨a, xs, i, v, rfl, hy.int, SqL.of h1, h3, q v L H (Ext.refl _ _ _) s h4⟩
      | tuple es =>
        cases hd
        obtain ⟨a, xs, rfl, h1, h2⟩ := hx.tup
        obtain ⟨v, h3, h4⟩ := atI_dv h2 e
        exact .inr (.inl ⟨a, xs, i, v, rfl, hy.int, (h1.to s).seq, h3, q v L H (Ext.refl _ _ _) s h4⟩)
      | _ => cases hd
    · exact q.elim
def cutD (ds : List PyData) (lo hi : Option Int) : List PyData := (ds.drop (HT.sIx ds.length 0 lo)).take (HT.sIx ds.length ds.length hi - HT.sIx ds.length 0 lo)
def φSl (x : PyData) (l h : Option Int) (Q : R → Prop) : Prop := match x with
  | .list ds => Q (.nw (cutD ds l h))
  | .tuple ds => Q (.sh (.tuple (cutD ds l h)))
  | _ => False
abbrev rEqI : R2 := rI0 fun i j => .bl (decide (i = j))
theorem op_eqI {X : Cx} : OpR X (compareOp .Eq) rEqI := fun pins s σ H x y v u Q I rx ry q => by
  obtain ⟨i, j, rfl, rfl, q⟩ := q
  refine op_eq pins s σ H _ _ v u Q I rx ry ⟨rfl, ?_⟩
  have e : decide (V.int i = V.int j) = decide (i = j) := by simp
  rw [e]; exact q
abbrev rNeI : R2 := rI0 fun i j => .bl (!decide (i = j))
theorem op_neI {X : Cx} : OpR X (compareOp .NotEq) rNeI := fun pins s σ H x y v u Q I rx ry q => by
  obtain ⟨i, j, rfl, rfl, q⟩ := q
  refine op_ne pins s σ H _ _ v u Q I rx ry ⟨rfl, ?_⟩
  have e : decide (V.int i = V.int j) = decide (i = j) := by simp
  rw [e]; exact q
/-- two texts -/
abbrev rEqS : R2 := fun x y H Q => ∃ a b : Str, x = .str a ∧ y = .str b ∧ Q (.bl (decide (a = b))) H
theorem op_eqS {X : Cx} : OpR X (compareOp .Eq) rEqS := fun pins s σ H x y v u Q I rx ry q => by
  obtain ⟨i, j, rfl, rfl, q⟩ := q
  refine op_eq pins s σ H _ _ v u Q I rx ry ⟨rfl, ?_⟩
  have e : decide (V.str i = V.str j) = decide (i = j) := by simp
  rw [e]; exact q
abbrev rNeS : R2 := fun x y H Q => ∃ a b : Str, x = .str a ∧ y = .str b ∧ Q (.bl (!decide (a = b))) H
theorem op_neS {X : Cx} : OpR X (compareOp .NotEq) rNeS := fun pins s σ H x y v u Q I rx ry q => by
  obtain ⟨i, j, rfl, rfl, q⟩ := q
  refine op_ne pins s σ H _ _ v u Q I rx ry ⟨rfl, ?_⟩
  have e : decide (V.str i = V.str j) = decide (i = j) := by simp
  rw [e]; exact q
abbrev rEqA (K : PySem.W.Frag) : R2 := fun x y H Q => rEqI x y H Q ∨ (rEqS x y H Q ∨ rEqD K x y H Q)
abbrev rNeA (K : PySem.W.Frag) : R2 := fun x y H Q => rNeI x y H Q ∨ (rNeS x y H Q ∨ rNeD K x y H Q)
theorem op_eqA {X : Cx} (hu : X.A.units + 64 < cLine) : OpR X (compareOp .Eq) (rEqA X.K) := op_or op_eqI (op_or op_eqS (op_eqD hu))
theorem op_neA {X : Cx} (hu : X.A.units + 64 < cLine) : OpR X (compareOp .NotEq) (rNeA X.K) := op_or op_neI (op_or op_neS (op_neD hu))
def φEq (neg : Bool)  (x y : PyData) (Q : R → Prop) : Prop := match x, y with
  | .int i, .int j => Q (.sh (.bool (if neg then !decide (i = j) else decide (i = j))))
  | .str i, .str j => Q (.sh (.bool (if neg then !decide (i = j) else decide (i = j))))
  | x, y => (SeqAt.shaped x = true ∧ SeqAt.shaped y = true) ∧ Q (.sh (.bool (if neg then !PyData.eqv x y else PyData.eqv x y)))
theorem φEq_mono {neg : Bool} {x y : PyData} {A B : R → Prop} (hAB : ∀ r, A r → B r) (q : φEq neg x y A) : φEq neg x y B := by
  cases x <;> cases y <;> first | exact hAB _ q | exact ⟨q.1, hAB _ q.2⟩
theorem r2_eq {K : PySem.W.Frag} : R2K (rEqA K) (φEq false) := by
  constructor
  · intro x y A B hAB q
    exact φEq_mono hAB q
  · intro L H x y dx dy Q s hx hy q
    unfold φEq at q
    split at q
    · exact .inl ⟨_, _, hx.int, hy.int, q _ L H (Ext.refl _ _ _) s (.bl _)⟩
    · exact .inr (.inl ⟨_, _, hx.str, hy.str, q _ L H (Ext.refl _ _ _) s (.bl _)⟩)
    · exact .inr (.inr ⟨_, _, DV.dp _ _ (sh_nd q.1.1) (hx.dv s), DV.dp _ _ (sh_nd q.1.2) (hy.dv s), q.1.1, q.1.2, q.2 _ L H (Ext.refl _ _ _) s (.bl _)⟩)
theorem r2_ne {K : PySem.W.Frag} : R2K (rNeA K) (φEq true) := by
  constructor
  · intro x y A B hAB q
    exact φEq_mono hAB q
  · intro L H x y dx dy Q s hx hy q
    unfold φEq at q
    split at q
    · exact .inl ⟨_, _, hx.int, hy.int, q _ L H (Ext.refl _ _ _) s (.bl _)⟩
    · exact .inr (.inl ⟨_, _, hx.str, hy.str, q _ L H (Ext.refl _ _ _) s (.bl _)⟩)
    · exact .inr (.inr ⟨_, _, DV.dp _ _ (sh_nd q.1.1) (hx.dv s), DV.dp _ _ (sh_nd q.1.2) (hy.dv s), q.1.1, q.1.2, q.2 _ L H (Ext.refl _ _ _) s (.bl _)⟩)
def isN : PyData → Bool
  | .none => true
  | _ => false
theorem isN_V {L H : Hp} {v : V} {d : PyData} (h : VL L H v d) : decide (v = .non) = isN d := by
  cases d with
  | none => rw [h.non]; rfl
  | bool b => rw [h.bl]; rfl
  | int i => rw [h.int]; rfl
  | str x => rw [h.str]; rfl
  | list ds =>
    rcases h with h | ⟨a, xs, es, e, rfl, _⟩
    · cases h; rfl
    · rfl
  | tuple ds => obtain ⟨a, xs, rfl, _⟩ := h.tup; rfl
  | dict _ =>
    rcases h with h | ⟨a, xs, es, e, rfl, _⟩
    · cases h <;> rfl
    · rfl
def φIsN (neg : Bool)  (x y : PyData) (Q : R → Prop) : Prop := match y with
  | .none => Q (.sh (.bool (if neg then !isN x else isN x)))
  | _ => False
abbrev rIsN : R2 := fun x y H Q => y = .non ∧ Q (.bl (decide (x = .non))) H
theorem r2_isN : R2K rIsN (φIsN false) := by
  constructor
  · intro x y A B hAB q
    cases y <;> first | exact hAB _ q | exact q.elim
  · intro L H x y dx dy Q s hx hy q
    cases dy with
    | none => exact ⟨hy.non, q _ L H (Ext.refl _ _ _) s (by rw [isN_V hx]; exact .bl _)⟩
    | _ => exact q.elim
theorem its_seq {K : PySem.W.Frag} {L H : Hp} {v : V} {d : PyData} {ds : List PyData} (h : VL L H v d) (s : Same L H) (e : PyData.its d = some ds) : ∃ a xs, v = .ref a ∧ (SqL K H a xs ∨ SqT K H a xs) ∧ DVs L xs ds := by
  cases d with
  | list es =>
    cases e
    obtain ⟨a, xs, rfl, h1, h2⟩ := h.lst s
    exact ⟨a, xs, rfl, .inl (SqL.of h1), h2⟩
  | tuple es =>
    cases e
    obtain ⟨a, xs, rfl, h1, h2⟩ := h.tup
    exact ⟨a, xs, rfl, .inr (h1.to s).seq, h2⟩
  | _ => cases e
end Lp

namespace Lp
open PySem PySem.Spec PyProof.Rows L2
abbrev IL (ns : List Int) : List V := ns.map V.int
abbrev dI (ns : List Int) : List PyData := ns.map PyData.int
theorem szl {n : Nat} (h : n < 100000) : n < sizeLine := Nat.lt_of_lt_of_le h (by decide)
theorem dvs_ints {H : Hp} : ∀ ns : List Int, DVs H (IL ns) (dI ns)
  | [] => .nil
  | x :: r => .cons (.int x) (dvs_ints r)
theorem ints_dvs {H : Hp} : ∀ {vs : List V} {ns : List Int}, DVs H vs (dI ns) → vs = IL ns
  | _, [], .nil => rfl
  | _, _ :: _, .cons (.int _) r => by rw [ints_dvs r]; rfl
theorem IL_get {ns : List Int} {i : Nat} {z : Int} (h : ns[i]? = some z) : (IL ns)[i]? = some (.int z) := by
  rw [List.getElem?_map, h]; rfl
/-- all ints of ns lie in 0 .. n - 1 -/
def Low (n : Nat) (ns : List Int) : Prop := ∀ z ∈ ns, 0 ≤ z ∧ z < (n : Int)
theorem Low.app {n : Nat} {fs : List Int} {z : Int} (h : Low n fs) (h0 : 0 ≤ z) (h1 : z < (n : Int)) : Low n (fs ++ [z]) := fun y hy => by
  rcases List.mem_append.mp hy with h2 | h2
  · exact h y h2
  · rw [List.mem_singleton] at h2
    subst h2; exact ⟨h0, h1⟩
theorem Low.set {n : Nat} {fs : List Int} {z : Int} {i : Nat} (h : Low n fs) (h0 : 0 ≤ z) (h1 : z < (n : Int)) : Low n (fs.set i z) := fun y hy => by
  rcases List.mem_or_eq_of_mem_set hy with h2 | h2
  · exact h y h2
  · subst h2; exact ⟨h0, h1⟩
theorem Low.at {n : Nat} {fs : List Int} {z : Int} {i : Nat} (h : Low n fs) (e : fs[i]? = some z) : 0 ≤ z ∧ z < (n : Int) := h z (List.mem_of_getElem? e)
/-- data that are all ints -/
def intsD : List PyData → Option (List Int)
  | [] => some []
  | .int i :: ds => match intsD ds with
    | some ns => some (i :: ns)
    | none => none
  | _ :: _ => none
theorem intsD_is : ∀ {ds : List PyData} {ns : List Int}, intsD ds = some ns → ds = dI ns
  | [], _, h => by cases h; rfl
  | .int i :: ds, ns, h => by
    unfold intsD at h
    split at h
    · rename_i ms hm
      cases h
      rw [intsD_is hm]; rfl
    · cases h
  | .none :: _, _, h => by cases h
  | .bool _ :: _, _, h => by cases h
  | .str _ :: _, _, h => by cases h
  | .list _ :: _, _, h => by cases h
  | .tuple _ :: _, _, h => by cases h
  | .dict _ :: _, _, h => by cases h
def boolsD : List PyData → Option (List Bool)
  | [] => some []
  | .bool i :: ds => match boolsD ds with
    | some ns => some (i :: ns)
    | none => none
  | _ :: _ => none
abbrev dB (bs : List Bool) : List PyData := bs.map PyData.bool
theorem boolsD_dB : ∀ bs : List Bool, boolsD (dB bs) = some bs
  | [] => rfl
  | x :: r => by
    show (match boolsD (dB r) with | some ns => some (x :: ns) | none => none) = _
    rw [boolsD_dB r]
theorem boolsD_is : ∀ {ds : List PyData} {ns : List Bool}, boolsD ds = some ns → ds = dB ns
  | [], _, h => by cases h; rfl
  | .bool i :: ds, ns, h => by
    unfold boolsD at h
    split at h
    · rename_i ms hm
      cases h
      rw [boolsD_is hm]; rfl
    · cases h
  | .none :: _, _, h => by cases h
  | .int _ :: _, _, h => by cases h
  | .str _ :: _, _, h => by cases h
  | .list _ :: _, _, h => by cases h
  | .tuple _ :: _, _, h => by cases h
  | .dict _ :: _, _, h => by cases h
theorem bools_dvs {H : Hp} : ∀ {vs : List V} {ns : List Bool}, DVs H vs (dB ns) → vs = ns.map V.bl
  | _, [], .nil => rfl
  | _, _ :: _, .cons (.bl _) r => by rw [bools_dvs r]; rfl
/-- data that are all tuples of ints, none empty -/
def tupsD : List PyData → Option (List (List Int))
  | [] => some []
  | .tuple es :: ds => match intsD es, tupsD ds with
    | some (n :: ns), some nss => some ((n :: ns) :: nss)
    | _, _ => none
  | _ :: _ => none
abbrev dT (nss : List (List Int)) : List PyData := nss.map fun ns => .tuple (dI ns)
end Lp

namespace Lp
open PySem PySem.Spec PyProof.Rows L2
theorem lex_eq : ∀ xs ys : List Int, HT.lexLt xs ys = false → HT.lexLt ys xs = false → xs = ys
  | [], [], _, _ => rfl
  | [], _ :: _, h, _ => by cases h
  | _ :: _, [], _, h => by cases h
  | x :: xs, y :: ys, h1, h2 => by
    rw [HT.lexLt_cons] at h1 h2
    by_cases e : x = y
    · rw [if_pos e] at h1
      rw [if_pos e.symm] at h2
      rw [e, lex_eq xs ys h1 h2]
    · rw [if_neg e] at h1
      rw [if_neg (Ne.symm e)] at h2
      have := of_decide_eq_false h1
      have := of_decide_eq_false h2
      omega
section
variable {prog : Program} {w : World} {A : Around} {E : Value → Shared → Prop} {s : Shared}
/-- what is asked of the values: tuples of ints, none empty -/
def KeyOk (h : Heap) (k : Value → List Int) (vs : List Value) : Prop := ∀ v ∈ vs, TS.TupInts h v (k v) ∧ k v ≠ []
theorem KeyOk.keeps {h h' : Heap} {k : Value → List Int} {vs : List Value} (x : KeyOk h k vs) (q : ∀ b o, h.get? b = some o → o.cls = .type "tuple" → h'.get? b = some o) : KeyOk h' k vs := fun v hv => ⟨(x v hv).1.keeps q, (x v hv).2⟩
end
section
variable {X : Cx}
end
end Lp

namespace Lp
open PySem PySem.Spec PyProof.Rows L2
end Lp

namespace Lp
open PySem PySem.Spec PyProof.Rows L2
section
variable {prog : Program} {w : World} {A : Around} {E : Value → Shared → Prop} {s : Shared} {l : Addr}
end
section
variable {X : Cx}
end
end Lp

namespace Lp
open PySem PySem.Spec PyProof.Rows L2
def φLen  (ds : List PyData) (Q : R → Prop) : Prop := match ds with
  | [d] => match PyData.its d with
    | some es => Q (.sh (.int es.length))
    | none => False
  | _ => False
abbrev rLen (K : PySem.W.Frag) : List V → Hp → VK → Prop := fun xs H Q => ∃ p ys, xs = [.ref p] ∧ (SqL K H p ys ∨ SqT K H p ys) ∧ Q (.int ys.length) H
theorem rc_len {K : PySem.W.Frag} : RCK (rLen K) φLen := by
  constructor
  · intro x A B hAB q
    unfold φLen at q ⊢
    split at q
    · split at q
      · exact hAB _ q
      · exact q.elim
    · exact q.elim
  · intro L H xs ds Q s hx q
    unfold φLen at q
    split at q
    · split at q
      · rename_i es he
        cases hx with
        | cons h1 h2 =>
          cases h2
          obtain ⟨a, ys, rfl, k1, k2⟩ := its_seq (K := K) h1 s he
          exact ⟨a, ys, rfl, k1, by rw [k2.len]; exact q _ L H (Ext.refl _ _ _) s (.int _)⟩
      · exact q.elim
    · exact q.elim
def φList  (ds : List PyData) (Q : R → Prop) : Prop := match ds with
  | [d] => match PyData.its d with
    | some es => Q (.nw es)
    | none => False
  | _ => False
abbrev rList (K : PySem.W.Frag) : List V → Hp → VK → Prop := fun xs H Q => ∃ p ys, xs = [.ref p] ∧ (SqL K H p ys ∨ SqT K H p ys) ∧ ∀ l, H l = none → Q (.ref l) (upd H l (.lst ys))
theorem rc_list {K : PySem.W.Frag} : RCK (rList K) φList := by
  constructor
  · intro x A B hAB q
    unfold φList at q ⊢
    split at q
    · split at q
      · exact hAB _ q
      · exact q.elim
    · exact q.elim
  · intro L H xs ds Q s hx q
    unfold φList at q
    split at q
    · split at q
      · rename_i es he
        cases hx with
        | cons h1 h2 =>
          cases h2
          obtain ⟨a, ys, rfl, k1, k2⟩ := its_seq (K := K) h1 s he
          exact ⟨a, ys, rfl, k1, fun p np => q _ L _ (Ext.own np) (same_own s (s.free np)) ⟨p, _, rfl, np, s.free np, upd_same, k2⟩⟩
      · exact q.elim
    · exact q.elim
def φTuple  (ds : List PyData) (Q : R → Prop) : Prop := match ds with
  | [d] => match PyData.its d with
    | some es => Q (.sh (.tuple es))
    | none => False
  | _ => False
theorem rc_tuple {K : PySem.W.Frag} : RCK (rTuple K) φTuple := by
  constructor
  · intro x A B hAB q
    unfold φTuple at q ⊢
    split at q
    · split at q
      · exact hAB _ q
      · exact q.elim
    · exact q.elim
  · intro L H xs ds Q s hx q
    unfold φTuple at q
    split at q
    · split at q
      · rename_i d _ es he
        cases hx with
        | cons h1 h2 =>
          cases h2
          cases d with
          | list es' =>
            cases he
            obtain ⟨a, ys, rfl, k1, k2⟩ := h1.lst s
            refine ⟨a, ys, rfl, .inl ⟨SqL.of k1, fun p o np no => ?_⟩⟩
            have e1 : Ext none L H (upd L p (.frz o (.tup ys))) (upd H p (.frz o (.tup ys))) := Ext.new s np
            exact q _ _ _ e1 (same_both s) (.tup ⟨o, no, upd_same⟩ (k2.to e1.ll))
          | tuple es' =>
            cases he
            obtain ⟨a, ys, rfl, k1, k2⟩ := h1.tup
            exact ⟨a, ys, rfl, .inr ⟨(k1.to s).seq, q _ L H (Ext.refl _ _ _) s (.tup k1 k2)⟩⟩
          | _ => cases he
      · exact q.elim
    · exact q.elim
def φAbs  (ds : List PyData) (Q : R → Prop) : Prop := match ds with
  | [.int i] => Q (.sh (.int (if i < 0 then -i else i)))
  | _ => False
def φInt  (ds : List PyData) (Q : R → Prop) : Prop := match ds with
  | [.int i] => Q (.sh (.int i))
  | [.bool b] => Q (.sh (.int (if b then 1 else 0)))
  | _ => False
def φMax  (ds : List PyData) (Q : R → Prop) : Prop := match ds with
  | [.int i, .int j] => Q (.sh (.int (if j > i then j else i)))
  | _ => False
theorem rc_max : RCK (fun xs H Q => ∃ i j, xs = [.int i, .int j] ∧ Q (.int (if j > i then j else i)) H) φMax := by
  constructor
  · intro x A B hAB q
    unfold φMax at q ⊢
    split at q
    · exact hAB _ q
    · exact q.elim
  · intro L H xs ds Q s hx q
    unfold φMax at q
    split at q
    · cases hx with
      | cons h1 h2 =>
        cases h2 with
        | cons h2 h3 =>
          cases h3
          cases h1.int
          cases h2.int
          exact ⟨_, _, rfl, q _ L H (Ext.refl _ _ _) s (.int _)⟩
    · exact q.elim
def φAll (any : Bool)  (ds : List PyData) (Q : R → Prop) : Prop := match ds with
  | [.list es] => match boolsD es with
    | some bs => Q (.sh (.bool (if any then bs.any id else bs.all id)))
    | none => False
  | _ => False
theorem rc_all {K : PySem.W.Frag} : RCK (rAll K) (φAll false) := by
  constructor
  · intro x A B hAB q
    unfold φAll at q ⊢
    split at q
    · split at q
      · exact hAB _ q
      · exact q.elim
    · exact q.elim
  · intro L H xs ds Q s hx q
    unfold φAll at q
    split at q
    · split at q
      · rename_i ns hn
        cases hx with
        | cons h1 h2 =>
          cases h2
          obtain ⟨a, ys, rfl, k1, k2⟩ := h1.lst s
          rw [boolsD_is hn] at k2
          cases bools_dvs k2
          exact ⟨a, ns, rfl, SqL.of k1, q _ L H (Ext.refl _ _ _) s (.bl _)⟩
      · exact q.elim
    · exact q.elim
section
variable {w : Wx} {K : PySem.W.Frag} {te : TE} {f : DTE}
/-- RS: the items of nss, each once, ascending -/
def Asc (nss RS : List (List Int)) : Prop := RS.Nodup ∧ RS.Pairwise (fun x y => HT.lexLt y x = false) ∧ ∀ k, k ∈ RS ↔ k ∈ nss
/-- sorted(set(xs)), xs a list of tuples of ints -/
def dSortSet (f : DTE)  (ε : Env) (Q : R → Env → Prop) : Prop := f ε fun r ε1 => match r.dat with
  | some (.list ds) => match tupsD ds with
    | some nss => nss.length < 64 ∧ ∀ RS, Asc nss RS → Q (.nw (dT RS)) ε1
    | none => False
  | _ => False
def dListRg (f : DTE)  (ε : Env) (Q : R → Env → Prop) : Prop := f ε fun r ε1 => match r.dat with
  | some (.int n) => n ≤ 16777216 ∧ -(2 ^ 62) ≤ n ∧ Q (.nw (rgD 0 n.toNat)) ε1
  | _ => False
theorem dvs_rg {H : Hp} (n : Int) : DVs H (rgV 0 n) (rgD 0 n.toNat) := by
  unfold rgV rgD
  rw [Int.sub_zero]
  generalize List.range n.toNat = l
  induction l with
  | nil => exact .nil
  | cons x r ih => exact .cons (.int _) ih
theorem se_listRg (hf : SE w te f) : SE w (tLstRg (tRg1 te)) (dListRg f) := by
  constructor
  · intro ε A B h q
    refine hf.mono _ _ _ (fun r ε1 q => ?_) q
    split at q
    · exact ⟨q.1, q.2.1, h _ _ q.2.2⟩
    · exact q.elim
  · intro Z O σ ε L H Q X q
    refine hf.run Z O σ ε L H _ X (hf.mono _ _ _ (fun r ε1 q => ?_) q)
    intro v L1 H1 X1 e1 r1
    split at q
    · rename_i n hd
      refine ⟨n, (r1.vl hd).int, ⟨by decide, by decide, q.2.1, by omega, by omega⟩, fun p np => ?_⟩
      have ep : Ext none L1 H1 L1 (upd H1 p (.lst (rgV 0 n))) := Ext.own np
      exact q.2.2 _ L1 _ (X1.step ep (same_own X1.lh (X1.lh.free np))) (e1.trans ep.any) (VR.back (VR0.vr (r := .nw (rgD 0 n.toNat)) ⟨p, _, rfl, np, X1.lh.free np, upd_same, dvs_rg n⟩ X1) e1)
    · exact q.elim
end
section
variable {X : Cx}
end
section
variable {w : Wx} {K : PySem.W.Frag} {ta te : TE} {f g : DTE}
/-- the first place of an int among ints -/
def dIndex (f g : DTE)  (ε : Env) (Q : R → Env → Prop) : Prop := f ε fun x ε1 => match x.dat.bind PyData.its with
  | some ds => g ε1 fun y ε2 => match y.dat, intsD ds with
    | some (.int k), some ns => k ∈ ns ∧ Q (.sh (.int (ns.idxOf k : Nat))) ε2
    | _, _ => False
  | none => False
theorem idx_get {ms : List Int} {z : Int} (h : z ∈ ms) : ms[ms.idxOf z]? = some z := by
  have hl := List.idxOf_lt_length_of_mem h
  rw [List.getElem?_eq_getElem hl, List.getElem_idxOf hl]
end
end Lp

namespace Lp
open PySem PySem.Spec PyProof.Rows L2
section
variable {w : Wx} {K : PySem.W.Frag} {ta te : TE} {f g : DTE}
def enD (ds : List PyData) : List PyData := ds.mapIdx fun i d => .tuple [.int (i : Nat), d]
theorem enD_len (ds : List PyData) : (enD ds).length = ds.length := by unfold enD; rw [List.length_mapIdx]
theorem enD_get {ds : List PyData} {i : Nat} {e : PyData} (h : (enD ds)[i]? = some e) : ∃ d, ds[i]? = some d ∧ e = .tuple [.int (i : Nat), d] := by
  unfold enD at h
  rw [List.getElem?_mapIdx] at h
  cases q : ds[i]? with
  | none => rw [q] at h; cases h
  | some d => rw [q] at h; cases h; exact ⟨d, rfl, rfl⟩
theorem walkS_enum {L : Hp} {a : Addr} {xs : List V} {ds : List PyData} (h : L a = some (.lst xs)) (r : DVs L xs ds) : WalkS true L (Ite K a) (enD ds) := by
  have hl := r.len
  refine ⟨fun i L' H' s1 s2 hi => ?_, fun L' H' s1 s2 => ?_, fun i d L' H' x H2 s1 s2 hd y => ?_⟩
  · rw [enD_len] at hi
    exact ⟨xs, xs[i]'(by omega), SqL.of (s2 _ _ (s1 _ _ h)), List.getElem?_eq_getElem (by omega)⟩
  · rw [enD_len]
    exact ⟨xs, SqL.of (s2 _ _ (s1 _ _ h)), by omega⟩
  · obtain ⟨T, z, rfl, nT, rfl, y2⟩ := y
    have hx := y2 xs (SqL.of (s2 _ _ (s1 _ _ h)))
    obtain ⟨d', hd', rfl⟩ := enD_get hd
    obtain ⟨v, h1, h2⟩ := r.get hd'
    rw [hx] at h1
    cases h1
    exact ⟨L', Ext.own nT, same_own s2 (s2.free nT), .inr ⟨T, _, _, rfl, rfl, upd_same, .cons (.int _) (.cons (h2.to s1) .nil)⟩⟩
def dEnum (f : DTA)  (ε : Env) (Q : List PyData → Bool → Env → Prop) : Prop := f ε fun rs ε1 => match rs with
  | [.sh (.list ds)] => Q (enD ds) true ε1
  | _ => False
def zipDs (xs ys : List PyData) : List PyData := List.zipWith (fun a b => .tuple [a, b]) xs ys
theorem zipDs_len (xs ys : List PyData) : (zipDs xs ys).length = min xs.length ys.length := by unfold zipDs; rw [List.length_zipWith]
theorem zipDs_get {xs ys : List PyData} {i : Nat} {e : PyData} (h : (zipDs xs ys)[i]? = some e) : ∃ a b, xs[i]? = some a ∧ ys[i]? = some b ∧ e = .tuple [a, b] := by
  unfold zipDs at h
  rw [List.getElem?_zipWith] at h
  cases q : xs[i]? with
  | none => rw [q] at h; cases h
  | some a =>
    rw [q] at h
    cases q2 : ys[i]? with
    | none => rw [q2] at h; cases h
    | some b => rw [q2] at h; cases h; exact ⟨a, b, rfl, rfl, rfl⟩
theorem walkS_zipL {L : Hp} {a b : Addr} {xs ys : List V} {ds es : List PyData} (h : L a = some (.lst xs)) (k : L b = some (.lst ys)) (r : DVs L xs ds) (q : DVs L ys es) : WalkS true L (Itz K a b) (zipDs ds es) := by
  have hl := r.len
  have kl := q.len
  refine ⟨fun i L' H' s1 s2 hi => ?_, fun L' H' s1 s2 => ?_, fun i d L' H' x H2 s1 s2 hd y => ?_⟩
  · rw [zipDs_len] at hi
    exact ⟨xs, ys, xs[i]'(by omega), ys[i]'(by omega), SqL.of (s2 _ _ (s1 _ _ h)), SqL.of (s2 _ _ (s1 _ _ k)), List.getElem?_eq_getElem (by omega), List.getElem?_eq_getElem (by omega)⟩
  · rw [zipDs_len]
    exact ⟨xs, ys, SqL.of (s2 _ _ (s1 _ _ h)), SqL.of (s2 _ _ (s1 _ _ k)), by omega⟩
  · obtain ⟨T, z, z', rfl, nT, rfl, y2, y3⟩ := y
    have hx := y2 xs (SqL.of (s2 _ _ (s1 _ _ h)))
    have hy := y3 ys (SqL.of (s2 _ _ (s1 _ _ k)))
    obtain ⟨d', e', hd', he', rfl⟩ := zipDs_get hd
    obtain ⟨v, h1, h2⟩ := r.get hd'
    obtain ⟨u, k1, k2⟩ := q.get he'
    rw [hx] at h1
    rw [hy] at k1
    cases h1
    cases k1
    exact ⟨L', Ext.own nT, same_own s2 (s2.free nT), .inr ⟨T, _, _, rfl, rfl, upd_same, .cons (h2.to s1) (.cons (k2.to s1) .nil)⟩⟩
theorem walkS_zipT {L : Hp} {a b : Addr} {xs ys : List V} {ds es : List PyData} (h : Sol L a xs) (k : Sol L b ys) (r : DVs L xs ds) (q : DVs L ys es) : WalkS true L (RZ.ItzT K a b) (zipDs ds es) := by
  have hl := r.len
  have kl := q.len
  refine ⟨fun i L' H' s1 s2 hi => ?_, fun L' H' s1 s2 => ?_, fun i d L' H' x H2 s1 s2 hd y => ?_⟩
  · rw [zipDs_len] at hi
    exact ⟨xs, ys, xs[i]'(by omega), ys[i]'(by omega), ((h.to s1).to s2).seq, ((k.to s1).to s2).seq, List.getElem?_eq_getElem (by omega), List.getElem?_eq_getElem (by omega)⟩
  · rw [zipDs_len]
    exact ⟨xs, ys, ((h.to s1).to s2).seq, ((k.to s1).to s2).seq, by omega⟩
  · obtain ⟨T, z, z', rfl, nT, rfl, y2, y3⟩ := y
    have hx := y2 xs ((h.to s1).to s2).seq
    have hy := y3 ys ((k.to s1).to s2).seq
    obtain ⟨d', e', hd', he', rfl⟩ := zipDs_get hd
    obtain ⟨v, h1, h2⟩ := r.get hd'
    obtain ⟨u, k1, k2⟩ := q.get he'
    rw [hx] at h1
    rw [hy] at k1
    cases h1
    cases k1
    exact ⟨L', Ext.own nT, same_own s2 (s2.free nT), .inr ⟨T, _, _, rfl, rfl, upd_same, .cons (h2.to s1) (.cons (k2.to s1) .nil)⟩⟩
def dZip (f : DTA)  (ε : Env) (Q : List PyData → Bool → Env → Prop) : Prop := f ε fun rs ε1 => match rs with
  | [.sh (.list xs), .sh (.list ys)] => Q (zipDs xs ys) true ε1
  | [.sh (.tuple xs), .sh (.tuple ys)] => Q (zipDs xs ys) true ε1
  | _ => False
theorem si_zip {n : Nat} {t : TA} {f : DTA} (hf : SA w n t f) : SI w true (RZ.iZipA K t) (dZip f) := by
  constructor
  · intro ε A B h q
    refine hf.mono _ _ _ (fun r ε1 q => ?_) q
    split at q
    · exact h _ _ _ q
    · exact h _ _ _ q
    · exact q.elim
  · intro Z O σ ε L H R X q
    refine hf.run Z O σ ε L H _ X (hf.mono _ _ _ (fun r ε1 q => ?_) q)
    intro vs L1 H1 X1 e1 r1 hl np
    split at q
    · rename_i xs ys
      cases r1 with
      | cons r1 r2 =>
        cases r2 with
        | cons r2 r3 =>
          cases r3
          cases (show DV L1 _ (.list xs) from r1) with
          | lst h1 h2 =>
            cases (show DV L1 _ (.list ys) from r2) with
            | lst k1 k2 =>
              have W := walkS_zipL (K := K) h1 k1 h2 k2
              exact ⟨_, _, _, _, rfl, .inl ⟨SqL.of (X1.lh _ _ h1), SqL.of (X1.lh _ _ k1), q _ L1 H1 X1 e1 W.e fun _ => W⟩⟩
    · rename_i xs ys
      cases r1 with
      | cons r1 r2 =>
        cases r2 with
        | cons r2 r3 =>
          cases r3
          cases (show DV L1 _ (.tuple xs) from r1) with
          | tup h1 h2 =>
            cases (show DV L1 _ (.tuple ys) from r2) with
            | tup k1 k2 =>
              have W := walkS_zipT (K := K) h1 k1 h2 k2
              exact ⟨_, _, _, _, rfl, .inr ⟨(h1.to X1.lh).seq, (k1.to X1.lh).seq, q _ L1 H1 X1 e1 W.e fun _ => W⟩⟩
    · exact q.elim
def scD (γ : DTG) (f : DTE) (vs : List Nat) (s : List SV) (Q : R → Env → Prop) : List PyData → List (List Int) → Nat → Prop
  | [], acc, n => ∀ RS, Asc acc RS → Q (.nw (dT RS)) ⟨s, n⟩
  | d :: ds, acc, n => γ d ⟨wipeE ⟨s, n⟩ vs, n⟩ fun ε1 => f ε1 fun r ε3 => match r with
      | .sh (.tuple es) => match intsD es with
        | some (x :: ns) => acc.length + 1 < 64 ∧ scD γ f vs s Q ds (acc ++ [x :: ns]) ε3.c
        | _ => False
      | _ => False
def dSortSc (i : DTI) (γ : DTG) (f : DTE) (vs : List Nat)  (ε : Env) (Q : R → Env → Prop) : Prop := i ε fun ds _ ε1 => scD γ f vs ε1.s Q ds [] ε1.c
end
section
variable {w : Wx} {K : PySem.W.Frag} {te : TE} {f : DTE}
def tyD : PyData → String
  | .none => "NoneType"
  | .bool _ => "bool"
  | .int _ => "int"
  | .str _ => "str"
  | .list _ => "list"
  | .tuple _ => "tuple"
  | .dict _ => "dict"
/-- what a value is, dicts with keys that are tuples, too -/
def TyY (K : PySem.W.Frag) (H : Hp) (x : V) (t : Value) : Prop := TyX K H x t ∨ (t = .type "dict" ∧ ∃ a xs, x = .ref a ∧ IsDct H a xs)
theorem kit_ofY {X : Cx} {pins : List (Addr × Obj)} {σ : L2.St} {H : Hp} {s : Shared} {x : V} {u t : Value} (I : Inv X pins σ H s) (rx : RelV x u) (ty : TyY X.K H x t) : ∃ P : Heap → Prop, PySem.W.KitX X.K u t P ∧ P s.heap ∧ u ≠ .builtin "__main__.__loader__#opaque" := by
  rcases ty with ty | ⟨rfl, a, xs, rfl, ob, x1⟩
  · exact kit_of I rx ty
  · cases (show u = Value.ref a from rx)
    obtain ⟨_, _, _, ys, _, o, es, ep, ho, hx, _⟩ := (I.hok a _ x1).1.2
    exact ⟨_, PySem.W.kitx_dict, ⟨o, ho, hx.1⟩, fun z => nomatch z⟩
def rIsiY (K : PySem.W.Frag) : List V → Hp → VK → Prop := fun xs H Q => ∃ (x c : V) (t u : Value) (b : Bool), xs = [x, c] ∧ ClsV c u ∧ TyY K H x t ∧ PySem.W.kitOne K t u = some b ∧ Q (.bl b) H
def rIsiTY (K : PySem.W.Frag) : List V → Hp → VK → Prop := fun xs H Q => ∃ (x : V) (tp : Addr) (cs : List V) (t : Value) (us : List Value) (b : Bool), xs = [x, .ref tp] ∧ H tp = some (.tup cs) ∧ Paired ClsV cs us ∧ TyY K H x t ∧ PySem.W.kitAny K t us = some b ∧ Q (.bl b) H
theorem call_isiY {X : Cx} : CallR X (.builtin "isinstance") (rIsiY X.K) := by
  intro pins s σ H xs us Q I r h
  obtain ⟨x, c, t, u, b, rfl, k, ty, e, q⟩ := h
  obtain ⟨u1, u2, rfl, r1, r2⟩ := vals2 r
  have e2 := k.eq r2
  subst e2
  obtain ⟨P, Z, p, hx⟩ := kit_ofY I r1 ty
  exact PySem.W.kia_one Z I.kIn p e hx fun tk => ⟨.bl b, H, I.tok tk, rfl, q⟩
theorem call_isiTY {X : Cx} : CallR X (.builtin "isinstance") (rIsiTY X.K) := by
  intro pins s σ H xs us Q I r h
  obtain ⟨x, tp, cs, t, ws, b, rfl, hT, k, ty, e, q⟩ := h
  obtain ⟨u1, u2, rfl, r1, r2⟩ := vals2 r
  cases (show u2 = Value.ref tp from r2)
  obtain ⟨P, Z, p, hx⟩ := kit_ofY I r1 ty
  obtain ⟨_, its, rv, o, h1, h2, n, h3⟩ := (show ObjOk X.prog X.w H s.heap tp (.tup cs) from I.hok tp _ hT)
  have e3 := ClsV.all k rv
  subst e3
  obtain ⟨oc, od, dt, sl⟩ := o
  simp only at h2 h3
  subst h2 h3
  exact PySem.W.kia_tup Z I.kIn p h1 e hx fun tk => ⟨.bl b, H, I.tok tk, rfl, q⟩
theorem tyX_of {L H : Hp} {v : V} {d : PyData} (h : VL L H v d) (s : Same L H) : TyY K H v (.type (tyD d)) := by
  cases d with
  | none => rw [h.non]; exact .inl (.base .non)
  | bool b => rw [h.bl]; exact .inl (.base (.bl _))
  | int i => rw [h.int]; exact .inl (.base (.int _))
  | str x => rw [h.str]; exact .inl (.base (.str _))
  | list ds =>
    obtain ⟨a, xs, rfl, h1, _⟩ := h.lst s
    exact .inl (.base (.lst h1))
  | tuple ds =>
    obtain ⟨a, xs, rfl, h1, _⟩ := h.tup
    obtain ⟨o, _, e⟩ := h1.to s
    exact .inl (.fTuple e)
  | dict _ =>
    rcases h with h | ⟨a, xs, es, e, _⟩
    · cases h with
      | dct e _ _ => exact .inr ⟨rfl, _, _, rfl, e.to s⟩
      | dci e _ _ _ => exact .inl (.fDict (s _ _ e))
    · cases e
/-- is a value of type a one of type b -/
def isaT (a b : String) : Bool := a == b || (a == "bool" && b == "int")
def TyIn (T : String) : Prop := T = "int" ∨ T = "bool" ∨ T = "str" ∨ T = "list" ∨ T = "tuple"
theorem kit_all : ∀ a ∈ ["NoneType", "bool", "int", "str", "list", "tuple", "dict"], ∀ b ∈ ["int", "bool", "str", "list", "tuple"], kitB a b = some (isaT a b) := by decide +kernel
theorem kit_tyD {T : String} (hT : TyIn T) (d : PyData) : kitB (tyD d) T = some (isaT (tyD d) T) := by
  refine kit_all _ ?_ _ ?_
  · cases d <;> simp [tyD]
  · rcases hT with rfl | rfl | rfl | rfl | rfl <;> simp
def dIsi (T : String) (f : DTE)  (ε : Env) (Q : R → Env → Prop) : Prop := f ε fun r ε1 => match r.dat with
  | some d => Q (.sh (.bool (isaT (tyD d) T))) ε1
  | none => False
theorem se_isi {T : String} (hT : TyIn T) (hf : SE w te f) : SE w (tCB (rIsiY K) (tCons te (tCons (tC (.ty T)) tNil))) (dIsi T f) := by
  constructor
  · intro ε A B h q
    refine hf.mono _ _ _ (fun r ε1 q => ?_) q
    split at q
    · exact h _ _ q
    · exact q.elim
  · intro Z O σ ε L H Q X q
    refine hf.run Z O σ ε L H _ X (hf.mono _ _ _ (fun r ε1 q => ?_) q)
    intro v L1 H1 X1 e1 r1
    split at q
    · rename_i d hd
      exact ⟨v, .ty T, .type (tyD d), .type T, _, rfl, .ty T, tyX_of (r1.vl hd) X1.lh, kit_ty (kit_tyD hT d), q _ L1 H1 X1 e1 (.bl _)⟩
    · exact q.elim
/-- isinstance(x, (list, tuple)) -/
def dIsi2 (T T' : String) (f : DTE)  (ε : Env) (Q : R → Env → Prop) : Prop := f ε fun r ε1 => match r.dat with
  | some d => Q (.sh (.bool (isaT (tyD d) T || isaT (tyD d) T'))) ε1
  | none => False
theorem se_isi2 {T T' : String} (hT : TyIn T) (hT' : TyIn T') (hf : SE w te f) : SE w (tCB (rIsiTY K) (tCons te (tCons (tTup (tCons (tC (.ty T)) (tCons (tC (.ty T')) tNil))) tNil))) (dIsi2 T T' f) := by
  constructor
  · intro ε A B h q
    refine hf.mono _ _ _ (fun r ε1 q => ?_) q
    split at q
    · exact h _ _ q
    · exact q.elim
  · intro Z O σ ε L H Q X q
    refine hf.run Z O σ ε L H _ X (hf.mono _ _ _ (fun r ε1 q => ?_) q)
    intro v L1 H1 X1 e1 r1
    split at q
    · rename_i d hd
      refine ⟨by show 2 ≤ sizeLine; decide, fun p np => ?_⟩
      have e2 : Ext none L1 H1 L1 (upd H1 p (.tup [.ty T, .ty T'])) := Ext.own np
      have X2 := X1.step e2 (same_own X1.lh (X1.lh.free np))
      refine ⟨v, p, _, .type (tyD d), [.type T, .type T'], _, rfl, upd_same, .cons (.ty T) (.cons (.ty T') .nil), tyX_of ((r1.mono X1 e2.any).vl hd) X2.lh, ?_, q _ L1 _ X2 (e1.trans e2.any) (.bl _)⟩
      refine kitAny_cons (kit_ty (kit_tyD hT d)) (fun h => ?_) (fun h => by rw [h]; rfl)
      refine kitAny_cons (kit_ty (kit_tyD hT' d)) (fun h' => ?_) (fun h' => by rw [h', Bool.or_true])
      rw [h, h']; rfl
    · exact q.elim
end
end Lp

namespace Lp
open PySem PySem.Spec PyProof.Rows L2
/-- the module's names that are the built-ins' -/
structure Bi (mg : Str → Option Value) : Prop where
  len : mg "len" = none
  list : mg "list" = none
  tuple : mg "tuple" = none
  range : mg "range" = none
  enumerate : mg "enumerate" = none
  all : mg "all" = none
  isinstance : mg "isinstance" = none
  zip : mg "zip" = none
  abs : mg "abs" = none
  int : mg "int" = none
  str : mg "str" = none
  bool : mg "bool" = none
  repr : mg "repr" = none
  set : mg "set" = none
  min : mg "min" = none
  max : mg "max" = none
  sorted : mg "sorted" = none
  sum : mg "sum" = none
  any : mg "any" = none
def φIsB  (x y : PyData) (Q : R → Prop) : Prop := match x, y with
  | .bool a, .bool b => Q (.sh (.bool (decide (a = b))))
  | _, _ => False
def dNotT (f : DTE)  (ε : Env) (Q : R → Env → Prop) : Prop := f ε fun r ε1 => match r.dat.bind truD with
  | some k => Q (.sh (.bool (!k))) ε1
  | _ => False
section
variable {X : Cx} {K : PySem.W.Frag}
theorem ixK (e : X.K = K) : IxR X (rIx K) := e ▸ ix_seq
theorem addK (e : X.K = K) : OpR X (binaryOp .Add) (rAdd K) := e ▸ op_addA
theorem eqK (e : X.K = K) (hu : X.A.units + 64 < cLine) : OpR X (compareOp .Eq) (rEqA K) := e ▸ op_eqA hu
theorem neK (e : X.K = K) (hu : X.A.units + 64 < cLine) : OpR X (compareOp .NotEq) (rNeA K) := e ▸ op_neA hu
theorem lenK (e : X.K = K) : CallR X (.builtin "len") (rLen K) := e ▸ call_len_seq
theorem listK (e : X.K = K) : CallR X (.type "list") (rList K) := e ▸ call_list_of
theorem tupleK (e : X.K = K) : CallR X (.type "tuple") (rTuple K) := e ▸ call_tupleS
theorem allK (e : X.K = K) (hc : X.calm = true) : CallR X (.builtin "all") (rAll K) := e ▸ cr_all hc
theorem seqK {tg o : Expr} {to : TE} (e : X.K = K) (ho : PE X o to) : PI X tg o (iSeq K to) := e ▸ pi_seq ho
theorem gtupK {es : List Expr} {k : Nat} {t : TGs} {n : Nat} {pos : Pos} (e : X.K = K) (h : PG X (.Tuple es k pos) (gTup X.K n t)) : PG X (.Tuple es k pos) (gTup K n t) := e ▸ h
theorem isiK (e : X.K = K) : CallR X (.builtin "isinstance") (rIsiY K) := e ▸ call_isiY
theorem isiTK (e : X.K = K) : CallR X (.builtin "isinstance") (rIsiTY K) := e ▸ call_isiTY
theorem zipA {ta : TA} {p pos tpos : Pos} {elts : List Expr} {kk : Nat} {a a' : Expr} (e : X.K = K) (hg : Gl X "zip") (hm : X.mg "zip" = none) (ha : PA X [a, a'] ta) (hs : starEach [a, a'] X.env = (false, eval a X.env) :: starEach [a'] X.env := by rfl) (hpl : (backTo pos (starEach [a'] X.env)).any (·.1) = false := by rfl) : PI X (.Tuple elts kk tpos) (.Call (.Name "zip" p) [a, a'] [] pos) (RZ.iZipA K ta) := e ▸ RZ.pi_zipA hg hm ha hs hpl
theorem bmK {e : Expr} {T : String} {r : V → List V → Hp → VK → Prop} {to : TE} {t : TA} (h : X.K = K) (x : PE X e (tBM X.K T r to t)) : PE X e (tBM K T r to t) := h ▸ x
end
/-- a def that may be called -/
structure Cal (P : Program) (w : World) (K : PySem.W.Frag) (mg : Str → Option Value) (base : Heap) (x : Str) (k : Nat) (ps : List Str) (sp : Sp) (f : Addr) (fd : FuncData) : Prop where
  ok : FnOk P w K mg base CX0 k f fd ps sp
  g : mg x = some (.ref f)
  kp : PySem.W.keepIn K (.ref f) = true
  bd : Binds K fd ps []
def KbR (fd : FuncData) (ps : List Str) : Prop := ∀ (s : Shared) (ws : List Value), ws.length = ps.length → BindsTo s fd ⟨[], ps.reverse.zip ws⟩ (ps.zip ws.reverse)
theorem Fun.kbr {K : PySem.W.Frag} {x qual : Str} {st : Stmt} {f : Addr} {fd : FuncData} {ps : List Str} (F : Fun K x qual st f fd)
    (h : ∀ (kV doc pm : Value) (an : Option Addr) (cdv ct : Value) (ws : List Value), ws.length = ps.length → bindArgs (PySem.W.fnOf x qual (defArgs st) (defBody st) (defScope st) .none kV doc pm an cdv ct) ⟨[], ps.reverse.zip ws⟩ = pure (ps.zip ws.reverse)) : KbR fd ps := by
  obtain ⟨oc, od, kV, doc, pm, an, cdv, ct, osl, rfl, lk, hcd⟩ := F.ex
  exact fun s ws hl => .of_eq (h kV doc pm an cdv ct ws hl)
section
variable {P : Program} {w : World} {K : PySem.W.Frag} {mg : Str → Option Value} {base : Heap}
end
def Dx (K : PySem.W.Frag) (x : Str) (st : Stmt) : Prop := ∃ (f : Addr) (oc : Value) (od an : Option Addr) (sl : Array (Option Value)) (kV dc pm cd ct : Value), PySem.W.nsIn K mainGlobals x = some (some (.ref f)) ∧
  K.lookup f = some ⟨oc, od, .func (PySem.W.fnOf x x (defArgs st) (defBody st) (defScope st) .none kV dc pm an cd ct), sl⟩ ∧ PySem.W.codeIn K cd x = true ∧ PySem.W.keepIn K (.ref f) = true
theorem dx_mk {K : PySem.W.Frag} {x : Str} {st : Stmt} {f : Addr} {oc : Value} {od an : Option Addr} {sl : Array (Option Value)} {kV dc pm cd ct : Value} (a : PySem.W.nsIn K mainGlobals x = some (some (.ref f)))
    (l : K.lookup f = some ⟨oc, od, .func (PySem.W.fnOf x x (defArgs st) (defBody st) (defScope st) .none kV dc pm an cd ct), sl⟩) (c : PySem.W.codeIn K cd x = true) (k : PySem.W.keepIn K (.ref f) = true) : Dx K x st := ⟨f, oc, od, an, sl, kV, dc, pm, cd, ct, a, l, c, k⟩
theorem Dx.fn {K : PySem.W.Frag} {x : Str} {st : Stmt} {h : Heap} {mg : Str → Option Value} (d : Dx K x st) (X : K.In h) (G : h.Ns mainGlobals mg) : ∃ f fd, Fun K x x st f fd ∧ mg x = some (.ref f) := by
  obtain ⟨f, oc, od, an, sl, kV, dc, pm, cd, ct, a, l, c, k⟩ := d
  exact ⟨f, _, fun_mk l c k, PySem.W.mg_of X G a⟩
structure Zs (K : PySem.W.Frag) : Prop where
  len : PySem.W.nsIn K mainGlobals "len" = some none
  list : PySem.W.nsIn K mainGlobals "list" = some none
  tuple : PySem.W.nsIn K mainGlobals "tuple" = some none
  range : PySem.W.nsIn K mainGlobals "range" = some none
  enumerate : PySem.W.nsIn K mainGlobals "enumerate" = some none
  all : PySem.W.nsIn K mainGlobals "all" = some none
  isinstance : PySem.W.nsIn K mainGlobals "isinstance" = some none
  zip : PySem.W.nsIn K mainGlobals "zip" = some none
  abs : PySem.W.nsIn K mainGlobals "abs" = some none
  int : PySem.W.nsIn K mainGlobals "int" = some none
  str : PySem.W.nsIn K mainGlobals "str" = some none
  bool : PySem.W.nsIn K mainGlobals "bool" = some none
  repr : PySem.W.nsIn K mainGlobals "repr" = some none
  set : PySem.W.nsIn K mainGlobals "set" = some none
  min : PySem.W.nsIn K mainGlobals "min" = some none
  max : PySem.W.nsIn K mainGlobals "max" = some none
  sorted : PySem.W.nsIn K mainGlobals "sorted" = some none
  sum : PySem.W.nsIn K mainGlobals "sum" = some none
  any : PySem.W.nsIn K mainGlobals "any" = some none
theorem Zs.bi {K : PySem.W.Frag} {h : Heap} {mg : Str → Option Value} (z : Zs K) (X : K.In h) (G : h.Ns mainGlobals mg) : Bi mg := by
  constructor
  · exact PySem.W.mg_none_of X G z.len
  · exact PySem.W.mg_none_of X G z.list
  · exact PySem.W.mg_none_of X G z.tuple
  · exact PySem.W.mg_none_of X G z.range
  · exact PySem.W.mg_none_of X G z.enumerate
  · exact PySem.W.mg_none_of X G z.all
  · exact PySem.W.mg_none_of X G z.isinstance
  · exact PySem.W.mg_none_of X G z.zip
  · exact PySem.W.mg_none_of X G z.abs
  · exact PySem.W.mg_none_of X G z.int
  · exact PySem.W.mg_none_of X G z.str
  · exact PySem.W.mg_none_of X G z.bool
  · exact PySem.W.mg_none_of X G z.repr
  · exact PySem.W.mg_none_of X G z.set
  · exact PySem.W.mg_none_of X G z.min
  · exact PySem.W.mg_none_of X G z.max
  · exact PySem.W.mg_none_of X G z.sorted
  · exact PySem.W.mg_none_of X G z.sum
  · exact PySem.W.mg_none_of X G z.any
abbrev FnT (x : Str) (st : Stmt) (kV doc pm : Value) (an : Option Addr) (cdv ct : Value) : FuncData := PySem.W.fnOf x x (defArgs st) (defBody st) (defScope st) .none kV doc pm an cdv ct
section
variable {K : PySem.W.Frag} {x : Str} {st : Stmt} {f : Addr} {fd : FuncData} {p p' p'' : Str} (F : Fun K x x st f fd)
include F
theorem b1 (h : ∀ kV doc pm an cdv ct u, bindArgs (FnT x st kV doc pm an cdv ct) ⟨[u], []⟩ = pure [(p, u)]) : Binds K fd [p] [] :=
  F.binds fun kV doc pm an cdv ct us hl => match us, hl with | [u], _ => h kV doc pm an cdv ct u
theorem b2 (h : ∀ kV doc pm an cdv ct u v, bindArgs (FnT x st kV doc pm an cdv ct) ⟨[u, v], []⟩ = pure [(p, u), (p', v)]) : Binds K fd [p, p'] [] :=
  F.binds fun kV doc pm an cdv ct us hl => match us, hl with | [u, v], _ => h kV doc pm an cdv ct u v
theorem b3 (h : ∀ kV doc pm an cdv ct u v t, bindArgs (FnT x st kV doc pm an cdv ct) ⟨[u, v, t], []⟩ = pure [(p, u), (p', v), (p'', t)]) : Binds K fd [p, p', p''] [] :=
  F.binds fun kV doc pm an cdv ct us hl => match us, hl with | [u, v, t], _ => h kV doc pm an cdv ct u v t
theorem r1 (h : ∀ kV doc pm an cdv ct u, bindArgs (FnT x st kV doc pm an cdv ct) ⟨[], [(p, u)]⟩ = pure [(p, u)]) : KbR fd [p] :=
  Fun.kbr F fun kV doc pm an cdv ct us hl => match us, hl with | [u], _ => h kV doc pm an cdv ct u
theorem r2 (h : ∀ kV doc pm an cdv ct u v, bindArgs (FnT x st kV doc pm an cdv ct) ⟨[], [(p', u), (p, v)]⟩ = pure [(p, v), (p', u)]) : KbR fd [p, p'] :=
  Fun.kbr F fun kV doc pm an cdv ct us hl => match us, hl with | [u, v], _ => h kV doc pm an cdv ct u v
theorem r3 (h : ∀ kV doc pm an cdv ct u v t, bindArgs (FnT x st kV doc pm an cdv ct) ⟨[], [(p'', u), (p', v), (p, t)]⟩ = pure [(p, t), (p', v), (p'', u)]) : KbR fd [p, p', p''] :=
  Fun.kbr F fun kV doc pm an cdv ct us hl => match us, hl with | [u, v, t], _ => h kV doc pm an cdv ct u v t
end
theorem Cal.up {P : Program} {w : World} {K : PySem.W.Frag} {mg : Str → Option Value} {base : Heap} {x : Str} {j k : Nat} {ps : List Str} {sp : Sp} {f : Addr} {fd : FuncData} (c : Cal P w K mg base x j ps sp f fd) (h : j ≤ k) : Cal P w K mg base x k ps sp f fd := ⟨c.ok.mono h, c.g, c.kp, c.bd⟩
end Lp

namespace Lp
open PySem PySem.Spec PyProof.Rows L2
section
variable {P : Program} {w : World} {K : PySem.W.Frag} {mg : Str → Option Value} {base : Heap}
end
theorem lay_ints : ∀ ns : List Int, PyData.canLayAll0 (dI ns) = true
  | [] => by simp [PyData.canLayAll0]
  | x :: r => by
    have := lay_ints r
    simp only [List.map_cons, PyData.canLayAll0, PyData.canLay0, this, Bool.and_self]
theorem depth_ints : ∀ ns : List Int, PyData.depthAll (dI ns) = 0
  | [] => by simp [PyData.depthAll]
  | x :: r => by
    have := depth_ints r
    simp only [List.map_cons, PyData.depthAll, PyData.depth, this]
    rfl
theorem shL (ns : List Int) : SeqAt.shaped (.list (dI ns)) = true := by
  unfold SeqAt.shaped
  simp only [PyData.canLay0, PyData.depth, lay_ints, depth_ints]
  decide
theorem shT (ns : List Int) : SeqAt.shaped (.tuple (dI ns)) = true := by
  unfold SeqAt.shaped
  simp only [PyData.canLay0, PyData.depth, lay_ints, depth_ints]
  decide
theorem eqv_ints : ∀ a b : List Int, PyData.eqvAll (dI a) (dI b) = decide (a = b)
  | [], [] => by simp [PyData.eqvAll]
  | [], _ :: _ => by simp [PyData.eqvAll]
  | _ :: _, [] => by simp [PyData.eqvAll]
  | x :: r, y :: t => by
    have ih := eqv_ints r t
    simp only [List.map_cons, PyData.eqvAll, PyData.eqv, ih]
    by_cases h : x = y
    · subst h
      by_cases h2 : r = t
      · subst h2; simp
      · simp [h2]
    · simp [h]
theorem eqvL (a b : List Int) : PyData.eqv (.list (dI a)) (.list (dI b)) = decide (a = b) := by
  simp only [PyData.eqv]; exact eqv_ints a b
theorem eqvT (a b : List Int) : PyData.eqv (.tuple (dI a)) (.tuple (dI b)) = decide (a = b) := by
  simp only [PyData.eqv]; exact eqv_ints a b
end Lp

namespace Lp
open PySem PySem.Spec PyProof.Rows L2
abbrev tupIt (t : Addr) : Obj := { cls := .type "tuple_iterator", data := .fields #[.ref t, .int 0 0] }
abbrev enumOf (it : Addr) : Obj := { cls := .type "enumerate", data := .fields #[.none, .bool false, .ref it, rawInt 0, .none, .none] }
theorem meets_enT (t : Addr) (its : Array Value) : Meets (Builtin.«enumerate.__new__» ⟨[.type "enumerate", .ref t], []⟩) (fun _ R s => s.heap.IsTuple t its ∧
    R (.ok (.ret (.ref (s.heap.push (tupIt t)).objs.size))) { s with heap := (s.heap.push (tupIt t)).push (enumOf s.heap.objs.size) }) :=
  .of_wp fun prog w A R s h => by
    obtain ⟨hp, g, d, tk, os⟩ := s
    obtain ⟨ht, h⟩ := h
    have sub := sub_enumerate
    have goIt : ∀ {A' : Around} {X : Value → Shared → Prop} {Q : Value → Shared → Prop}, Q (.ref hp.objs.size) ⟨hp.push (tupIt t), g, d, tk, os⟩ → wpAny (model prog w) A' (pyIter (.ref t)) Q X ⟨hp, g, d, tk, os⟩ :=
      fun q => wpAny_pyIter_tuple ht q
    wp_walk using goIt
    refine wpAny_stack_any fun st => wpAny_pure ?_
    split
    · rename_i c _ _ _ _ _
      cases (c == Value.type "enumerate") <;> (wp_walk using goIt; exact ⟨_, rfl, h⟩)
    · wp_walk using goIt
      exact ⟨_, rfl, h⟩
theorem call_enT {prog : Program} {w : World} {A : Around} {X : Value → Shared → Prop} {s : Shared} {t : Addr} {its : Array Value} {Q : Value → Shared → Prop} (ht : s.heap.IsTuple t its)
    (h : ∀ h', IsEnum h' (s.heap.objs.size + 1) s.heap.objs.size 0 .none → h'.IsTupleIter s.heap.objs.size t 0 → (∀ b o, s.heap.get? b = some o → h'.get? b = some o) → Q (.ref (s.heap.objs.size + 1)) { s with heap := h' }) :
    wpAny (model prog w) A (call (.type "enumerate") [.ref t]) Q X s := by
  refine callType_new F.called_enumerate (by decide) (F.typeCall_enumerate_1 _) (F.newCall_enumerate_1 _) (fun obj => F.args_object_init_2 obj _) F.entry_enumerate_new (meets_enT t its) ⟨ht, ?_⟩
  have z1 : (s.heap.push (tupIt t)).objs.size = s.heap.objs.size + 1 := Heap.size_push ..
  show _ ∧ _
  rw [z1]
  have made : IsEnum ((s.heap.push (tupIt t)).push (enumOf s.heap.objs.size)) (s.heap.objs.size + 1) s.heap.objs.size 0 .none := by
    have y := Heap.get?_push_size (s.heap.push (tupIt t)) (o := enumOf s.heap.objs.size) rfl
    rw [z1] at y
    exact y
  exact ⟨⟨_, made, rfl⟩, h _ made ⟨_, Heap.get?_push_of_some _ (Heap.get?_push_size _ rfl), rfl, rfl⟩ fun b o x => Heap.get?_push_of_some _ (Heap.get?_push_of_some _ x)⟩
/-- the tuple at a, each item in a new pair -/
def IteT (K : PySem.W.Frag) (a : Addr) : It :=
  ⟨fun i H => ∃ (xs : List V) (x : V), SqT K H a xs ∧ xs[i]? = some x, fun i H v H' => ∃ T x, v = .ref T ∧ H T = none ∧ H' = upd H T (.tup [.int (i : Nat), x]) ∧ ∀ xs, SqT K H a xs → xs[i]? = some x, fun i H => ∃ xs : List V, SqT K H a xs ∧ xs.length ≤ i⟩
theorem apartT {h : Heap} {a e it : Addr} {its : Array Value} {k : Int} {old : Value} {i : Nat} (p : h.IsTuple a its) (he : IsEnum h e it k old) (hit : h.IsTupleIter it a i) : a ≠ it ∧ e ∉ [it, a] ∨ e = it := by
  obtain ⟨o, ho, hc, _⟩ := p
  obtain ⟨o2, h2, c2, _⟩ := hit
  have n1 : a ≠ it := fun z => by
    rw [z, h2] at ho
    cases ho
    rw [hc] at c2
    injection c2 with c3
    exact absurd c3 (by decide)
  have n2 : e ≠ a := fun z => by
    have he2 : h.get? e = some _ := he
    rw [z, ho] at he2
    have := congrArg (fun x => (Option.map Obj.cls x)) he2
    simp only [Option.map_some, Option.some.injEq] at this
    rw [hc] at this
    injection this with c3
    exact absurd c3 (by decide)
  by_cases q : e = it
  · exact .inr q
  · exact .inl ⟨n1, by simp [q, n2]⟩
theorem turn_enT {P : Program} {w : World} {K : PySem.W.Frag} {elts : List Expr} {kk : Nat} {tpos : Pos} (a e it : Addr) :
    Turn P w K (.Tuple elts kk tpos) (IteT K a) [e, it] e (fun i h => (∃ old, IsEnum h e it ((i : Nat) : Int) old) ∧ h.IsTupleIter it a i ∧ e ≠ it) where
  mem := by simp
  obj := fun i h st b hb => by
    obtain ⟨⟨old, he⟩, ⟨o, ho, hc, hd⟩, _⟩ := st
    rcases (show b = e ∨ b = it by simpa using hb) with z | z
    · subst z; exact ⟨_, he, fun v q => nomatch q⟩
    · subst z; exact ⟨o, ho, fun v q => by rw [hd] at q; cases q⟩
  keep := fun i h h' st k => by
    obtain ⟨⟨old, he⟩, hi, ne⟩ := st
    exact ⟨⟨old, k e (by simp) _ he⟩, hi.at fun o q => k it (by simp) o q, ne⟩
  item := by
    intro X hP hw hK hc i pins s σ H E I hf st hg
    subst hP hw hK
    obtain ⟨⟨old, he⟩, hit, ne⟩ := st
    obtain ⟨xs, x, hq, hx⟩ := hg
    obtain ⟨its, rv, p, few⟩ := I.tuple hq
    obtain ⟨u, hu, ru⟩ := rv.get hx
    have el : e < s.heap.objs.size := Heap.lt_size he
    have il : it < s.heap.objs.size := by obtain ⟨_, q, _⟩ := hit; exact Heap.lt_size q
    obtain ⟨n1, n2⟩ := (apartT p he hit).resolve_right ne
    have iu : i < its.toArray.size := by
      have := (List.getElem?_eq_some_iff.mp hu).1
      simpa using this
    refine wpAny_pyNext_enum_itemD (Draws.tuple (A := X.A.in1) (I.ok.hd hc) it a n1 its.toArray) he ⟨hit, p⟩ iu ne n2 fun y h' tk hy ho st' hT hsz hk => ?_
    have yu : y = u := by
      have hy2 : its.toArray[i]? = some y := hy
      rw [List.getElem?_toArray, hu] at hy2
      exact (Option.some.inj hy2).symm
    subst yu
    refine ⟨_, rfl, wpAny_letOwnedTupleGo_enum (s := { s with heap := h', toks := tk + 1 }) ho fun h2 he2 sb => ?_⟩
    have hT2 : h2.get? s.heap.objs.size = some { cls := .type "tuple", data := .seq #[.int i tk, y] } := (sb.2 _ (Nat.ne_of_gt el)).trans hT
    have pair : ObjOk X.prog X.w (upd H s.heap.objs.size (.tup [.int (i : Nat), x])) h2 s.heap.objs.size (.tup [.int (i : Nat), x]) :=
      ⟨by show 2 ≤ sizeLine; decide, [.int i tk, y], .cons ⟨_, rfl⟩ (.cons ru .nil), ⟨_, hT2, rfl, _, rfl⟩⟩
    have J : Inv X pins σ (upd H s.heap.objs.size (.tup [.int (i : Nat), x])) { s with heap := h2, toks := tk + 1 } :=
      I.turnedNew (ch := [e, it]) (fun b ob hb q => (sb.2 b (fun z => hb (by simp [z]))).trans (hk b ob (fun z => hb (by simp [z])) (fun z => hb (by simp [z])) q)) hf (Nat.le_refl _) pair
    refine ⟨.ref s.heap.objs.size, _, J, rfl, ⟨_, x, rfl, I.hok.fresh (Nat.le_refl _), rfl, fun ys hy => by rw [I.tuple_inj hy hq]; exact hx⟩, ⟨⟨y, ?_⟩, st'.1.at fun o q => (sb.2 it (Ne.symm ne)).trans q, ne⟩, fun b hb => ?_⟩
    · rw [show ((i + 1 : Nat) : Int) = (i : Int) + 1 by omega]; exact he2
    · have bl : b < s.heap.objs.size := by
        rcases (show b = e ∨ b = it by simpa using hb) with z | z
        · subst z; exact el
        · subst z; exact il
      rw [upd_ne (Nat.ne_of_lt bl)]
      exact (hf b hb).1
  done := by
    intro X hP hw hK hc i pins s σ H E I hf st hg
    subst hP hw hK
    obtain ⟨⟨old, he⟩, hit, ne⟩ := st
    obtain ⟨xs, hq, hx⟩ := hg
    obtain ⟨its, rv, p, few⟩ := I.tuple hq
    obtain ⟨n1, n2⟩ := (apartT p he hit).resolve_right ne
    obtain ⟨f0, f1, f2, f3, f4, f5⟩ := hf it (by simp)
    have hl := rv.length
    have hT : s.TypeIs (.ref e) "enumerate" := ⟨_, he, rfl⟩
    unfold pyNext
    refine wpAny_bind (wpAny_attempt (wpAny_callSpecial?_slot (name := Str.ofString "__next__") hT F.slot_enumerate_next
      (wpAny_call_entry F.slot_enumerate_next hT F.entry_enumerate_next ?_ (F.args_enumerate_next_1 _))))
    show wpAny _ _ (field (.ref e) 2 >>= _) _ _ _
    refine wpAny_bind (wpAny_field he rfl (x := .ref it) rfl ?_)
    refine wpAny_bind (wpAny_nextOf_tuple_end (A := X.A.in1) (I.ok.hd hc) hit p (by simp; omega) fun h' x eb hx' => ?_)
    obtain ⟨o, ho, hc'⟩ := hx'
    refine wpAny_bind (wpAny_isInstance (T := "StopIteration") (b := true) ⟨o, ho, hc'⟩ isSubtype_stop ?_)
    exact wpAny_pure ⟨rfl, I.turned (t' := s.toks) (fun b o hb q => eb b o hb q) f0 f1 f3 f4 f5⟩
  self := fun A i s Q E st h => by
    obtain ⟨⟨_, he⟩, _⟩ := st
    exact wpAny_pyIter_enum he h
/-- enumerate(e): a list or a tuple -/
def iEnA (K : PySem.W.Frag) (ta : TA) : TI := fun σ H R => ta σ H fun vs H1 => ∃ a xs, vs = [.ref a] ∧ ((SqL K H1 a xs ∧ R (Ite K a) H1) ∨ (SqT K H1 a xs ∧ R (IteT K a) H1))
theorem pi_enA {X : Cx} {e : Expr} {ta : TA} {p pos tpos : Pos} {elts : List Expr} {kk : Nat} (hg : Gl X "enumerate") (hm : X.mg "enumerate" = none) (ha : PA X [e] ta) (hs : starEach [e] X.env = [(false, eval e X.env)] := by rfl) :
    PI X (.Tuple elts kk tpos) (.Call (.Name "enumerate" p) [e] [] pos) (iEnA X.K ta) := by
  refine ⟨fun pins s σ H R I h => ?_⟩
  refine Call_ (ld_blt I hg hm boot_enumerate (PyProof.Rows.callWith_type1 (thn (ha.run pos pins s σ H _ I h) fun us s1 ⟨vs, H1, I1, r1, q1⟩ => ?_) hs rfl))
  obtain ⟨a, xs, rfl, ways⟩ := q1
  cases r1 with
  | cons r rr =>
    cases rr
    cases r
    have fresh : ∀ b, b ∈ [s1.heap.objs.size + 1, s1.heap.objs.size] → s1.heap.objs.size ≤ b := fun b hb => by
      rcases (show b = s1.heap.objs.size + 1 ∨ b = s1.heap.objs.size by simpa using hb) with z | z <;> omega
    rcases ways with ⟨hq, q⟩ | ⟨hq, q⟩
    · obtain ⟨its, rv, pl, few⟩ := I1.list hq
      refine call_enumerate_list pl.isList fun h' he hit hsz hk => wpAny_pyIter_enum he ?_
      exact ⟨s1.heap.objs.size + 1, _, _, _, H1, rfl, I1.kept (t' := s1.toks) hk, turn_enum a (s1.heap.objs.size + 1) s1.heap.objs.size, ⟨⟨.none, he⟩, hit, Nat.succ_ne_self _⟩, fun b hb => I1.fpOk (fresh b hb) (I1.hok.fresh (fresh b hb)), q⟩
    · obtain ⟨its, rv, pt, few⟩ := I1.tuple hq
      refine call_enT pt fun h' he hit hk => wpAny_pyIter_enum he ?_
      exact ⟨s1.heap.objs.size + 1, _, _, _, H1, rfl, I1.kept (t' := s1.toks) hk, turn_enT a (s1.heap.objs.size + 1) s1.heap.objs.size, ⟨⟨.none, he⟩, hit, Nat.succ_ne_self _⟩, fun b hb => I1.fpOk (fresh b hb) (I1.hok.fresh (fresh b hb)), q⟩
section
variable {w : Wx} {K : PySem.W.Frag} {ta te : TE} {f g : DTE}
theorem enumA2 {X : Cx} {ta : TA} {p pos tpos : Pos} {elts : List Expr} {kk : Nat} {a : Expr} (e : X.K = K) (hg : Gl X "enumerate") (hm : X.mg "enumerate" = none) (ha : PA X [a] ta) (hs : starEach [a] X.env = [(false, eval a X.env)] := by rfl) : PI X (.Tuple elts kk tpos) (.Call (.Name "enumerate" p) [a] [] pos) (iEnA K ta) := e ▸ pi_enA hg hm ha hs
theorem walkS_enumT {L : Hp} {a : Addr} {xs : List V} {ds : List PyData} (h : Sol L a xs) (r : DVs L xs ds) : WalkS true L (IteT K a) (enD ds) := by
  have hl := r.len
  refine ⟨fun i L' H' s1 s2 hi => ?_, fun L' H' s1 s2 => ?_, fun i d L' H' x H2 s1 s2 hd y => ?_⟩
  · rw [enD_len] at hi
    exact ⟨xs, xs[i]'(by omega), ((h.to s1).to s2).seq, List.getElem?_eq_getElem (by omega)⟩
  · rw [enD_len]
    exact ⟨xs, ((h.to s1).to s2).seq, by omega⟩
  · obtain ⟨T, z, rfl, nT, rfl, y2⟩ := y
    have hx := y2 xs ((h.to s1).to s2).seq
    obtain ⟨d', hd', rfl⟩ := enD_get hd
    obtain ⟨v, h1, h2⟩ := r.get hd'
    rw [hx] at h1
    cases h1
    exact ⟨L', Ext.own nT, same_own s2 (s2.free nT), .inr ⟨T, _, _, rfl, rfl, upd_same, .cons (.int _) (.cons (h2.to s1) .nil)⟩⟩
def dEnA (f : DTA) (ε : Env) (Q : List PyData → Bool → Env → Prop) : Prop := f ε fun rs ε1 => match rs with
  | [.sh (.list ds)] => Q (enD ds) true ε1
  | [.sh (.tuple ds)] => Q (enD ds) true ε1
  | _ => False
theorem si_enA {n : Nat} {t : TA} {f : DTA} (hf : SA w n t f) : SI w true (iEnA K t) (dEnA f) := by
  constructor
  · intro ε A B h q
    refine hf.mono _ _ _ (fun r ε1 q => ?_) q
    split at q
    · exact h _ _ _ q
    · exact h _ _ _ q
    · exact q.elim
  · intro Z O σ ε L H R X q
    refine hf.run Z O σ ε L H _ X (hf.mono _ _ _ (fun r ε1 q => ?_) q)
    intro vs L1 H1 X1 e1 r1 hl np
    split at q
    · rename_i ds
      cases r1 with
      | cons r1 r2 =>
        cases r2
        cases (show DV L1 _ (.list ds) from r1) with
        | lst h1 h2 =>
          have W := walkS_enum (K := K) h1 h2
          exact ⟨_, _, rfl, .inl ⟨SqL.of (X1.lh _ _ h1), q _ L1 H1 X1 e1 W.e fun _ => W⟩⟩
    · rename_i ds
      cases r1 with
      | cons r1 r2 =>
        cases r2
        cases (show DV L1 _ (.tuple ds) from r1) with
        | tup h1 h2 =>
          have W := walkS_enumT (K := K) h1 h2
          exact ⟨_, _, rfl, .inr ⟨(h1.to X1.lh).seq, q _ L1 H1 X1 e1 W.e fun _ => W⟩⟩
    · exact q.elim
end
section
variable {K : PySem.W.Frag} {x : Str} {st : Stmt} {f : Addr} {fd : FuncData} {p1 p2 p3 p4 p5 : Str} (F : Fun K x x st f fd)
include F
theorem b4 (h : ∀ kV doc pm an cdv ct u1 u2 u3 u4, bindArgs (FnT x st kV doc pm an cdv ct) ⟨[u1, u2, u3, u4], []⟩ = pure [(p1, u1), (p2, u2), (p3, u3), (p4, u4)]) : Binds K fd [p1, p2, p3, p4] [] :=
  F.binds fun kV doc pm an cdv ct us hl => match us, hl with | [u1, u2, u3, u4], _ => h kV doc pm an cdv ct u1 u2 u3 u4
theorem b5 (h : ∀ kV doc pm an cdv ct u1 u2 u3 u4 u5, bindArgs (FnT x st kV doc pm an cdv ct) ⟨[u1, u2, u3, u4, u5], []⟩ = pure [(p1, u1), (p2, u2), (p3, u3), (p4, u4), (p5, u5)]) : Binds K fd [p1, p2, p3, p4, p5] [] :=
  F.binds fun kV doc pm an cdv ct us hl => match us, hl with | [u1, u2, u3, u4, u5], _ => h kV doc pm an cdv ct u1 u2 u3 u4 u5
theorem r4 (h : ∀ kV doc pm an cdv ct u1 u2 u3 u4, bindArgs (FnT x st kV doc pm an cdv ct) ⟨[], [(p4, u1), (p3, u2), (p2, u3), (p1, u4)]⟩ = pure [(p1, u4), (p2, u3), (p3, u2), (p4, u1)]) : KbR fd [p1, p2, p3, p4] :=
  Fun.kbr F fun kV doc pm an cdv ct us hl => match us, hl with | [u1, u2, u3, u4], _ => h kV doc pm an cdv ct u1 u2 u3 u4
end
def φIsNB (x y : PyData) (Q : R → Prop) : Prop := match x, y with
  | .bool a, .bool b => Q (.sh (.bool (!decide (a = b))))
  | _, _ => False
end Lp

namespace Lp
open PySem PySem.Spec PyProof.Rows L2
def gt (ns : List Int) (i : Int) : Int := ns.getD i.toNat 0
def call1 (ns : List Int) (w : Int) : List Int := ns.set w.toNat (gt ns (gt ns w))
theorem call1_len (ns : List Int) (w : Int) : (call1 ns w).length = ns.length := by unfold call1; rw [List.length_set]
theorem gt_get {ns : List Int} {i : Int} (h0 : 0 ≤ i) (h1 : i < (ns.length : Int)) : ns[i.toNat]? = some (gt ns i) := by
  unfold gt
  have hl : i.toNat < ns.length := by omega
  rw [List.getD_eq_getElem?_getD, List.getElem?_eq_getElem hl]; rfl
theorem gt_low {n : Nat} {ns : List Int} {i : Int} (h : Low n ns) (h0 : 0 ≤ i) (h1 : i < (ns.length : Int)) : 0 ≤ gt ns i ∧ gt ns i < (n : Int) := h.at (gt_get h0 h1)
theorem call1_low {n : Nat} {ns : List Int} {w : Int} (h : Low n ns) (hn : ns.length = n) (h0 : 0 ≤ w) (h1 : w < (n : Int)) : Low n (call1 ns w) := by
  have a := gt_low h h0 (by omega)
  have b := gt_low h a.1 (by omega)
  exact h.set b.1 b.2
theorem Low.take {n : Nat} {ws : List Int} (h : Low n ws) (i : Nat) : Low n (ws.take i) := fun z hz => h z (List.mem_of_mem_take hz)
def itr (ns : List Int) (p : Int) : Nat → Int
  | 0 => p
  | k + 1 => gt ns (itr ns p k)
theorem itr_succ (ns : List Int) (p : Int) : ∀ k, itr ns p (k + 1) = itr ns (gt ns p) k
  | 0 => rfl
  | k + 1 => by
    show gt ns (itr ns p (k + 1)) = gt ns (itr ns (gt ns p) k)
    rw [itr_succ ns p k]
theorem itr_low {ns : List Int} (lo : Low ns.length ns) {p : Int} (h0 : 0 ≤ p) (h1 : p < (ns.length : Int)) : ∀ k, 0 ≤ itr ns p k ∧ itr ns p k < (ns.length : Int)
  | 0 => ⟨h0, h1⟩
  | k + 1 => by
    have ih := itr_low lo h0 h1 k
    exact gt_low lo ih.1 ih.2
def itrs (ns : List Int) (p : Int) (m : Nat) : List Int := (List.range m).map (itr ns p)
theorem itrs_len (ns : List Int) (p : Int) (m : Nat) : (itrs ns p m).length = m := by unfold itrs; rw [List.length_map, List.length_range]
theorem itrs_succ (ns : List Int) (p : Int) (m : Nat) : itrs ns p (m + 1) = itrs ns p m ++ [itr ns p m] := by
  unfold itrs; rw [List.range_succ, List.map_append]; rfl
theorem itrs_get {ns : List Int} {p : Int} {m i : Nat} (h : i < m) : (itrs ns p m)[i]? = some (itr ns p i) := by
  unfold itrs
  rw [List.getElem?_map, List.getElem?_range h]; rfl
theorem itrs_mem {ns : List Int} {p z : Int} {m : Nat} : z ∈ itrs ns p m ↔ ∃ i, i < m ∧ itr ns p i = z := by
  unfold itrs
  rw [List.mem_map]
  constructor
  · rintro ⟨i, hi, e⟩; exact ⟨i, List.mem_range.mp hi, e⟩
  · rintro ⟨i, hi, e⟩; exact ⟨i, List.mem_range.mpr hi, e⟩
/-- rs: the people met from p on, each once -/
def Route (ns : List Int) (p : Int) (rs : List Int) : Prop := ∃ L, rs = itrs ns p L ∧ rs.Nodup ∧ itr ns p L ∈ rs
theorem itrs_apart {ns : List Int} {p : Int} {m i j : Nat} (nd : (itrs ns p m).Nodup) (hi : i < m) (hj : j < m) (e : itr ns p i = itr ns p j) : i = j := by
  have h1 := itrs_get (ns := ns) (p := p) hi
  have h2 := itrs_get (ns := ns) (p := p) hj
  rw [e] at h1
  exact nd_ix nd h1 h2
theorem Route.eq {ns : List Int} {p : Int} {rs rs' : List Int} (a : Route ns p rs) (b : Route ns p rs') : rs = rs' := by
  obtain ⟨L, rfl, n1, m1⟩ := a
  obtain ⟨M, rfl, n2, m2⟩ := b
  obtain ⟨i, hi, ei⟩ := itrs_mem.mp m1
  obtain ⟨j, hj, ej⟩ := itrs_mem.mp m2
  rcases Nat.lt_trichotomy L M with h | h | h
  · exact absurd (itrs_apart n2 (show i < M by omega) h ei) (by omega)
  · rw [h]
  · exact absurd (itrs_apart n1 (show j < L by omega) h ej) (by omega)
theorem Nodup.snoc {l : List Int} {z : Int} (h : l.Nodup) (n : z ∉ l) : (l ++ [z]).Nodup := by
  rw [List.nodup_append]
  refine ⟨h, List.nodup_cons.mpr ⟨List.not_mem_nil, List.nodup_nil⟩, fun a ha b hb => ?_⟩
  rw [List.mem_singleton] at hb
  subst hb
  exact fun e => n (e ▸ ha)
theorem low_len : ∀ (n : Nat) (l : List Int), l.Nodup → Low n l → l.length ≤ n
  | 0, l, _, h => by
    cases l with
    | nil => exact Nat.le_refl 0
    | cons x r => have := h x List.mem_cons_self; omega
  | n + 1, l, nd, h => by
    have h2 := low_len n (l.filter (fun z => decide (z ≠ (n : Int)))) (nd.filter _) fun z hz => by
      have q := List.mem_filter.mp hz
      have := h z q.1
      have := of_decide_eq_true q.2
      omega
    have h3 : l.length ≤ (l.filter (fun z => decide (z ≠ (n : Int)))).length + 1 := by
      clear h h2
      induction l with
      | nil => simp
      | cons x r ih =>
        have nd' := List.nodup_cons.mp nd
        by_cases hx : x = (n : Int)
        · have e : r.filter (fun z => decide (z ≠ (n : Int))) = r := List.filter_eq_self.mpr fun z hz => decide_eq_true fun e => nd'.1 (by rw [hx, ← e]; exact hz)
          rw [List.filter_cons_of_neg (by simp [hx]), e]; exact Nat.le_refl _
        · rw [List.filter_cons_of_pos (by simp [hx]), List.length_cons, List.length_cons]
          have := ih nd'.2
          omega
    omega
/-- behind the first return the pointers go round -/
theorem itr_round {ns : List Int} {p : Int} {b d : Nat} (h : itr ns p (b + d) = itr ns p b) : ∀ t, itr ns p (b + d + t) = itr ns p (b + t)
  | 0 => h
  | t + 1 => by
    show gt ns (itr ns p (b + d + t)) = gt ns (itr ns p (b + t))
    rw [itr_round h t]
theorem itr_mod {ns : List Int} {p : Int} {b d : Nat} (hd : 0 < d) (h : itr ns p (b + d) = itr ns p b) (t : Nat) : itr ns p (b + t) = itr ns p (b + t % d) := by
  induction t using Nat.strongRecOn with
  | ind t ih =>
    by_cases ht : t < d
    · rw [Nat.mod_eq_of_lt ht]
    · have e : t = d + (t - d) := by omega
      have := ih (t - d) (by omega)
      rw [e, ← Nat.add_assoc, itr_round h, this, Nat.add_mod_left]
def routeG (ns : List Int) : Nat → List Int → Int → List Int
  | 0, acc, _ => acc
  | k + 1, acc, at_ => if at_ ∈ acc then acc else routeG ns k (acc ++ [at_]) (gt ns at_)
def routeF (ns : List Int) (p : Int) : List Int := routeG ns (ns.length + 1) [] p
theorem routeG_ok {ns : List Int} (lo : Low ns.length ns) {p : Int} (p0 : 0 ≤ p) (p1 : p < (ns.length : Int)) : ∀ (k L : Nat), (itrs ns p L).Nodup → ns.length < k + L → Route ns p (routeG ns k (itrs ns p L) (itr ns p L))
  | 0, L, nd, h => by
    have := low_len ns.length _ nd fun z hz => by
      obtain ⟨i, _, ei⟩ := itrs_mem.mp hz
      have := itr_low lo p0 p1 i
      omega
    rw [itrs_len] at this
    omega
  | k + 1, L, nd, h => by
    unfold routeG
    by_cases hm : itr ns p L ∈ itrs ns p L
    · rw [if_pos hm]
      exact ⟨L, rfl, nd, hm⟩
    · rw [if_neg hm, ← itrs_succ]
      exact routeG_ok lo p0 p1 k (L + 1) (by rw [itrs_succ]; exact Nodup.snoc nd hm) (by omega)
theorem routeF_ok {ns : List Int} (lo : Low ns.length ns) {p : Int} (p0 : 0 ≤ p) (p1 : p < (ns.length : Int)) : Route ns p (routeF ns p) := routeG_ok lo p0 p1 (ns.length + 1) 0 List.nodup_nil (by omega)
def beginF (ns rs : List Int) : Nat := rs.idxOf (gt ns (rs.getLastD 0))
def minF : List Int → Int
  | [] => 0
  | x :: r => r.foldl (fun a b => if b < a then b else a) x
theorem fold_min : ∀ (r : List Int) (x : Int), (r.foldl (fun a b => if b < a then b else a) x = x ∨ r.foldl (fun a b => if b < a then b else a) x ∈ r) ∧ r.foldl (fun a b => if b < a then b else a) x ≤ x ∧ ∀ y ∈ r, r.foldl (fun a b => if b < a then b else a) x ≤ y
  | [], x => ⟨.inl rfl, Int.le_refl x, fun y h => nomatch h⟩
  | z :: r, x => by
    have ih := fold_min r (if z < x then z else x)
    show (r.foldl _ (if z < x then z else x) = x ∨ _) ∧ _
    refine ⟨?_, ?_, ?_⟩
    · rcases ih.1 with h | h
      · by_cases q : z < x
        · right
          show r.foldl _ (if z < x then z else x) ∈ z :: r
          rw [h, if_pos q]; exact List.mem_cons_self
        · left
          show r.foldl _ (if z < x then z else x) = x
          rw [h, if_neg q]
      · right; exact List.mem_cons_of_mem _ h
    · show r.foldl _ (if z < x then z else x) ≤ x
      have := ih.2.1
      split at this <;> rename_i q
      · rw [if_pos q]; omega
      · rw [if_neg q]; exact this
    · intro y hy
      show r.foldl _ (if z < x then z else x) ≤ y
      rcases List.mem_cons.mp hy with h | h
      · have := ih.2.1
        split at this <;> rename_i q
        · rw [if_pos q, h]; exact this
        · rw [if_neg q, h]; omega
      · exact ih.2.2 y h
theorem minF_ok {ms : List Int} (h : ms ≠ []) : minF ms ∈ ms ∧ ∀ y ∈ ms, minF ms ≤ y := by
  cases ms with
  | nil => exact absurd rfl h
  | cons x r =>
    have := fold_min r x
    refine ⟨?_, fun y hy => ?_⟩
    · rcases this.1 with e | e
      · show r.foldl _ x ∈ x :: r
        rw [e]; exact List.mem_cons_self
      · exact List.mem_cons_of_mem _ e
    · rcases List.mem_cons.mp hy with e | e
      · rw [e]; exact this.2.1
      · exact this.2.2 y e
/-- the list, turned so that its least member is the first -/
def turnF (ms : List Int) : List Int := ms.drop (ms.idxOf (minF ms)) ++ ms.take (ms.idxOf (minF ms))
def ringF (ns : List Int) (p : Int) : List Int := turnF ((routeF ns p).drop (beginF ns (routeF ns p)))
def heightF (ns : List Int) (p : Int) : Nat := beginF ns (routeF ns p)
theorem turnF_ne {ms : List Int} (h : ms ≠ []) : turnF ms ≠ [] := by
  intro e
  have := congrArg List.length e
  unfold turnF at this
  rw [List.length_append, List.length_drop, List.length_take, List.length_nil] at this
  have : ms.length = 0 := by omega
  exact h (List.eq_nil_of_length_eq_zero this)
/-- how a whole route begins its ring -/
theorem begin_at {ns : List Int} {p : Int} {L : Nat} (nd : (itrs ns p L).Nodup) (hin : itr ns p L ∈ itrs ns p L) {b : Nat} (hb : b < L) (eb : itr ns p b = itr ns p L) : beginF ns (itrs ns p L) = b := by
  obtain ⟨M, rfl⟩ : ∃ M, L = M + 1 := ⟨L - 1, by omega⟩
  unfold beginF
  have e : (itrs ns p (M + 1)).getLastD 0 = itr ns p M := by rw [itrs_succ]; simp
  rw [e]
  have hin' : gt ns (itr ns p M) ∈ itrs ns p (M + 1) := hin
  have h1 := idx_get hin'
  have hl := List.idxOf_lt_length_of_mem hin'
  rw [itrs_len] at hl
  rw [itrs_get hl] at h1
  exact itrs_apart nd hl hb ((Option.some.inj h1).trans eb.symm)
theorem lex_uniq : ∀ (a b : List (List Int)), a.Nodup → b.Nodup → a.Pairwise (fun x y => HT.lexLt y x = false) → b.Pairwise (fun x y => HT.lexLt y x = false) → (∀ k, k ∈ a ↔ k ∈ b) → a = b
  | [], [], _, _, _, _, _ => rfl
  | [], y :: _, _, _, _, _, h => nomatch (h y).mpr List.mem_cons_self
  | x :: _, [], _, _, _, _, h => nomatch (h x).mp List.mem_cons_self
  | x :: a, y :: b, na, nb, pa, pb, h => by
    have qa := List.pairwise_cons.mp pa
    have qb := List.pairwise_cons.mp pb
    have ra := List.nodup_cons.mp na
    have rb := List.nodup_cons.mp nb
    have e : x = y := by
      rcases List.mem_cons.mp ((h x).mp List.mem_cons_self) with e | e
      · exact e
      · rcases List.mem_cons.mp ((h y).mpr List.mem_cons_self) with e2 | e2
        · exact e2.symm
        · exact lex_eq x y (qb.1 x e) (qa.1 y e2)
    subst e
    have h2 : ∀ k, k ∈ a ↔ k ∈ b := fun k => by
      constructor
      · intro hk
        rcases List.mem_cons.mp ((h k).mp (List.mem_cons_of_mem _ hk)) with z | z
        · exact absurd (z ▸ hk) ra.1
        · exact z
      · intro hk
        rcases List.mem_cons.mp ((h k).mpr (List.mem_cons_of_mem _ hk)) with z | z
        · exact absurd (z ▸ hk) rb.1
        · exact z
    rw [lex_uniq a b ra.2 rb.2 qa.2 qb.2 h2]
/-- RS: all rings, ascending -/
def RingsOf (ns : List Int) (RS : List (List Int)) : Prop := RS.Nodup ∧ RS.Pairwise (fun x y => HT.lexLt y x = false) ∧ ∀ k, k ∈ RS ↔ ∃ j : Nat, j < ns.length ∧ ringF ns (j : Int) = k
theorem RingsOf.eq {ns : List Int} {a b : List (List Int)} (x : RingsOf ns a) (y : RingsOf ns b) : a = b := lex_uniq a b x.1 y.1 x.2.1 y.2.1 fun k => (x.2.2 k).trans (y.2.2 k).symm

theorem itr_add (ns : List Int) (p : Int) (a : Nat) : ∀ b, itr ns p (a + b) = itr ns (itr ns p a) b
  | 0 => rfl
  | b + 1 => congrArg (gt ns) (itr_add ns p a b)
theorem itrs_cat (ns : List Int) (p : Int) (a : Nat) : ∀ b, itrs ns p (a + b) = itrs ns p a ++ itrs ns (itr ns p a) b
  | 0 => (List.append_nil _).symm
  | b + 1 => by
    rw [← Nat.add_assoc, itrs_succ, itrs_cat ns p a b, itrs_succ, itr_add, List.append_assoc]
def Cyc (ns : List Int) (q : Int) (c : Nat) : Prop := 0 < c ∧ itr ns q c = q ∧ (itrs ns q c).Nodup
theorem Cyc.cut {ns : List Int} {q : Int} {c j : Nat} (h : j ≤ c) : (itrs ns q c).drop j = itrs ns (itr ns q j) (c - j) ∧ (itrs ns q c).take j = itrs ns q j := by
  obtain ⟨d, rfl⟩ : ∃ d, c = j + d := ⟨c - j, by omega⟩
  rw [itrs_cat, Nat.add_sub_cancel_left]
  have l := itrs_len ns q j
  constructor
  · conv => lhs; arg 1; rw [← l]
    rw [List.drop_left]
  · conv => lhs; arg 1; rw [← l]
    rw [List.take_left]
theorem Cyc.turn {ns : List Int} {q : Int} {c j : Nat} (x : Cyc ns q c) (h : j ≤ c) : itrs ns (itr ns q j) c = (itrs ns q c).drop j ++ (itrs ns q c).take j := by
  rw [(Cyc.cut h).1, (Cyc.cut h).2]
  have e : itrs ns (itr ns q j) c = itrs ns (itr ns q j) ((c - j) + j) := by congr 1; omega
  rw [e, itrs_cat, ← itr_add]
  have e2 : j + (c - j) = c := by omega
  rw [e2, x.2.1]
theorem Cyc.all {ns : List Int} {q : Int} {c : Nat} (x : Cyc ns q c) (t : Nat) : itr ns q t ∈ itrs ns q c := by
  have := itr_mod (ns := ns) (p := q) (b := 0) (d := c) x.1 (by rw [Nat.zero_add]; exact x.2.1) t
  rw [Nat.zero_add, Nat.zero_add] at this
  rw [this]
  exact itrs_mem.mpr ⟨t % c, Nat.mod_lt _ x.1, rfl⟩
theorem Cyc.at {ns : List Int} {q z : Int} {c : Nat} (x : Cyc ns q c) (h : z ∈ itrs ns q c) : Cyc ns z c ∧ ∀ y, y ∈ itrs ns z c ↔ y ∈ itrs ns q c := by
  obtain ⟨j, hj, rfl⟩ := itrs_mem.mp h
  have t := x.turn (j := j) (by omega)
  have pm : (itrs ns (itr ns q j) c).Perm (itrs ns q c) := by
    rw [t]
    have := List.perm_append_comm (l₁ := (itrs ns q c).drop j) (l₂ := (itrs ns q c).take j)
    rw [List.take_append_drop] at this
    exact this
  refine ⟨⟨x.1, ?_, pm.nodup_iff.mpr x.2.2⟩, fun y => pm.mem_iff⟩
  rw [← itr_add, Nat.add_comm, itr_add, x.2.1]
theorem Cyc.uniq {ns : List Int} {z : Int} {c d : Nat} (x : Cyc ns z c) (y : Cyc ns z d) : c = d := by
  rcases Nat.lt_trichotomy c d with h | h | h
  · have := itrs_apart y.2.2 (i := 0) (j := c) y.1 h x.2.1.symm
    have := x.1; omega
  · exact h
  · have := itrs_apart x.2.2 (i := 0) (j := d) x.1 h y.2.1.symm
    have := y.1; omega
theorem itrs_ne {ns : List Int} {q : Int} {c : Nat} (h : 0 < c) : itrs ns q c ≠ [] := fun e => by
  have := itrs_len ns q c
  rw [e] at this
  simp at this; omega
theorem Cyc.turnF {ns : List Int} {q : Int} {c : Nat} (x : Cyc ns q c) : turnF (itrs ns q c) = itrs ns (minF (itrs ns q c)) c := by
  have m := minF_ok (itrs_ne (ns := ns) (q := q) x.1)
  have il := List.idxOf_lt_length_of_mem m.1
  have g := idx_get m.1
  unfold Lp.turnF
  generalize hj : (itrs ns q c).idxOf (minF (itrs ns q c)) = j at il g
  rw [itrs_len] at il
  rw [itrs_get il] at g
  rw [← Option.some.inj g, x.turn (by omega)]
theorem Cyc.same {ns : List Int} {q r z : Int} {c d : Nat} (x : Cyc ns q c) (y : Cyc ns r d) (h1 : z ∈ itrs ns q c) (h2 : z ∈ itrs ns r d) : Lp.turnF (itrs ns q c) = Lp.turnF (itrs ns r d) := by
  have a := x.at h1
  have b := y.at h2
  have e := a.1.uniq b.1
  subst e
  rw [x.turnF, y.turnF]
  have m1 := minF_ok (itrs_ne (ns := ns) (q := q) x.1)
  have m2 := minF_ok (itrs_ne (ns := ns) (q := r) x.1)
  have := m1.2 _ ((a.2 _).mp ((b.2 _).mpr m2.1))
  have := m2.2 _ ((b.2 _).mp ((a.2 _).mpr m1.1))
  have e : minF (itrs ns q c) = minF (itrs ns r c) := by omega
  rw [e]
theorem ringF_cyc {ns : List Int} (lo : Low ns.length ns) {p : Int} (p0 : 0 ≤ p) (p1 : p < (ns.length : Int)) : ∃ c, Cyc ns (itr ns p (heightF ns p)) c ∧ ringF ns p = turnF (itrs ns (itr ns p (heightF ns p)) c) ∧ routeF ns p = itrs ns p (heightF ns p + c) := by
  have rt := routeF_ok lo p0 p1
  obtain ⟨L, hrs, nd, hin⟩ := id rt
  rw [hrs] at nd hin
  obtain ⟨b, hb, eb⟩ := itrs_mem.mp hin
  have e := begin_at nd hin hb eb
  have eh : heightF ns p = b := by unfold heightF; rw [hrs]; exact e
  have ct := Cyc.cut (ns := ns) (q := p) (c := L) (j := b) (by omega)
  rw [eh]
  refine ⟨L - b, ⟨by omega, ?_, ?_⟩, ?_, ?_⟩
  · rw [← itr_add]
    have : b + (L - b) = L := by omega
    rw [this, eb]
  · rw [← ct.1]
    exact nd.sublist (List.drop_sublist b _)
  · unfold ringF
    rw [hrs, e, ct.1]
  · rw [hrs]; congr 1; omega
theorem ringF_step {ns : List Int} (lo : Low ns.length ns) {p : Int} (p0 : 0 ≤ p) (p1 : p < (ns.length : Int)) : ringF ns (gt ns p) = ringF ns p := by
  have g := gt_low lo p0 (by omega)
  obtain ⟨c, x, e, _⟩ := ringF_cyc lo p0 p1
  obtain ⟨d, y, e2, _⟩ := ringF_cyc lo g.1 g.2
  rw [e, e2]
  refine y.same x (z := itr ns p (heightF ns p + (heightF ns (gt ns p) + 1))) ?_ ?_
  · have : heightF ns p + (heightF ns (gt ns p) + 1) = (heightF ns (gt ns p) + heightF ns p) + 1 := by omega
    rw [this, itr_succ, itr_add]
    exact y.all _
  · rw [itr_add]
    exact x.all _
theorem ringF_itr {ns : List Int} (lo : Low ns.length ns) {p : Int} (p0 : 0 ≤ p) (p1 : p < (ns.length : Int)) : ∀ k, ringF ns (itr ns p k) = ringF ns p
  | 0 => rfl
  | k + 1 => by
    have l := itr_low lo p0 p1 k
    show ringF ns (gt ns (itr ns p k)) = _
    rw [ringF_step lo l.1 l.2, ringF_itr lo p0 p1 k]
/-- a ring: its least member first, each member pointing at the next one -/
theorem ringF_form {ns : List Int} (lo : Low ns.length ns) {p : Int} (p0 : 0 ≤ p) (p1 : p < (ns.length : Int)) : ∃ m c, ringF ns p = itrs ns m c ∧ Cyc ns m c ∧ (∀ y ∈ ringF ns p, m ≤ y) ∧ 0 ≤ m ∧ m < (ns.length : Int) := by
  obtain ⟨c, x, e, _⟩ := ringF_cyc lo p0 p1
  have m := minF_ok (itrs_ne (ns := ns) (q := itr ns p (heightF ns p)) x.1)
  have a := x.at m.1
  have l := itr_low lo p0 p1 (heightF ns p)
  refine ⟨_, c, e.trans x.turnF, a.1, fun y hy => ?_, ?_⟩
  · rw [e, x.turnF] at hy
    exact m.2 y ((a.2 y).mp hy)
  · obtain ⟨i, _, ei⟩ := itrs_mem.mp m.1
    rw [← ei]
    exact itr_low lo l.1 l.2 i

def headF (ns : List Int) (p : Int) : Int := (ringF ns p).headD 0
theorem headF_form {ns : List Int} (lo : Low ns.length ns) {p : Int} (p0 : 0 ≤ p) (p1 : p < (ns.length : Int)) : ∃ c, ringF ns p = itrs ns (headF ns p) c ∧ Cyc ns (headF ns p) c ∧ 0 ≤ headF ns p ∧ headF ns p < (ns.length : Int) := by
  obtain ⟨m, c, e, cy, _, m0, m1⟩ := ringF_form lo p0 p1
  have em : headF ns p = m := by
    unfold headF
    obtain ⟨d, rfl⟩ : ∃ d, c = 1 + d := ⟨c - 1, by have := cy.1; omega⟩
    rw [e, itrs_cat]; rfl
  rw [em]
  exact ⟨c, e, cy, m0, m1⟩
theorem head_iff {ns : List Int} (lo : Low ns.length ns) {p q : Int} (p0 : 0 ≤ p) (p1 : p < (ns.length : Int)) (q0 : 0 ≤ q) (q1 : q < (ns.length : Int)) : headF ns p = headF ns q ↔ ringF ns p = ringF ns q := by
  constructor
  · intro e
    obtain ⟨c, e1, cy, _⟩ := headF_form lo p0 p1
    obtain ⟨d, e2, dy, _⟩ := headF_form lo q0 q1
    rw [e] at e1 cy
    rw [e1, e2, cy.uniq dy]
  · intro e
    unfold headF
    rw [e]
/-- the people below i whose ring begins with m -/
def compH (ns : List Int) (m : Int) (i : Nat) : List Int := ((List.range i).filter fun j : Nat => decide (headF ns (j : Int) = m)).map Int.ofNat
theorem compH_mem {ns : List Int} {m z : Int} {i : Nat} : z ∈ compH ns m i ↔ ∃ j : Nat, j < i ∧ headF ns (j : Int) = m ∧ z = (j : Int) := by
  unfold compH
  rw [List.mem_map]
  constructor
  · rintro ⟨j, hj, e⟩
    have q := List.mem_filter.mp hj
    exact ⟨j, List.mem_range.mp q.1, of_decide_eq_true q.2, e.symm⟩
  · rintro ⟨j, hj, e, rfl⟩
    exact ⟨j, List.mem_filter.mpr ⟨List.mem_range.mpr hj, decide_eq_true e⟩, rfl⟩
def compF (ns : List Int) (p : Int) : List Int := compH ns (headF ns p) ns.length
def CompsOf (ns : List Int) (CS : List (List Int)) : Prop := CS.Nodup ∧ CS.Pairwise (fun x y => HT.lexLt y x = false) ∧ ∀ k, k ∈ CS ↔ ∃ j : Nat, j < ns.length ∧ compF ns (j : Int) = k
theorem CompsOf.eq {ns : List Int} {a b : List (List Int)} (x : CompsOf ns a) (y : CompsOf ns b) : a = b := lex_uniq a b x.1 y.1 x.2.1 y.2.1 fun k => (x.2.2 k).trans (y.2.2 k).symm
theorem nd_subG {α : Type} [DecidableEq α] : ∀ (a b : List α), a.Nodup → (∀ x ∈ a, x ∈ b) → a.length ≤ b.length
  | [], b, _, _ => Nat.zero_le _
  | x :: a, b, nd, h => by
    have q := List.nodup_cons.mp nd
    have xb := h x List.mem_cons_self
    have := nd_subG a (b.erase x) q.2 fun y hy => (List.mem_erase_of_ne (fun e : y = x => q.1 (by rw [← e]; exact hy))).mpr (h y (List.mem_cons_of_mem _ hy))
    rw [List.length_erase_of_mem xb] at this
    have := List.length_pos_of_mem xb
    rw [List.length_cons]; omega
theorem CompsOf.len {ns : List Int} {CS : List (List Int)} (h : CompsOf ns CS) : CS.length ≤ ns.length := by
  have := nd_subG CS ((List.range ns.length).map fun j : Nat => compF ns (j : Int)) h.1 fun x hx => by
    obtain ⟨j, hj, e⟩ := (h.2.2 x).mp hx
    exact List.mem_map.mpr ⟨j, List.mem_range.mpr hj, e⟩
  rw [List.length_map, List.length_range] at this
  exact this
/-- together they hold everybody once -/
theorem CompsOf.sum {ns : List Int} {CS : List (List Int)} (h : CompsOf ns CS) : (CS.map List.length).sum = ns.length := by
  rw [← List.length_flatten]
  have nd : CS.flatten.Nodup := by
    refine List.pairwise_flatten.mpr ⟨fun l hl => ?_, List.Pairwise.imp_of_mem (fun {a b} ha hb ne x hx y hy e => ?_) h.1⟩
    · obtain ⟨j, _, e⟩ := (h.2.2 l).mp hl
      rw [← e]
      refine List.pairwise_map.mpr (List.Pairwise.imp (fun {a b} ne e => ne (Int.ofNat.inj e)) (List.Pairwise.filter _ List.nodup_range))
    · subst e
      obtain ⟨i, _, ei⟩ := (h.2.2 a).mp ha
      obtain ⟨j, _, ej⟩ := (h.2.2 b).mp hb
      rw [← ei] at hx
      rw [← ej] at hy
      obtain ⟨u, _, h1, e1⟩ := compH_mem.mp hx
      obtain ⟨v, _, h2, e2⟩ := compH_mem.mp hy
      have : u = v := by omega
      subst this
      refine ne ?_
      rw [← ei, ← ej]
      unfold compF
      rw [← h1, h2]
  refine Nat.le_antisymm (low_len _ _ nd fun z hz => ?_) ?_
  · obtain ⟨l, hl, hz⟩ := List.mem_flatten.mp hz
    obtain ⟨j, _, e⟩ := (h.2.2 l).mp hl
    rw [← e] at hz
    obtain ⟨u, hu, _, eu⟩ := compH_mem.mp hz
    omega
  · have := nd_subG ((List.range ns.length).map Int.ofNat) CS.flatten (List.pairwise_map.mpr (List.Pairwise.imp (fun {a b} ne e => ne (Int.ofNat.inj e)) List.nodup_range)) fun x hx => by
      obtain ⟨j, hj, e⟩ := List.mem_map.mp hx
      have hj' := List.mem_range.mp hj
      refine List.mem_flatten.mpr ⟨compF ns (j : Int), (h.2.2 _).mpr ⟨j, hj', rfl⟩, ?_⟩
      exact compH_mem.mpr ⟨j, hj', rfl, e.symm⟩
    rw [List.length_map, List.length_range] at this
    exact this
theorem gt_callN {ns : List Int} {w p : Int} (w0 : 0 ≤ w) (w1 : w < (ns.length : Int)) (p0 : 0 ≤ p) : gt (call1 ns w) p = if p = w then gt ns (gt ns w) else gt ns p := by
  show (ns.set w.toNat (gt ns (gt ns w))).getD p.toNat 0 = if p = w then _ else ns.getD p.toNat 0
  rw [List.getD_eq_getElem?_getD, List.getD_eq_getElem?_getD, List.getElem?_set]
  by_cases h : p = w
  · subst h
    rw [if_pos rfl, if_pos rfl, if_pos (by omega)]; rfl
  · rw [if_neg h, if_neg (by omega)]
section
variable {ns : List Int} (lo : Low ns.length ns) {w : Int} (w0 : 0 ≤ w) (w1 : w < (ns.length : Int))
include lo w0 w1
theorem low_call : Low (call1 ns w).length (call1 ns w) := by
  rw [call1_len]; exact call1_low lo rfl w0 w1
/-- a step behind the call is one or two steps ahead of it -/
theorem itr_call {p : Int} (p0 : 0 ≤ p) (p1 : p < (ns.length : Int)) : ∀ k, ∃ k', k ≤ k' ∧ itr (call1 ns w) p k = itr ns p k'
  | 0 => ⟨0, Nat.le_refl _, rfl⟩
  | k + 1 => by
    obtain ⟨k', hk, e⟩ := itr_call p0 p1 k
    have l := itr_low lo p0 p1 k'
    have g := gt_callN w0 w1 l.1 (ns := ns)
    have e2 : itr (call1 ns w) p (k + 1) = gt (call1 ns w) (itr ns p k') := congrArg (gt (call1 ns w)) e
    by_cases z : itr ns p k' = w
    · refine ⟨k' + 2, by omega, ?_⟩
      rw [e2, g, if_pos z, ← z]; rfl
    · refine ⟨k' + 1, by omega, ?_⟩
      rw [e2, g, if_neg z]; rfl
theorem ring_stepC {p : Int} (p0 : 0 ≤ p) (p1 : p < (ns.length : Int)) : ringF (call1 ns w) (gt ns p) = ringF (call1 ns w) p := by
  have lc := low_call lo w0 w1
  have len : (call1 ns w).length = ns.length := call1_len _ _
  have g := gt_low lo p0 p1
  by_cases z : p = w
  · subst z
    by_cases y : gt ns p = p
    · rw [y]
    · have s1 := ringF_step lc (p := p) p0 (by rw [len]; exact p1)
      have s2 := ringF_step lc (p := gt ns p) g.1 (by rw [len]; exact g.2)
      rw [gt_callN w0 w1 p0, if_pos rfl] at s1
      rw [gt_callN w0 w1 g.1, if_neg y] at s2
      rw [← s2, s1]
  · have s1 := ringF_step lc (p := p) p0 (by rw [len]; exact p1)
    rw [gt_callN w0 w1 p0, if_neg z] at s1
    exact s1
theorem ring_itrC {p : Int} (p0 : 0 ≤ p) (p1 : p < (ns.length : Int)) : ∀ k, ringF (call1 ns w) (itr ns p k) = ringF (call1 ns w) p
  | 0 => rfl
  | k + 1 => by
    have l := itr_low lo p0 p1 k
    show ringF (call1 ns w) (gt ns (itr ns p k)) = _
    rw [ring_stepC lo w0 w1 l.1 l.2, ring_itrC p0 p1 k]
end
theorem ring_itr {ns : List Int} (lo : Low ns.length ns) {p m : Int} (p0 : 0 ≤ p) (p1 : p < (ns.length : Int)) (h : m ∈ ringF ns p) : ∃ s, itr ns p s = m := by
  obtain ⟨c, x, e, _⟩ := ringF_cyc lo p0 p1
  rw [e, x.turnF] at h
  have mm := minF_ok (itrs_ne (ns := ns) (q := itr ns p (heightF ns p)) x.1)
  obtain ⟨i, _, ei⟩ := itrs_mem.mp (((x.at mm.1).2 m).mp h)
  exact ⟨heightF ns p + i, by rw [itr_add]; exact ei⟩
theorem meet_iff {ns : List Int} (lo : Low ns.length ns) {p r : Int} (p0 : 0 ≤ p) (p1 : p < (ns.length : Int)) (r0 : 0 ≤ r) (r1 : r < (ns.length : Int)) : ringF ns p = ringF ns r ↔ ∃ s t, itr ns p s = itr ns r t := by
  constructor
  · intro e
    obtain ⟨m, c, e1, cy, _⟩ := ringF_form lo p0 p1
    have hm : m ∈ ringF ns p := by rw [e1]; exact itrs_mem.mpr ⟨0, cy.1, rfl⟩
    obtain ⟨s, es⟩ := ring_itr lo p0 p1 hm
    obtain ⟨t, et⟩ := ring_itr lo r0 r1 (e ▸ hm)
    exact ⟨s, t, es.trans et.symm⟩
  · rintro ⟨s, t, e⟩
    rw [← ringF_itr lo p0 p1 s, ← ringF_itr lo r0 r1 t, e]
theorem ring_call {ns : List Int} (lo : Low ns.length ns) {w p r : Int} (w0 : 0 ≤ w) (w1 : w < (ns.length : Int)) (p0 : 0 ≤ p) (p1 : p < (ns.length : Int)) (r0 : 0 ≤ r) (r1 : r < (ns.length : Int)) : ringF ns p = ringF ns r ↔ ringF (call1 ns w) p = ringF (call1 ns w) r := by
  have lc := low_call lo w0 w1
  have len : (call1 ns w).length = ns.length := call1_len _ _
  constructor
  · intro e
    obtain ⟨s, t, e⟩ := (meet_iff lo p0 p1 r0 r1).mp e
    rw [← ring_itrC lo w0 w1 p0 p1 s, ← ring_itrC lo w0 w1 r0 r1 t, e]
  · intro e
    obtain ⟨s, t, e⟩ := (meet_iff lc p0 (by rw [len]; exact p1) r0 (by rw [len]; exact r1)).mp e
    obtain ⟨s', _, es⟩ := itr_call lo w0 w1 p0 p1 s
    obtain ⟨t', _, et⟩ := itr_call lo w0 w1 r0 r1 t
    exact (meet_iff lo p0 p1 r0 r1).mpr ⟨s', t', by rw [← es, ← et]; exact e⟩
theorem comp_call {ns : List Int} (lo : Low ns.length ns) {w : Int} (w0 : 0 ≤ w) (w1 : w < (ns.length : Int)) {p : Nat} (hp : p < ns.length) : compF (call1 ns w) (p : Int) = compF ns (p : Int) := by
  have lc := low_call lo w0 w1
  have len : (call1 ns w).length = ns.length := call1_len _ _
  unfold compF compH
  rw [len]
  congr 1
  refine List.filter_congr fun j hj => ?_
  have hj' := List.mem_range.mp hj
  have a := head_iff lo (p := (j : Int)) (q := (p : Int)) (by omega) (by omega) (by omega) (by omega)
  have b := head_iff lc (p := (j : Int)) (q := (p : Int)) (by omega) (by omega) (by omega) (by omega)
  have c := ring_call lo w0 w1 (p := (j : Int)) (r := (p : Int)) (by omega) (by omega) (by omega) (by omega)
  by_cases z : headF ns (j : Int) = headF ns (p : Int)
  · rw [decide_eq_true z, decide_eq_true (b.mpr (c.mp (a.mp z)))]
  · rw [decide_eq_false z, decide_eq_false (fun y => z (a.mpr (c.mpr (b.mp y))))]
theorem CompsOf.call {ns : List Int} (lo : Low ns.length ns) {w : Int} (w0 : 0 ≤ w) (w1 : w < (ns.length : Int)) {CS : List (List Int)} (h : CompsOf ns CS) : CompsOf (call1 ns w) CS := by
  refine ⟨h.1, h.2.1, fun k => (h.2.2 k).trans ?_⟩
  rw [call1_len]
  constructor
  · rintro ⟨j, hj, e⟩; exact ⟨j, hj, (comp_call lo w0 w1 hj).trans e⟩
  · rintro ⟨j, hj, e⟩; exact ⟨j, hj, (comp_call lo w0 w1 hj).symm.trans e⟩
theorem ring_at {ns : List Int} (lo : Low ns.length ns) {m : Int} (m0 : 0 ≤ m) (m1 : m < (ns.length : Int)) {c : Nat} (cy : Cyc ns m c) : ringF ns m = turnF (itrs ns m c) := by
  obtain ⟨d, x, e, _⟩ := ringF_cyc lo m0 m1
  rw [e]
  exact x.same cy (z := itr ns m (heightF ns m)) (x.all 0) (cy.all _)
end Lp

namespace Lp
open PySem PySem.Spec PyProof.Rows L2
def gv (i : Nat) (o : Option SV) (ε : Env) (Q : R → Env → Prop) : Prop := match o with
  | some (.sh d) => Q (.sh d) ε
  | some (.ow ds) => Q (.br i ds) ε
  | some .bx => Q .bx ε
  | some (.raw v) => Q (.raw v) ε
  | some (.st S n) => Q (.sr i S n) ε
  | some (.exn x) => Q (.exn x) ε
  | some (.dco xs) => Q (.dbr i xs) ε
  | some (.sto M) => Q (.srt i M) ε
  | some (.dsh xs) => Q (.dsh xs) ε
  | some (.gen g) => Q (.gen g) ε
  | _ => False
theorem dVar_ (i : Nat) (ε : Env) (Q : R → Env → Prop) : dVar i ε Q = gv i ε.s[i]? ε Q := rfl
section
variable (i : Nat) (ε : Env) (Q : R → Env → Prop)
theorem gv_sh (d : PyData) : gv i (some (.sh d)) ε Q = Q (.sh d) ε := rfl
theorem gv_ow (ds : List PyData) : gv i (some (.ow ds)) ε Q = Q (.br i ds) ε := rfl
theorem gv_bx : gv i (some .bx) ε Q = Q .bx ε := rfl
theorem gv_raw (v : V) : gv i (some (.raw v)) ε Q = Q (.raw v) ε := rfl
theorem gv_gen (g : Gn) : gv i (some (.gen g)) ε Q = Q (.gen g) ε := rfl
theorem gv_exn (x : Xn) : gv i (some (.exn x)) ε Q = Q (.exn x) ε := rfl
theorem gv_st (S : Int → Bool) (n : Nat) : gv i (some (.st S n)) ε Q = Q (.sr i S n) ε := rfl
end
def ga (F : DSp) (o : Option (List SV)) (b : Bool) (ε : Env) (Q : R → Env → Prop) : Prop := match o with
  | some args => F args ε.c fun r c => match b with
    | true => immR r = true ∧ Q r ⟨ε.s, c⟩
    | false => Q r ⟨ε.s, c⟩
  | none => False
theorem dArgs_ (F : DSp) (rs : List R) (ε : Env) (Q : R → Env → Prop) : dArgs F rs ε Q = ga F (argsOf rs) (hasBr rs) ε Q := rfl
theorem ga_f (F : DSp) (args : List SV) (ε : Env) (Q : R → Env → Prop) : ga F (some args) false ε Q = F args ε.c fun r c => Q r ⟨ε.s, c⟩ := rfl
theorem ga_t (F : DSp) (args : List SV) (ε : Env) (Q : R → Env → Prop) : ga F (some args) true ε Q = F args ε.c fun r c => immR r = true ∧ Q r ⟨ε.s, c⟩ := rfl
def gi (r : R) (ε : Env) (Q : List PyData → Bool → Env → Prop) : Prop := match r with
  | .sh (.list ds) => Q ds true ε
  | .sh (.tuple ds) => Q ds true ε
  | .br _ ds => Q ds false ε
  | _ => False
theorem dIter_ (f : DTE) (ε : Env) (Q : List PyData → Bool → Env → Prop) : dIter f ε Q = f ε fun r ε1 => gi r.pub ε1 Q := rfl
theorem gi_l (ds : List PyData) (ε : Env) (Q : List PyData → Bool → Env → Prop) : gi (.sh (.list ds)) ε Q = Q ds true ε := rfl
theorem gi_t (ds : List PyData) (ε : Env) (Q : List PyData → Bool → Env → Prop) : gi (.sh (.tuple ds)) ε Q = Q ds true ε := rfl
theorem gi_b (i : Nat) (ds : List PyData) (ε : Env) (Q : List PyData → Bool → Env → Prop) : gi (.br i ds) ε Q = Q ds false ε := rfl
section
variable (Q : R → Prop)
theorem add_i (i j : Int) : φAdd (.int i) (.int j) Q = Q (.sh (.int (i + j))) := rfl
theorem add_l (a b : List PyData) : φAdd (.list a) (.list b) Q = (a.length + b.length ≤ sizeLine ∧ Q (.nw (a ++ b))) := rfl
theorem add_t (a b : List PyData) : φAdd (.tuple a) (.tuple b) Q = (a.length + b.length ≤ sizeLine ∧ Q (.sh (.tuple (a ++ b)))) := rfl
theorem mul_i (i j : Int) : φMul (.int i) (.int j) Q = (CMulW i j ∧ Q (.sh (.int (i * j)))) := rfl
theorem mul_l (a : List PyData) (k : Int) : φMul (.list a) (.int k) Q = ((-(2 ^ 63) ≤ k ∧ k < 2 ^ 63 ∧ a.length * k.toNat ≤ sizeLine) ∧ Q (.nw (List.replicate k.toNat a).flatten)) := rfl
theorem sl_l (ds : List PyData) (l h : Option Int) : φSl (.list ds) l h Q = Q (.nw (cutD ds l h)) := rfl
theorem sl_t (ds : List PyData) (l h : Option Int) : φSl (.tuple ds) l h Q = Q (.sh (.tuple (cutD ds l h))) := rfl
theorem eq_i (n : Bool) (i j : Int) : φEq n (.int i) (.int j) Q = Q (.sh (.bool (if n then !decide (i = j) else decide (i = j)))) := rfl
theorem eq_s (n : Bool) (i j : Str) : φEq n (.str i) (.str j) Q = Q (.sh (.bool (if n then !decide (i = j) else decide (i = j)))) := rfl
theorem eq_l (n : Bool) (a b : List PyData) : φEq n (.list a) (.list b) Q = ((SeqAt.shaped (.list a) = true ∧ SeqAt.shaped (.list b) = true) ∧ Q (.sh (.bool (if n then !PyData.eqv (.list a) (.list b) else PyData.eqv (.list a) (.list b))))) := rfl
theorem eq_t (n : Bool) (a b : List PyData) : φEq n (.tuple a) (.tuple b) Q = ((SeqAt.shaped (.tuple a) = true ∧ SeqAt.shaped (.tuple b) = true) ∧ Q (.sh (.bool (if n then !PyData.eqv (.tuple a) (.tuple b) else PyData.eqv (.tuple a) (.tuple b))))) := rfl
theorem eq_b (n : Bool) (a b : Bool) : φEq n (.bool a) (.bool b) Q = ((SeqAt.shaped (.bool a) = true ∧ SeqAt.shaped (.bool b) = true) ∧ Q (.sh (.bool (if n then !PyData.eqv (.bool a) (.bool b) else PyData.eqv (.bool a) (.bool b))))) := rfl
theorem eq_n (n : Bool) : φEq n .none .none Q = ((SeqAt.shaped .none = true ∧ SeqAt.shaped .none = true) ∧ Q (.sh (.bool (if n then !PyData.eqv .none .none else PyData.eqv .none .none)))) := rfl
end
end Lp

namespace Lp
open PySem PySem.Spec PyProof.Rows L2
theorem its_l (ds : List PyData) : PyData.its (.list ds) = some ds := rfl
theorem its_t (ds : List PyData) : PyData.its (.tuple ds) = some ds := rfl
theorem isN_n : isN .none = true := rfl
theorem isN_b (b : Bool) : isN (.bool b) = false := rfl
theorem isN_i (z : Int) : isN (.int z) = false := rfl
theorem isN_s (x : Str) : isN (.str x) = false := rfl
theorem isN_l (ds : List PyData) : isN (.list ds) = false := rfl
theorem isN_t (ds : List PyData) : isN (.tuple ds) = false := rfl
theorem rd_sh (d : PyData) : R.dat (.sh d) = some d := rfl
theorem rd_nw (ds : List PyData) : R.dat (.nw ds) = some (.list ds) := rfl
theorem rd_br (i : Nat) (ds : List PyData) : R.dat (.br i ds) = some (.list ds) := rfl
theorem rp_sh (d : PyData) : R.pub (.sh d) = .sh d := rfl
theorem rp_nw (ds : List PyData) : R.pub (.nw ds) = .sh (.list ds) := rfl
theorem rp_br (i : Nat) (ds : List PyData) : R.pub (.br i ds) = .br i ds := rfl
theorem rp_bx : R.pub .bx = .bx := rfl
theorem rp_raw (v : V) : R.pub (.raw v) = .raw v := rfl
theorem rp_sr (i : Nat) (S : Int → Bool) (n : Nat) : R.pub (.sr i S n) = .sr i S n := rfl
theorem rr_sh (d : PyData) : R.ret (.sh d) = some (.sh d) := rfl
theorem rr_nw (ds : List PyData) : R.ret (.nw ds) = some (.nw ds) := rfl
theorem rr_br (i : Nat) (ds : List PyData) : R.ret (.br i ds) = some (.nw ds) := rfl
theorem ra_sh (d : PyData) : R.arg (.sh d) = some (.sh d) := rfl
theorem ra_br (i : Nat) (ds : List PyData) : R.arg (.br i ds) = some (.sh (.list ds)) := rfl
theorem ra_bx : R.arg .bx = some .bx := rfl
theorem ra_raw (v : V) : R.arg (.raw v) = some (.raw v) := rfl
theorem va_sh (o : Bool) (d : PyData) : val o (.sh d) = some (.sh d) := rfl
theorem va_nt (ds : List PyData) : val true (.nw ds) = some (.ow ds) := rfl
theorem va_nf (ds : List PyData) : val false (.nw ds) = some (.sh (.list ds)) := rfl
theorem va_raw (o : Bool) (v : V) : val o (.raw v) = some (.raw v) := rfl
theorem hb_n : hasBr [] = false := rfl
theorem hb_sh (d : PyData) (rs : List R) : hasBr (.sh d :: rs) = hasBr rs := rfl
theorem hb_bx (rs : List R) : hasBr (.bx :: rs) = hasBr rs := rfl
theorem hb_raw (v : V) (rs : List R) : hasBr (.raw v :: rs) = hasBr rs := rfl
theorem hb_br (i : Nat) (ds : List PyData) (rs : List R) : hasBr (.br i ds :: rs) = true := rfl
theorem sh_n : shs [] = some [] := rfl
theorem sh_c (d : PyData) (rs : List R) : shs (.sh d :: rs) = match shs rs with
    | some ds => some (d :: ds)
    | none => none := rfl
theorem tr_n : truD .none = some false := rfl
theorem tr_b (b : Bool) : truD (.bool b) = some b := rfl
theorem tr_i (z : Int) : truD (.int z) = some (z != 0) := rfl
theorem tr_l (ds : List PyData) : truD (.list ds) = some (!ds.isEmpty) := rfl
theorem tr_t (ds : List PyData) : truD (.tuple ds) = some (!ds.isEmpty) := rfl
theorem ty_n : tyD .none = "NoneType" := rfl
theorem ty_b (b : Bool) : tyD (.bool b) = "bool" := rfl
theorem ty_i (z : Int) : tyD (.int z) = "int" := rfl
theorem ty_s (x : Str) : tyD (.str x) = "str" := rfl
theorem ty_l (ds : List PyData) : tyD (.list ds) = "list" := rfl
theorem ty_t (ds : List PyData) : tyD (.tuple ds) = "tuple" := rfl
universe u
theorem if_ff {α : Sort u} (a b : α) : (if false = true then a else b) = b := rfl
theorem if_tt {α : Sort u} (a b : α) : (if true = true then a else b) = a := rfl
theorem sq_ {p q : DTS} {Δ : DEnds} {ε : Env} (h : p { Δ with nx := q Δ } ε) : dSeq p q Δ ε := h
theorem if_t {b : Bool} {A B : Prop} (h : b = true) (a : A) : if b = true then A else B := by rw [if_pos h]; exact a
theorem if_f {b : Bool} {A B : Prop} (h : b = false) (x : B) : if b = true then A else B := by rw [h]; exact iteF x
theorem it_t {P A B : Prop} [Decidable P] (h : P) (a : A) : if decide P = true then A else B := if_t (decide_eq_true h) a
theorem it_f {P A B : Prop} [Decidable P] (h : ¬ P) (x : B) : if decide P = true then A else B := if_f (decide_eq_false h) x
theorem it_2 {P A B : Prop} [Decidable P] (h : P → A) (k : ¬ P → B) : if decide P = true then A else B := by
  by_cases q : P
  · exact it_t q (h q)
  · exact it_f q (k q)
theorem in_t {P A B : Prop} [Decidable P] (h : ¬ P) (a : A) : if (!decide P) = true then A else B := if_t (by rw [decide_eq_false h]; rfl) a
theorem in_f {P A B : Prop} [Decidable P] (h : P) (x : B) : if (!decide P) = true then A else B := if_f (by rw [decide_eq_true h]; rfl) x
theorem in_2 {P A B : Prop} [Decidable P] (h : ¬ P → A) (k : P → B) : if (!decide P) = true then A else B := by
  by_cases q : P
  · exact in_f q (k q)
  · exact in_t q (h q)
theorem dI_len (ns : List Int) : (dI ns).length = ns.length := List.length_map ..
theorem dI_get {ns : List Int} {i : Nat} {z : Int} (h : ns[i]? = some z) : (dI ns)[i]? = some (.int z) := by rw [List.getElem?_map, h]; rfl
theorem dI_app (a b : List Int) : dI a ++ dI b = dI (a ++ b) := by
  show a.map _ ++ b.map _ = _
  rw [← List.map_append]
theorem dI_snoc (a : List Int) (z : Int) : dI a ++ [.int z] = dI (a ++ [z]) := dI_app a [z]
theorem dI_set (ns : List Int) (i : Nat) (z : Int) : (dI ns).set i (.int z) = dI (ns.set i z) := by
  exact (List.map_set ..).symm
theorem dI_erase : ∀ (ns : List Int) (i : Nat), (dI ns).eraseIdx i = dI (ns.eraseIdx i)
  | [], _ => rfl
  | _ :: _, 0 => rfl
  | x :: r, i + 1 => by
    show _ :: (dI r).eraseIdx i = _ :: dI (r.eraseIdx i)
    rw [dI_erase r i]
theorem atI_nat {α : Type} {xs : List α} {i : Int} (h0 : 0 ≤ i) (h1 : i < (xs.length : Int)) : atI xs i = xs[i.toNat]? := by
  unfold atI ixN
  rw [if_pos h0, if_pos h1]; rfl
theorem atI_dI {ns : List Int} {i : Int} (h0 : 0 ≤ i) (h1 : i < (ns.length : Int)) : atI (dI ns) i = some (.int (gt ns i)) := by
  rw [atI_nat h0 (by rw [dI_len]; exact h1)]
  exact dI_get (gt_get h0 h1)
theorem ixN_ok {n : Nat} {i : Int} (h0 : 0 ≤ i) (h1 : i < (n : Int)) : ixN n i = some i.toNat := by
  unfold ixN; rw [if_pos h0, if_pos h1]
theorem sIx_int (n d : Nat) (k : Int) (h : 0 ≤ k) : HT.sIx n d (some k) = min k.toNat n := by
  have e : k = ((k.toNat : Nat) : Int) := by omega
  rw [e]; rw [HT.sIx_nat]; congr 1
/-- a state: people 0 .. n - 1, at most 1000 -/
structure Stt (ns : List Int) : Prop where
  lo : Low ns.length ns
  le : ns.length ≤ 1000
  ge : 1 ≤ ns.length
def Per (ns : List Int) (p : Int) : Prop := 0 ≤ p ∧ p < (ns.length : Int)
theorem Stt.gt {ns : List Int} (h : Stt ns) {p : Int} (hp : Per ns p) : Per ns (gt ns p) := gt_low h.lo hp.1 hp.2
def LowO (n : Nat) (os : List (Option Int)) : Prop := ∀ z, some z ∈ os → 0 ≤ z ∧ z < (n : Int)
theorem LowO.of {n : Nat} {ns : List Int} (lo : Low n ns) : LowO n (ns.map some) := fun z hz => by
  obtain ⟨y, hy, e⟩ := List.mem_map.mp hz
  cases e
  exact lo z hy
theorem for_cons {γ : DTG} {p : DTS} {Δ : DEnds} {d : PyData} {ds : List PyData} {ε : Env} (h : γ d ε fun ε1 => p { nx := forD γ p Δ ds, rt := Δ.rt, bk := Δ.nx, ct := forD γ p Δ ds } ε1) : forD γ p Δ (d :: ds) ε := h
theorem lc_cons {γ : DTG} {c : DTT} {f : DTE} {vs : List Nat} {s : List SV} {Q : R → Env → Prop} {d : PyData} {ds acc : List PyData} {n : Nat} (h : γ d ⟨wipeE ⟨s, n⟩ vs, n⟩ fun ε1 => c ε1 fun b ε2 => if b = true then f ε2 fun r ε3 => match r.pub with
      | .sh e => acc.length < sizeLine ∧ lcD γ c f vs s Q ds (acc ++ [e]) ε3.c
      | _ => False
    else lcD γ c f vs s Q ds acc ε2.c) : lcD γ c f vs s Q (d :: ds) acc n := h
theorem lc_all {α : Type} {γ : DTG} {f : DTE} {vs : List Nat} {s : List SV} {Q : R → Env → Prop} {n : Nat} (h e : α → PyData) : ∀ (xs : List α) (acc : List PyData),
    (∀ x ∈ xs, ∀ K : R → Env → Prop, (∀ r ε, r.pub = .sh (e x) → ε.c = n → K r ε) → γ (h x) ⟨wipeE ⟨s, n⟩ vs, n⟩ fun ε1 => f ε1 K) →
    acc.length + xs.length ≤ 16777216 → Q (.nw (acc ++ xs.map e)) ⟨s, n⟩ → lcD γ dYes f vs s Q (xs.map h) acc n
  | [], acc, _, _, q => by
    rw [List.map_nil, List.append_nil] at q
    exact q
  | x :: xs, acc, st, le, q => by
    rw [List.length_cons] at le
    rw [List.map_cons]
    refine lc_cons ?_
    refine st x List.mem_cons_self (fun r ε3 => match r.pub with
      | .sh e => acc.length < sizeLine ∧ lcD γ dYes f vs s Q (xs.map h) (acc ++ [e]) ε3.c
      | _ => False) fun r ε hr hc => ?_
    rw [hr, hc]
    refine ⟨show acc.length < 16777216 by omega, ?_⟩
    refine lc_all h e xs (acc ++ [e x]) (fun y hy => st y (List.mem_cons_of_mem _ hy)) (by rw [List.length_append, List.length_singleton]; omega) ?_
    rw [List.append_assoc]; exact q
theorem Stt.rt {ns : List Int} (h : Stt ns) {p : Int} (hp : Per ns p) : Route ns p (routeF ns p) := routeF_ok h.lo hp.1 hp.2
theorem route_low {ns : List Int} (h : Stt ns) {p : Int} (hp : Per ns p) : Low ns.length (routeF ns p) := by
  obtain ⟨L, e, nd, hin⟩ := h.rt hp
  intro z hz
  rw [e] at hz
  obtain ⟨i, _, ei⟩ := itrs_mem.mp hz
  rw [← ei]; exact itr_low h.lo hp.1 hp.2 i
theorem route_len {ns : List Int} (h : Stt ns) {p : Int} (hp : Per ns p) : 1 ≤ (routeF ns p).length ∧ (routeF ns p).length ≤ ns.length := by
  obtain ⟨L, e, nd, hin⟩ := h.rt hp
  refine ⟨?_, low_len ns.length _ nd (route_low h hp)⟩
  exact List.length_pos_iff.mpr fun z => by rw [z] at hin; cases hin
/-- the last one of a route, and whom they point at -/
theorem route_last {ns : List Int} (h : Stt ns) {p : Int} (hp : Per ns p) : ∃ l, (routeF ns p).getLast? = some l ∧ Per ns l ∧ gt ns l ∈ routeF ns p ∧ (routeF ns p).getLastD 0 = l := by
  obtain ⟨L, e, nd, hin⟩ := h.rt hp
  have l1 := (route_len h hp).1
  have hL : (routeF ns p).length = L := by rw [e, itrs_len]
  have el : (routeF ns p)[L - 1]? = some (itr ns p (L - 1)) := by rw [e]; exact itrs_get (by omega)
  have e2 : (routeF ns p).getLast? = some (itr ns p (L - 1)) := by rw [List.getLast?_eq_getElem?, hL]; exact el
  refine ⟨itr ns p (L - 1), e2, itr_low h.lo hp.1 hp.2 _, ?_, ?_⟩
  · have : gt ns (itr ns p (L - 1)) = itr ns p L := by
      have : L = L - 1 + 1 := by omega
      rw [this]; rfl
    rw [this]; exact hin
  · rw [List.getLastD_eq_getLast?, e2]; rfl
theorem begin_lt {ns : List Int} (h : Stt ns) {p : Int} (hp : Per ns p) : heightF ns p < (routeF ns p).length := by
  obtain ⟨l, l1, l2, l3, l4⟩ := route_last h hp
  unfold heightF beginF
  rw [l4]; exact List.idxOf_lt_length_of_mem l3
end Lp

namespace Lp
open PySem PySem.Spec PyProof.Rows L2
local macro_rules | `(tactic| rfl') => `(tactic| try dsimp only [dVar_, gv_sh, gv_ow, gv_bx, gv_raw, gv_st, dC, dRaw, dOp, dUn, dTest, dTruth, dAnd, dOr, dNot, dYes, dIf, dAndV, dOrV, dNotV, dNotT, dChain, dNil, dCons, dTup, dLst, dats, dCB, dNoP, dPart, dSl, dNext, dBreak, dCont, dNever, dDrop, dRet, dRetN, dIfS, dSetG, dPar, dPar3, dAppend, dAppPop, dSetIx, dExt, dAug, dSet0, dSAdd, dSNotIn, dIter_, gi_l, gi_t, gi_b, dRng1, dRng2, dName, dGNil, dGCons, dGTup, dAsg, dFor, dWhile, dCall, dCallR, dArgs_, ga_f, ga_t, argsOf, dLc, wipeE, dListRg, dIndex, dSortSet, dSortSc, dEnum, dEnA, dZip, dIsi, dIsi2, isaT, φI, φB, φC, φNeg, add_i, add_l, add_t, mul_i, mul_l, φIx, sl_l, sl_t, eq_i, eq_s, eq_l, eq_t, eq_b, eq_n, φIsN, isN_n, isN_b, isN_i, isN_s, isN_l, isN_t, φLen, φList, φTuple, φAbs, φInt, φMax, φIsB, φIsNB, its_l, its_t, rd_sh, rd_nw, rd_br, rp_sh, rp_nw, rp_br, rp_bx, rp_raw, rp_sr, rr_sh, rr_nw, rr_br, ra_sh, ra_br, ra_bx, ra_raw, va_sh, va_nt, va_nf, va_raw, hb_n, hb_sh, hb_bx, hb_raw, hb_br, sh_n, sh_c, tr_n, tr_b, tr_i, tr_l, tr_t, ty_n, ty_b, ty_i, ty_s, ty_l, ty_t, if_ff, if_tt, Env.set, List.getElem?_cons_succ, List.getElem?_cons_zero, List.set_cons_succ, List.set_cons_zero, List.reverse_cons, List.reverse_nil, List.nil_append, List.cons_append, Option.bind_some, ite_true, ite_false])
theorem rg0 (n : Nat) : rgD 0 n = (List.range n).map fun i : Nat => .int (i : Nat) := by
  unfold rgD
  exact List.map_congr_left fun i _ => by rw [Int.zero_add]
theorem per_nat {ns : List Int} {j : Nat} (h : j < ns.length) : Per ns (j : Int) := ⟨Int.natCast_nonneg _, by omega⟩
theorem ring_ne {ns : List Int} (h : Stt ns) {p : Int} (hp : Per ns p) : ringF ns p ≠ [] := by
  unfold ringF
  refine turnF_ne fun e => ?_
  have := congrArg List.length e
  have h := begin_lt h hp
  rw [List.length_drop, List.length_nil] at this
  unfold heightF at h
  omega
theorem φAll_dB {any : Bool} {bs : List Bool} {Q : R → Prop} (q : Q (.sh (.bool (if any then bs.any id else bs.all id)))) : φAll any [.list (dB bs)] Q := by
  unfold φAll
  dsimp only
  rw [boolsD_dB]
  exact q
theorem dB_map {α : Type} (xs : List α) (f : α → Bool) : (xs.map fun x => PyData.bool (f x)) = dB (xs.map f) := by
  show _ = (xs.map f).map _
  rw [List.map_map]; rfl
theorem ring_le {ns : List Int} (h : Stt ns) {p : Int} (hp : Per ns p) : (ringF ns p).length ≤ ns.length := by
  unfold ringF turnF
  rw [List.length_append, List.length_drop, List.length_take, List.length_drop]
  have := (route_len h hp).2
  omega
theorem RingsOf.mem {ns : List Int} (h : Stt ns) {RS : List (List Int)} (hR : RingsOf ns RS) {r : List Int} (hr : r ∈ RS) : r ≠ [] ∧ r.length ≤ ns.length := by
  obtain ⟨j, hj, rfl⟩ := (hR.2.2 r).mp hr
  exact ⟨ring_ne h (per_nat hj), ring_le h (per_nat hj)⟩
theorem RingsOf.len {ns : List Int} {RS : List (List Int)} (hR : RingsOf ns RS) : RS.length ≤ ns.length := by
  have := nd_subG RS ((List.range ns.length).map fun i : Nat => ringF ns (i : Int)) hR.1 fun r hr => by
    obtain ⟨j, hj, e⟩ := (hR.2.2 r).mp hr
    exact List.mem_map.mpr ⟨j, List.mem_range.mpr hj, e⟩
  rw [List.length_map, List.length_range] at this
  exact this
end Lp

namespace Lp
open PySem PySem.Spec PyProof.Rows L2
local macro_rules | `(tactic| rfl') => `(tactic| try dsimp only [dVar_, gv_sh, gv_ow, gv_bx, gv_raw, gv_st, dC, dRaw, dOp, dUn, dTest, dTruth, dAnd, dOr, dNot, dYes, dIf, dAndV, dOrV, dNotV, dNotT, dChain, dNil, dCons, dTup, dLst, dats, dCB, dNoP, dPart, dSl, dNext, dBreak, dCont, dNever, dDrop, dRet, dRetN, dIfS, dSetG, dPar, dPar3, dAppend, dAppPop, dSetIx, dExt, dAug, dSet0, dSAdd, dSNotIn, dIter_, gi_l, gi_t, gi_b, dRng1, dRng2, dName, dGNil, dGCons, dGTup, dAsg, dFor, dWhile, dCall, dCallR, dArgs_, ga_f, ga_t, argsOf, dLc, wipeE, dListRg, dIndex, dSortSet, dSortSc, dEnum, dEnA, dZip, dIsi, dIsi2, isaT, φI, φB, φC, φNeg, add_i, add_l, add_t, mul_i, mul_l, φIx, sl_l, sl_t, eq_i, eq_s, eq_l, eq_t, eq_b, eq_n, φIsN, isN_n, isN_b, isN_i, isN_s, isN_l, isN_t, φLen, φList, φTuple, φAbs, φInt, φMax, φIsB, φIsNB, its_l, its_t, rd_sh, rd_nw, rd_br, rp_sh, rp_nw, rp_br, rp_bx, rp_raw, rp_sr, rr_sh, rr_nw, rr_br, ra_sh, ra_br, ra_bx, ra_raw, va_sh, va_nt, va_nf, va_raw, hb_n, hb_sh, hb_bx, hb_raw, hb_br, sh_n, sh_c, tr_n, tr_b, tr_i, tr_l, tr_t, ty_n, ty_b, ty_i, ty_s, ty_l, ty_t, if_ff, if_tt, Env.set, List.getElem?_cons_succ, List.getElem?_cons_zero, List.set_cons_succ, List.set_cons_zero, List.reverse_cons, List.reverse_nil, List.nil_append, List.cons_append, Option.bind_some, ite_true, ite_false])
def p_law_take : DSp := fun args c Q => ∃ span : Int, args = [.bx, .sh (.int span)] ∧ 1 ≤ span ∧ span ≤ 10000000000000 ∧ c ≤ 900000000 ∧ ∀ (r : Int) (c' : Nat), 0 ≤ r → r < span → c' ≤ c + 3 → Q (.sh (.int r)) c'
theorem mon_law_take : MonF p_law_take := fun args c A B h ⟨s, e, h1, h2, h3, q⟩ => ⟨s, e, h1, h2, h3, fun r c' a b d => h _ _ (q r c' a b d)⟩
theorem c_take {span : Int} {c : Nat} {Q : R → Nat → Prop} (h1 : 1 ≤ span) (h2 : span ≤ 10000000000000) (h3 : c ≤ 900000000) (q : ∀ (r : Int) (c' : Nat), 0 ≤ r → r < span → c' ≤ c + 3 → Q (.sh (.int r)) c') : p_law_take [.bx, .sh (.int span)] c Q := ⟨span, rfl, h1, h2, h3, q⟩
theorem erase_perm {α : Type} : ∀ (l : List α) (i : Nat) (h : i < l.length), (l[i] :: l.eraseIdx i).Perm l
  | _ :: _, 0, _ => List.Perm.refl _
  | x :: r, i + 1, h => (List.Perm.swap x (r[i]'(Nat.lt_of_succ_lt_succ h)) (r.eraseIdx i)).trans ((erase_perm r i (Nat.lt_of_succ_lt_succ h)).cons x)
def NetOk (n : Nat) (ns : List Int) : Prop := ns.length = n ∧ Low n ns
theorem perm_low {n : Nat} {ms : List Int} (h : ms.Perm ((List.range n).map fun i : Nat => (i : Int))) : ms.length = n ∧ Low n ms := by
  refine ⟨by rw [h.length_eq, List.length_map, List.length_range], fun z hz => ?_⟩
  obtain ⟨j, hj, rfl⟩ := List.mem_map.mp (h.mem_iff.mp hz)
  have := List.mem_range.mp hj
  omega
theorem enD_dI (ms : List Int) : enD (dI ms) = ms.zipIdx.map fun p => .tuple [.int (p.2 : Nat), .int p.1] := by
  unfold enD
  rw [List.mapIdx_eq_zipIdx_map]
  show ((ms.map _).zipIdx).map _ = _
  rw [List.zipIdx_map, List.map_map]
  rfl
end Lp

namespace Lp
open PySem PySem.Spec PyProof.Rows L2
local macro_rules | `(tactic| rfl') => `(tactic| try dsimp only [dVar_, gv_sh, gv_ow, gv_bx, gv_raw, gv_st, dC, dRaw, dOp, dUn, dTest, dTruth, dAnd, dOr, dNot, dYes, dIf, dAndV, dOrV, dNotV, dNotT, dChain, dNil, dCons, dTup, dLst, dats, dCB, dNoP, dPart, dSl, dNext, dBreak, dCont, dNever, dDrop, dRet, dRetN, dIfS, dSetG, dPar, dPar3, dAppend, dAppPop, dSetIx, dExt, dAug, dSet0, dSAdd, dSNotIn, dIter_, gi_l, gi_t, gi_b, dRng1, dRng2, dName, dGNil, dGCons, dGTup, dAsg, dFor, dWhile, dCall, dCallR, dArgs_, ga_f, ga_t, argsOf, dLc, wipeE, dListRg, dIndex, dSortSet, dSortSc, dEnum, dEnA, dZip, dIsi, dIsi2, isaT, φI, φB, φC, φNeg, add_i, add_l, add_t, mul_i, mul_l, φIx, sl_l, sl_t, eq_i, eq_s, eq_l, eq_t, eq_b, eq_n, φIsN, isN_n, isN_b, isN_i, isN_s, isN_l, isN_t, φLen, φList, φTuple, φAbs, φInt, φMax, φIsB, φIsNB, its_l, its_t, rd_sh, rd_nw, rd_br, rp_sh, rp_nw, rp_br, rp_bx, rp_raw, rp_sr, rr_sh, rr_nw, rr_br, ra_sh, ra_br, ra_bx, ra_raw, va_sh, va_nt, va_nf, va_raw, hb_n, hb_sh, hb_bx, hb_raw, hb_br, sh_n, sh_c, tr_n, tr_b, tr_i, tr_l, tr_t, ty_n, ty_b, ty_i, ty_s, ty_l, ty_t, if_ff, if_tt, Env.set, List.getElem?_cons_succ, List.getElem?_cons_zero, List.set_cons_succ, List.set_cons_zero, List.reverse_cons, List.reverse_nil, List.nil_append, List.cons_append, Option.bind_some, ite_true, ite_false])
end Lp

namespace Lp
open PySem PySem.Spec PyProof.Rows L2
local macro_rules | `(tactic| rfl') => `(tactic| try dsimp only [dVar_, gv_sh, gv_ow, gv_bx, gv_raw, gv_st, dC, dRaw, dOp, dUn, dTest, dTruth, dAnd, dOr, dNot, dYes, dIf, dAndV, dOrV, dNotV, dNotT, dChain, dNil, dCons, dTup, dLst, dats, dCB, dNoP, dPart, dSl, dNext, dBreak, dCont, dNever, dDrop, dRet, dRetN, dIfS, dSetG, dPar, dPar3, dAppend, dAppPop, dSetIx, dExt, dAug, dSet0, dSAdd, dSNotIn, dIter_, gi_l, gi_t, gi_b, dRng1, dRng2, dName, dGNil, dGCons, dGTup, dAsg, dFor, dWhile, dCall, dCallR, dArgs_, ga_f, ga_t, argsOf, dLc, wipeE, dListRg, dIndex, dSortSet, dSortSc, dEnum, dEnA, dZip, dIsi, dIsi2, isaT, φI, φB, φC, φNeg, add_i, add_l, add_t, mul_i, mul_l, φIx, sl_l, sl_t, eq_i, eq_s, eq_l, eq_t, eq_b, eq_n, φIsN, isN_n, isN_b, isN_i, isN_s, isN_l, isN_t, φLen, φList, φTuple, φAbs, φInt, φMax, φIsB, φIsNB, its_l, its_t, rd_sh, rd_nw, rd_br, rp_sh, rp_nw, rp_br, rp_bx, rp_raw, rp_sr, rr_sh, rr_nw, rr_br, ra_sh, ra_br, ra_bx, ra_raw, va_sh, va_nt, va_nf, va_raw, hb_n, hb_sh, hb_bx, hb_raw, hb_br, sh_n, sh_c, tr_n, tr_b, tr_i, tr_l, tr_t, ty_n, ty_b, ty_i, ty_s, ty_l, ty_t, if_ff, if_tt, Env.set, List.getElem?_cons_succ, List.getElem?_cons_zero, List.set_cons_succ, List.set_cons_zero, List.reverse_cons, List.reverse_nil, List.nil_append, List.cons_append, Option.bind_some, ite_true, ite_false])
def dep : Nat → PyData → Bool
  | 0, _ => false
  | k + 1, .list ds => decide (ds.length ≤ 1000000) && ds.all (dep k)
  | k + 1, .tuple ds => decide (ds.length ≤ 1000000) && ds.all (dep k)
  | _ + 1, .dict _ => false
  | _ + 1, _ => true
def p_law_same (k : Nat) : DSp := fun args c Q => ∃ a b : PyData, args = [.sh a, .sh b] ∧ a = b ∧ dep k a = true ∧ Q (.sh (.bool true)) c
theorem mon_law_same (k : Nat) : MonF (p_law_same k) := fun args c A B h ⟨a, b, e, h1, h2, q⟩ => ⟨a, b, e, h1, h2, h _ _ q⟩
theorem zip_self (ds : List PyData) : zipDs ds ds = ds.map fun d => .tuple [d, d] := by
  unfold zipDs
  induction ds with
  | nil => rfl
  | cons x r ih => rw [List.zipWith_cons_cons, ih]; rfl
theorem same_seq {k : Nat} {ds : List PyData} {s : List SV} {c : Nat} {Q : R → Env → Prop} (hk : ds.all (dep k) = true) (hl : ds.length ≤ 16777216) (hs : ∃ x y, s = [x, y, .un, .un]) (q : Q (.nw (ds.map fun _ => .bool true)) ⟨s, c⟩) :
    lcD (dGTup 2 (dGCons (dName 2) (dGCons (dName 3) dGNil))) dYes (dCall (p_law_same k) (dCons (dVar 2) (dCons (dVar 3) dNil))) [2, 3] s Q (zipDs ds ds) [] c := by
  obtain ⟨x, y, rfl⟩ := hs
  rw [zip_self]
  refine lc_all (fun d => .tuple [d, d]) (fun _ => .bool true) ds [] (fun d hd K hK => ?_) (by show 0 + _ ≤ _; omega) q
  rfl'
  refine ⟨rfl, ?_⟩
  refine ⟨d, d, rfl, rfl, List.all_eq_true.mp hk d hd, ?_⟩
  rfl'
  exact hK _ _ rfl rfl
theorem eqv_self_b (b : Bool) : PyData.eqv (.bool b) (.bool b) = true := by cases b <;> rfl
theorem dep_list {k : Nat} {ds : List PyData} (h : dep (k + 1) (.list ds) = true) : ds.length ≤ 1000000 ∧ ds.all (dep k) = true := by
  unfold dep at h
  rw [Bool.and_eq_true] at h
  exact ⟨of_decide_eq_true h.1, h.2⟩
theorem dep_tuple {k : Nat} {ds : List PyData} (h : dep (k + 1) (.tuple ds) = true) : ds.length ≤ 1000000 ∧ ds.all (dep k) = true := by
  unfold dep at h
  rw [Bool.and_eq_true] at h
  exact ⟨of_decide_eq_true h.1, h.2⟩
theorem all_true (ds : List PyData) : (dB (ds.map fun _ => true)).length = ds.length ∧ (ds.map fun _ => true).all id = true := by
  refine ⟨by rw [List.length_map, List.length_map], ?_⟩
  rw [List.all_map]
  exact List.all_eq_true.mpr fun _ _ => rfl
end Lp

namespace Lp
open PySem PySem.Spec PyProof.Rows L2
local macro_rules | `(tactic| rfl') => `(tactic| try dsimp only [dVar_, gv_sh, gv_ow, gv_bx, gv_raw, gv_st, dC, dRaw, dOp, dUn, dTest, dTruth, dAnd, dOr, dNot, dYes, dIf, dAndV, dOrV, dNotV, dNotT, dChain, dNil, dCons, dTup, dLst, dats, dCB, dNoP, dPart, dSl, dNext, dBreak, dCont, dNever, dDrop, dRet, dRetN, dIfS, dSetG, dPar, dPar3, dAppend, dAppPop, dSetIx, dExt, dAug, dSet0, dSAdd, dSNotIn, dIter_, gi_l, gi_t, gi_b, dRng1, dRng2, dName, dGNil, dGCons, dGTup, dAsg, dFor, dWhile, dCall, dCallR, dArgs_, ga_f, ga_t, argsOf, dLc, wipeE, dListRg, dIndex, dSortSet, dSortSc, dEnum, dEnA, dZip, dIsi, dIsi2, isaT, φI, φB, φC, φNeg, add_i, add_l, add_t, mul_i, mul_l, φIx, sl_l, sl_t, eq_i, eq_s, eq_l, eq_t, eq_b, eq_n, φIsN, isN_n, isN_b, isN_i, isN_s, isN_l, isN_t, φLen, φList, φTuple, φAbs, φInt, φMax, φIsB, φIsNB, its_l, its_t, rd_sh, rd_nw, rd_br, rp_sh, rp_nw, rp_br, rp_bx, rp_raw, rp_sr, rr_sh, rr_nw, rr_br, ra_sh, ra_br, ra_bx, ra_raw, va_sh, va_nt, va_nf, va_raw, hb_n, hb_sh, hb_bx, hb_raw, hb_br, sh_n, sh_c, tr_n, tr_b, tr_i, tr_l, tr_t, ty_n, ty_b, ty_i, ty_s, ty_l, ty_t, if_ff, if_tt, Env.set, List.getElem?_cons_succ, List.getElem?_cons_zero, List.set_cons_succ, List.set_cons_zero, List.reverse_cons, List.reverse_nil, List.nil_append, List.cons_append, Option.bind_some, ite_true, ite_false])
inductive All2 {α β : Type} (P : α → β → Prop) : List α → List β → Prop
  | nil : All2 P [] []
  | cons {x : α} {y : β} {xs : List α} {ys : List β} : P x y → All2 P xs ys → All2 P (x :: xs) (y :: ys)
theorem All2.len {α β : Type} {P : α → β → Prop} : ∀ {xs : List α} {ys : List β}, All2 P xs ys → ys.length = xs.length
  | _, _, .nil => rfl
  | _, _, .cons _ r => by rw [List.length_cons, List.length_cons, r.len]
theorem All2.mem {α β : Type} {P : α → β → Prop} : ∀ {xs : List α} {ys : List β}, All2 P xs ys → ∀ y ∈ ys, ∃ x ∈ xs, P x y
  | _, _, .cons a r, y, h => by
    rcases List.mem_cons.mp h with rfl | h
    · exact ⟨_, List.mem_cons_self, a⟩
    · obtain ⟨x, hx, hp⟩ := r.mem y h
      exact ⟨x, List.mem_cons_of_mem _ hx, hp⟩
theorem All2.get {α β : Type} {P : α → β → Prop} : ∀ {xs : List α} {ys : List β}, All2 P xs ys → ∀ {i : Nat} {x : α}, xs[i]? = some x → ∃ y, ys[i]? = some y ∧ P x y
  | _, _, .nil, i, x, h => by simp at h
  | _, _, .cons a r, 0, x, h => by simp at h; subst h; exact ⟨_, rfl, a⟩
  | _, _, .cons a r, i + 1, x, h => by
    obtain ⟨y, h1, h2⟩ := r.get (i := i) (x := x) (by simpa using h)
    exact ⟨y, by simpa using h1, h2⟩
theorem lc_draw {α β : Type} {γ : DTG} {f : DTE} {vs : List Nat} {s : List SV} {Q : R → Env → Prop} {N : Nat} (h : α → PyData) (u : β → PyData) (P : α → β → Prop) : ∀ (xs : List α) (acc : List β) (n : Nat),
    (∀ x ∈ xs, ∀ m, m ≤ n + N * xs.length → ∀ K : R → Env → Prop, (∀ r ε y, r.pub = .sh (u y) → P x y → ε.c ≤ m + N → K r ε) → γ (h x) ⟨wipeE ⟨s, m⟩ vs, m⟩ fun ε1 => f ε1 K) →
    acc.length + xs.length ≤ 16777216 → (∀ ys m, All2 P xs ys → m ≤ n + N * xs.length → Q (.nw ((acc ++ ys).map u)) ⟨s, m⟩) → lcD γ dYes f vs s Q (xs.map h) (acc.map u) n
  | [], acc, n, _, _, q => by
    have := q [] n .nil (Nat.le_add_right _ _)
    rw [List.append_nil] at this
    exact this
  | x :: xs, acc, n, st, le, q => by
    rw [List.length_cons] at le
    rw [List.length_cons, Nat.mul_add, Nat.mul_one] at st q
    rw [List.map_cons]
    refine lc_cons ?_
    refine st x List.mem_cons_self n (Nat.le_add_right _ _) (fun r ε3 => match r.pub with
      | .sh e => (acc.map u).length < sizeLine ∧ lcD γ dYes f vs s Q (xs.map h) (acc.map u ++ [e]) ε3.c
      | _ => False) fun r ε y hr hy hc => ?_
    rw [hr]
    refine ⟨show (acc.map u).length < 16777216 by rw [List.length_map]; omega, ?_⟩
    have e : acc.map u ++ [u y] = (acc ++ [y]).map u := by rw [List.map_append]; rfl
    rw [e]
    refine lc_draw h u P xs (acc ++ [y]) ε.c (fun z hz m hm => st z (List.mem_cons_of_mem _ hz) m (by omega)) (by rw [List.length_append, List.length_singleton]; omega) fun ys m hys hm => ?_
    rw [List.append_assoc]
    exact q (y :: ys) m (.cons hy hys) (by omega)
end Lp

namespace Lp
open PySem PySem.Spec PyProof.Rows L2
local macro_rules | `(tactic| rfl') => `(tactic| try dsimp only [dVar_, gv_sh, gv_ow, gv_bx, gv_raw, gv_exn, gv_st, dC, dRaw, dOp, dUn, dTest, dTruth, dAnd, dOr, dNot, dYes, dIf, dAndV, dOrV, dNotV, dNotT, dChain, dNil, dCons, dTup, dLst, dats, dCB, dNoP, dPart, dSl, dNext, dBreak, dCont, dNever, dDrop, dRet, dRetN, dIfS, dSetG, dPar, dPar3, dAppend, dAppPop, dSetIx, dExt, dAug, dSet0, dSAdd, dSNotIn, dIter_, gi_l, gi_t, gi_b, dRng1, dRng2, dName, dGNil, dGCons, dGTup, dAsg, dFor, dWhile, dCall, dCallR, dArgs_, ga_f, ga_t, argsOf, dLc, wipeE, dListRg, dIndex, dSortSet, dSortSc, dEnum, dEnA, dZip, dIsi, dIsi2, isaT, φI, φB, φC, φNeg, add_i, add_l, add_t, mul_i, mul_l, φIx, sl_l, sl_t, eq_i, eq_s, eq_l, eq_t, eq_b, eq_n, φIsN, isN_n, isN_b, isN_i, isN_s, isN_l, isN_t, φLen, φList, φTuple, φAbs, φInt, φMax, φIsB, φIsNB, its_l, its_t, rd_sh, rd_nw, rd_br, rp_sh, rp_nw, rp_br, rp_bx, rp_raw, rp_sr, rr_sh, rr_nw, rr_br, ra_sh, ra_br, ra_bx, ra_raw, va_sh, va_nt, va_nf, va_raw, hb_n, hb_sh, hb_bx, hb_raw, hb_br, sh_n, sh_c, tr_n, tr_b, tr_i, tr_l, tr_t, ty_n, ty_b, ty_i, ty_s, ty_l, ty_t, if_ff, if_tt, Env.set, List.getElem?_cons_succ, List.getElem?_cons_zero, List.set_cons_succ, List.set_cons_zero, List.reverse_cons, List.reverse_nil, List.nil_append, List.cons_append, Option.bind_some, ite_true, ite_false])
def p_height : DSp := fun args c Q => ∃ (d : PyData) (ns : List Int) (p : Int), args = [.sh d, .sh (.int p)] ∧ PyData.its d = some (dI ns) ∧ Stt ns ∧ Per ns p ∧ Q (.sh (.int (heightF ns p : Nat))) c
theorem c_height {d : PyData} {ns : List Int} {p : Int} {c : Nat} {Q : R → Nat → Prop} (h1 : PyData.its d = some (dI ns)) (h2 : Stt ns) (hp : Per ns p) (q : Q (.sh (.int (heightF ns p : Nat))) c) : p_height [.sh d, .sh (.int p)] c Q := ⟨d, ns, p, rfl, h1, h2, hp, q⟩
/-- _law_strewn: _law_box_here, _law_some, _law_left, _law_found -/
def b_law_strewn_2 : DTS := (dSeq (dPar 2 true 3 true (dCB φList (dCons (dVar 1) dNil)) (dLst dNil))
  (dSeq (dWhile (dTest (dOp (φEq true) (dVar 2) (dLst dNil))) (dAppPop 3 2 (dCall p_law_take (dCons (dVar 0) (dCons (dCB φLen (dCons (dVar 2) dNil)) dNil)))))
  (dRet (dVar 3))))
abbrev k_law_strewn_2 : Nat := 2
def p_strewn_int : DSp := fun args c Q => ∃ (d : PyData) (ms : List Int), args = [.bx, .sh d] ∧ PyData.its d = some (dI ms) ∧ ms.length ≤ 100000 ∧ c + 3 * ms.length ≤ 900000000 ∧ ∀ es c', es.Perm ms → c' ≤ c + 3 * ms.length → Q (.nw (dI es)) c'
def p_strewn_tup : DSp := fun args c Q => ∃ (d : PyData) (ms : List (List Int)), args = [.bx, .sh d] ∧ PyData.its d = some (dT ms) ∧ ms.length ≤ 100000 ∧ c + 3 * ms.length ≤ 900000000 ∧ ∀ es c', es.Perm ms → c' ≤ c + 3 * ms.length → Q (.nw (dT es)) c'
def p_law_strewn_2 : DSp := fun args c Q => p_strewn_int args c Q ∨ p_strewn_tup args c Q
theorem mon_law_strewn_2 : MonF p_law_strewn_2 := fun args c A B h z => by
  rcases z with ⟨s, ds, e, h1, h2, h3, q⟩ | ⟨s, ds, e, h1, h2, h3, q⟩
  · exact .inl ⟨s, ds, e, h1, h2, h3, fun r c' a b => h _ _ (q r c' a b)⟩
  · exact .inr ⟨s, ds, e, h1, h2, h3, fun r c' a b => h _ _ (q r c' a b)⟩
theorem ne_nil_eqv {ms : List Int} : PyData.eqv (.list (dI ms)) (.list []) = decide (ms = []) := eqvL ms []
theorem perm_popI {ds es fs : List Int} {i : Nat} (hi : i < ds.length) (hp : (es ++ ds).Perm fs) : ((es ++ [ds[i]]) ++ ds.eraseIdx i).Perm fs := by
  refine List.Perm.trans ?_ hp
  rw [List.append_assoc]
  exact List.Perm.append_left es (erase_perm ds i hi)
theorem strewn2_loop {x : SV} {Δ : DEnds} {fs : List Int} (hfs : fs.length ≤ 100000) :
    ∀ (k : Nat) (ds es : List Int) (c : Nat), ds.length = k → (es ++ ds).Perm fs → c + 3 * ds.length ≤ 900000000 → (∀ es c', es.Perm fs → c' ≤ c + 3 * ds.length → Δ.nx ⟨[.bx, x, .ow [], .ow (dI es)], c'⟩) →
      whileN (dTest (dOp (φEq true) (dVar 2) (dLst dNil))) (dAppPop 3 2 (dCall p_law_take (dCons (dVar 0) (dCons (dCB φLen (dCons (dVar 2) dNil)) dNil)))) Δ (k + 1) ⟨[.bx, x, .ow (dI ds), .ow (dI es)], c⟩
  | k, ds, es, c, hl, hp, hc, q => by
    have s1 : SeqAt.shaped (.list (dI ds)) = true := shL ds
    have s0 : SeqAt.shaped (.list []) = true := shL []
    unfold whileN
    rfl'
    refine ⟨⟨s1, s0⟩, ?_⟩
    rw [ne_nil_eqv]
    refine in_2 (fun hne => ?_) fun hnil => ?_
    · have hlen : (es ++ ds).length = fs.length := hp.length_eq
      rw [List.length_append] at hlen
      have hpos : 0 < ds.length := List.length_pos_iff.mpr hne
      cases k with
      | zero => omega
      | succ k =>
        rw [dI_len]
        refine c_take (by omega) (by omega) (by omega) fun r c' r0 r1 hc' => ?_
        rfl'
        have hr : r.toNat < ds.length := by omega
        have h4 : (ds.eraseIdx r.toNat).length = ds.length - 1 := List.length_eraseIdx_of_lt hr
        refine ⟨r0, by rw [dI_len]; exact r1, by rw [dI_len]; omega, show (dI es).length < 16777216 by rw [dI_len]; omega, .int ds[r.toNat], dI_get (List.getElem?_eq_getElem hr), ?_⟩
        rw [dI_erase, dI_snoc]
        exact strewn2_loop hfs k (ds.eraseIdx r.toNat) (es ++ [ds[r.toNat]]) c' (by omega) (perm_popI hr hp) (by omega) fun es c2 h1 h2 => q es c2 h1 (by omega)
    · subst hnil
      rw [List.append_nil] at hp
      exact q es c hp (by omega)
theorem lay_tupsG : ∀ a : List (List Int), PyData.canLayAll0 (dT a) = true
  | [] => by simp [PyData.canLayAll0]
  | x :: a => by
    show PyData.canLayAll0 (.tuple (dI x) :: dT a) = true
    simp only [PyData.canLayAll0, PyData.canLay0, lay_tupsG a, lay_ints, Bool.and_self]
theorem depth_tupsG : ∀ a : List (List Int), PyData.depthAll (dT a) ≤ 1
  | [] => by simp [PyData.depthAll]
  | x :: a => by
    have := depth_tupsG a
    show PyData.depthAll (.tuple (dI x) :: dT a) ≤ 1
    simp only [PyData.depthAll, PyData.depth, depth_ints]
    omega
theorem shG (a : List (List Int)) : SeqAt.shaped (.list (dT a)) = true := by
  unfold SeqAt.shaped
  have := depth_tupsG a
  simp only [PyData.canLay0, PyData.depth, lay_tupsG, Bool.true_and]
  exact decide_eq_true (by omega)
theorem eqv_nilG : ∀ a : List (List Int), PyData.eqv (.list (dT a)) (.list []) = decide (a = [])
  | [] => by simp [PyData.eqv, PyData.eqvAll]
  | x :: a => by
    show PyData.eqv (.list (.tuple (dI x) :: dT a)) (.list []) = _
    simp [PyData.eqv, PyData.eqvAll]
theorem perm_popG {α : Type} {ds es fs : List α} {i : Nat} (hi : i < ds.length) (hp : (es ++ ds).Perm fs) : ((es ++ [ds[i]]) ++ ds.eraseIdx i).Perm fs := by
  refine List.Perm.trans ?_ hp
  rw [List.append_assoc]
  exact List.Perm.append_left es (erase_perm ds i hi)
theorem erase_mapG : ∀ (l : List (List Int)) (k : Nat), (dT l).eraseIdx k = dT (l.eraseIdx k)
  | [], _ => rfl
  | _ :: _, 0 => rfl
  | x :: l, k + 1 => by
    show .tuple (dI x) :: (dT l).eraseIdx k = .tuple (dI x) :: dT (l.eraseIdx k)
    rw [erase_mapG l k]
theorem dT_lenG (a : List (List Int)) : (dT a).length = a.length := List.length_map ..
theorem strewn3_loop {x : SV} {Δ : DEnds} {fs : List (List Int)} (hfs : fs.length ≤ 100000) :
    ∀ (k : Nat) (ds es : List (List Int)) (c : Nat), ds.length = k → (es ++ ds).Perm fs → c + 3 * ds.length ≤ 900000000 → (∀ es c', es.Perm fs → c' ≤ c + 3 * ds.length → Δ.nx ⟨[.bx, x, .ow [], .ow (dT es)], c'⟩) →
      whileN (dTest (dOp (φEq true) (dVar 2) (dLst dNil))) (dAppPop 3 2 (dCall p_law_take (dCons (dVar 0) (dCons (dCB φLen (dCons (dVar 2) dNil)) dNil)))) Δ (k + 1) ⟨[.bx, x, .ow (dT ds), .ow (dT es)], c⟩
  | k, ds, es, c, hl, hp, hc, q => by
    have s1 : SeqAt.shaped (.list (dT ds)) = true := shG ds
    have s0 : SeqAt.shaped (.list []) = true := shL []
    unfold whileN
    rfl'
    refine ⟨⟨s1, s0⟩, ?_⟩
    rw [eqv_nilG]
    refine in_2 (fun hne => ?_) fun hnil => ?_
    · have hlen : (es ++ ds).length = fs.length := hp.length_eq
      rw [List.length_append] at hlen
      have hpos : 0 < ds.length := List.length_pos_iff.mpr hne
      cases k with
      | zero => omega
      | succ k =>
        rw [dT_lenG]
        refine c_take (by omega) (by omega) (by omega) fun r c' r0 r1 hc' => ?_
        rfl'
        have hr : r.toNat < ds.length := by omega
        have h4 : (ds.eraseIdx r.toNat).length = ds.length - 1 := List.length_eraseIdx_of_lt hr
        refine ⟨r0, by rw [dT_lenG]; exact r1, by rw [dT_lenG]; omega, show (dT es).length < 16777216 by rw [dT_lenG]; omega, .tuple (dI ds[r.toNat]), by show (List.map _ _)[_]? = _; rw [List.getElem?_map, List.getElem?_eq_getElem hr]; rfl, ?_⟩
        have e1 : (dT ds).eraseIdx r.toNat = dT (ds.eraseIdx r.toNat) := by
          exact erase_mapG ds r.toNat
        have e2 : dT es ++ [PyData.tuple (dI ds[r.toNat])] = dT (es ++ [ds[r.toNat]]) := by
          show _ = List.map _ _
          rw [List.map_append]; rfl
        rw [e1, e2]
        exact strewn3_loop hfs k (ds.eraseIdx r.toNat) (es ++ [ds[r.toNat]]) c' (by omega) (perm_popG hr hp) (by omega) fun es c2 h1 h2 => q es c2 h1 (by omega)
    · subst hnil
      rw [List.append_nil] at hp
      exact q es c hp (by omega)
theorem m_law_strewn_2 : ∀ args c Q, p_law_strewn_2 args c Q → defF k_law_strewn_2 b_law_strewn_2 args c Q := by
  rintro _ c Q (⟨d, ms, rfl, h1, h2, h3, q⟩ | ⟨d, ms, rfl, h1, h2, h3, q⟩)
  · show b_law_strewn_2 _ ⟨[.bx, .sh d, .un, .un], c⟩
    unfold b_law_strewn_2
    refine sq_ ?_
    rfl'
    rw [h1]
    rfl'
    refine sq_ ?_
    rfl'
    refine ⟨ms.length + 1, strewn2_loop (es := []) h2 ms.length ms c rfl (List.Perm.refl _) h3 fun es c' hp hc => ?_⟩
    rfl'
    exact q es c' hp hc
  · show b_law_strewn_2 _ ⟨[.bx, .sh d, .un, .un], c⟩
    unfold b_law_strewn_2
    refine sq_ ?_
    rfl'
    rw [h1]
    rfl'
    refine sq_ ?_
    rfl'
    refine ⟨ms.length + 1, strewn3_loop (es := []) h2 ms.length ms c rfl (List.Perm.refl _) h3 fun es c' hp hc => ?_⟩
    rfl'
    exact q es c' hp hc
end Lp

namespace Lp
open PySem PySem.Spec PyProof.Rows L2
local macro_rules | `(tactic| rfl') => `(tactic| try dsimp only [dVar_, gv_sh, gv_ow, gv_bx, gv_raw, gv_exn, gv_st, dC, dRaw, dOp, dUn, dTest, dTruth, dAnd, dOr, dNot, dYes, dIf, dAndV, dOrV, dNotV, dNotT, dChain, dNil, dCons, dTup, dLst, dats, dCB, dNoP, dPart, dSl, dNext, dBreak, dCont, dNever, dDrop, dRet, dRetN, dIfS, dSetG, dPar, dPar3, dAppend, dAppPop, dSetIx, dExt, dAug, dSet0, dSAdd, dSNotIn, dIter_, gi_l, gi_t, gi_b, dRng1, dRng2, dName, dGNil, dGCons, dGTup, dAsg, dFor, dWhile, dCall, dCallR, dArgs_, ga_f, ga_t, argsOf, dLc, wipeE, dListRg, dIndex, dSortSet, dSortSc, dEnum, dEnA, dZip, dIsi, dIsi2, isaT, φI, φB, φC, φNeg, add_i, add_l, add_t, mul_i, mul_l, φIx, sl_l, sl_t, eq_i, eq_s, eq_l, eq_t, eq_b, eq_n, φIsN, isN_n, isN_b, isN_i, isN_s, isN_l, isN_t, φLen, φList, φTuple, φAbs, φInt, φMax, φIsB, φIsNB, its_l, its_t, rd_sh, rd_nw, rd_br, rp_sh, rp_nw, rp_br, rp_bx, rp_raw, rp_sr, rr_sh, rr_nw, rr_br, ra_sh, ra_br, ra_bx, ra_raw, va_sh, va_nt, va_nf, va_raw, hb_n, hb_sh, hb_bx, hb_raw, hb_br, sh_n, sh_c, tr_n, tr_b, tr_i, tr_l, tr_t, ty_n, ty_b, ty_i, ty_s, ty_l, ty_t, if_ff, if_tt, Env.set, List.getElem?_cons_succ, List.getElem?_cons_zero, List.set_cons_succ, List.set_cons_zero, List.reverse_cons, List.reverse_nil, List.nil_append, List.cons_append, Option.bind_some, ite_true, ite_false])
end Lp

namespace Lp
open PySem PySem.Spec PyProof.Rows L2
local macro_rules | `(tactic| rfl') => `(tactic| try dsimp only [dVar_, gv_sh, gv_ow, gv_bx, gv_raw, gv_exn, gv_st, dC, dRaw, dOp, dUn, dTest, dTruth, dAnd, dOr, dNot, dYes, dIf, dAndV, dOrV, dNotV, dNotT, dChain, dNil, dCons, dTup, dLst, dats, dCB, dNoP, dPart, dSl, dNext, dBreak, dCont, dNever, dDrop, dRet, dRetN, dIfS, dSetG, dPar, dPar3, dAppend, dAppPop, dSetIx, dExt, dAug, dSet0, dSAdd, dSNotIn, dIter_, gi_l, gi_t, gi_b, dRng1, dRng2, dName, dGNil, dGCons, dGTup, dAsg, dFor, dWhile, dCall, dCallR, dArgs_, ga_f, ga_t, argsOf, dLc, wipeE, dListRg, dIndex, dSortSet, dSortSc, dEnum, dEnA, dZip, dIsi, dIsi2, isaT, φI, φB, φC, φNeg, add_i, add_l, add_t, mul_i, mul_l, φIx, sl_l, sl_t, eq_i, eq_s, eq_l, eq_t, eq_b, eq_n, φIsN, isN_n, isN_b, isN_i, isN_s, isN_l, isN_t, φLen, φList, φTuple, φAbs, φInt, φMax, φIsB, φIsNB, its_l, its_t, rd_sh, rd_nw, rd_br, rp_sh, rp_nw, rp_br, rp_bx, rp_raw, rp_sr, rr_sh, rr_nw, rr_br, ra_sh, ra_br, ra_bx, ra_raw, va_sh, va_nt, va_nf, va_raw, hb_n, hb_sh, hb_bx, hb_raw, hb_br, sh_n, sh_c, tr_n, tr_b, tr_i, tr_l, tr_t, ty_n, ty_b, ty_i, ty_s, ty_l, ty_t, if_ff, if_tt, Env.set, List.getElem?_cons_succ, List.getElem?_cons_zero, List.set_cons_succ, List.set_cons_zero, List.reverse_cons, List.reverse_nil, List.nil_append, List.cons_append, Option.bind_some, ite_true, ite_false])
/-- _law_same: _law_found, _law_due_here, _law_mine, _law_its -/
def b_law_same_3 (p_law_same_3 : DSp) : DTS := (dSeq (dIfS (dTruth (dIsi2 "list" "tuple" (dVar 1))) (dSeq (dIfS (dOr (dTest (dOp (φEq true) (dIsi "list" (dVar 0)) (dIsi "list" (dVar 1)))) (dTest (dOp (φEq true) (dIsi "tuple" (dVar 0)) (dIsi "tuple" (dVar 1))))) (dRet (dC (.bool false))) dNext)
  (dRet (dAndV (dOp (φEq false) (dCB φLen (dCons (dVar 0) dNil)) (dCB φLen (dCons (dVar 1) dNil))) (dCB (φAll false) (dCons (dLc (dZip (dCons (dVar 0) (dCons (dVar 1) dNil))) (dGTup 2 (dGCons (dName 2) (dGCons (dName 3) dGNil))) dYes (dCall p_law_same_3 (dCons (dVar 2) (dCons (dVar 3) dNil))) [2, 3]) dNil))))) dNext)
  (dSeq (dIfS (dOr (dTest (dOp (φIsN false) (dVar 1) (dC .none))) (dTruth (dIsi2 "bool" "str" (dVar 1)))) (dRet (dAndV (dOp (φEq false) (dVar 0) (dVar 1)) (dAndV (dOp (φEq false) (dIsi "bool" (dVar 0)) (dIsi "bool" (dVar 1))) (dOp (φEq false) (dOp (φIsN false) (dVar 0) (dC .none)) (dOp (φIsN false) (dVar 1) (dC .none)))))) dNext)
  (dRet (dAndV (dIsi "int" (dVar 0)) (dAndV (dNotV (dIsi "bool" (dVar 0))) (dOp (φEq false) (dVar 0) (dVar 1)))))))
abbrev k_law_same_3 : Nat := 2
def p_law_same_3 (k : Nat) : DSp := p_law_same k
theorem mon_law_same_3 (k : Nat) : MonF (p_law_same_3 k) := mon_law_same k
theorem m_law_same_3 {k : Nat} : ∀ args c Q, p_law_same_3 (k + 1) args c Q → defF k_law_same_3 (b_law_same_3 (p_law_same_3 k)) args c Q := by
  rintro _ c Q ⟨a, _, rfl, rfl, hk, q⟩
  show b_law_same_3 (p_law_same k) _ ⟨[.sh a, .sh a, .un, .un], c⟩
  unfold b_law_same_3
  refine sq_ ?_
  cases a with
  | none =>
    rfl'
    refine if_f (by decide +kernel) ?_
    refine sq_ ?_
    rfl'
    refine ⟨⟨rfl, rfl⟩, ?_⟩
    refine if_t (by rfl) ?_
    refine ⟨⟨rfl, rfl⟩, ?_⟩
    refine if_t (by rfl) ?_
    exact ⟨⟨rfl, rfl⟩, q⟩
  | bool b =>
    rfl'
    refine if_f (by decide +kernel) ?_
    refine sq_ ?_
    rfl'
    refine if_f (by decide +kernel) ?_
    refine if_t (by decide +kernel) ?_
    refine ⟨⟨rfl, rfl⟩, ?_⟩
    rw [eqv_self_b]
    refine if_t (by rfl) ?_
    refine ⟨⟨rfl, rfl⟩, ?_⟩
    refine if_t (by rfl) ?_
    exact ⟨⟨rfl, rfl⟩, q⟩
  | int z =>
    rfl'
    refine if_f (by decide +kernel) ?_
    refine sq_ ?_
    rfl'
    refine if_f (by decide +kernel) ?_
    refine if_f (by decide +kernel) ?_
    refine if_t (by decide +kernel) ?_
    refine if_t (by decide +kernel) ?_
    rw [decide_eq_true rfl]
    exact q
  | str x =>
    rfl'
    refine if_f (by decide +kernel) ?_
    refine sq_ ?_
    rfl'
    refine if_f (by decide +kernel) ?_
    refine if_t (by decide +kernel) ?_
    refine if_t (decide_eq_true rfl) ?_
    refine ⟨⟨rfl, rfl⟩, ?_⟩
    refine if_t (by rfl) ?_
    exact ⟨⟨rfl, rfl⟩, q⟩
  | list ds =>
    obtain ⟨h1, h2⟩ := dep_list hk
    rfl'
    refine if_t (by decide +kernel) ?_
    refine sq_ ?_
    rfl'
    refine ⟨⟨rfl, rfl⟩, ?_⟩
    refine if_f (by rfl) ?_
    refine ⟨⟨rfl, rfl⟩, ?_⟩
    refine if_f (by rfl) ?_
    refine if_t (decide_eq_true rfl) ?_
    refine same_seq h2 (by omega) ⟨_, _, rfl⟩ ?_
    rfl'
    rw [dB_map ds fun _ => true]
    refine φAll_dB ?_
    rw [if_neg (by decide), (all_true ds).2]
    exact q
  | tuple ds =>
    obtain ⟨h1, h2⟩ := dep_tuple hk
    rfl'
    refine if_t (by decide +kernel) ?_
    refine sq_ ?_
    rfl'
    refine ⟨⟨rfl, rfl⟩, ?_⟩
    refine if_f (by rfl) ?_
    refine ⟨⟨rfl, rfl⟩, ?_⟩
    refine if_f (by rfl) ?_
    refine if_t (decide_eq_true rfl) ?_
    refine same_seq h2 (by omega) ⟨_, _, rfl⟩ ?_
    rfl'
    rw [dB_map ds fun _ => true]
    refine φAll_dB ?_
    rw [if_neg (by decide), (all_true ds).2]
    exact q
  | dict _ => unfold dep at hk; cases hk
/-- _law_random_state: _law_source, _law_size, _law_order, _law_kind, _law_spot, _law_found, _law_half, _law_at, _law_some -/
def b_law_random_state : DTS := (dSeq (dPar 2 false 3 false (dCall p_law_strewn_2 (dCons (dVar 0) (dCons (dListRg (dVar 1)) dNil))) (dCall p_law_take (dCons (dVar 0) (dCons (dC (.int 8)) dNil))))
  (dSeq (dIfS (dTest (dOp (φB fun i j => decide (i < j)) (dVar 3) (dC (.int 2)))) (dRet (dCB φTuple (dCons (dLc (dIter (dVar 2)) (dName 4) dYes (dCall p_law_take (dCons (dVar 0) (dCons (dVar 1) dNil))) [4]) dNil))) dNext)
  (dSeq (dIfS (dTest (dOp (φEq false) (dVar 3) (dC (.int 7)))) (dRet (dCB φTuple (dCons (dCall p_law_strewn_2 (dCons (dVar 0) (dCons (dVar 2) dNil))) dNil))) dNext)
  (dSeq (dPar 5 true 6 false (dOp φMul (dLst (dCons (dC (.int 0)) dNil)) (dVar 1)) (dCB φMax (dCons (dC (.int 1)) (dCons (dOp (φC CDivW fun i j => i / j) (dVar 1) (dC (.int 2))) dNil))))
  (dSeq (dFor (dEnA (dCons (dVar 2) dNil)) (dGTup 2 (dGCons (dName 7) (dGCons (dName 4) dGNil))) (dSeq (dSetG true 8 (dLst (dCons (dOp φIx (dVar 2) (dOp (φC (fun _ j => 0 < j) fun i j => i % j) (dOp φAdd (dVar 7) (dC (.int 1))) (dVar 1))) (dCons (dOp φIx (dVar 2) (dCB φMax (dCons (dC (.int 0)) (dCons (dOp (φI fun i j => i - j) (dVar 7) (dC (.int 1))) dNil)))) (dCons (dOp φIx (dVar 2) (dCB φMax (dCons (dC (.int 0)) (dCons (dOp (φI fun i j => i - j) (dOp (φI fun i j => i - j) (dVar 7) (dC (.int 1))) (dCall p_law_take (dCons (dVar 0) (dCons (dC (.int 3)) dNil)))) dNil)))) dNil)))))
  (dSeq (dAppend 8 (dOp φIx (dVar 2) (dCall p_law_take (dCons (dVar 0) (dCons (dOp φAdd (dC (.int 1)) (dOp (φC CDivW fun i j => i / j) (dVar 1) (dC (.int 4)))) dNil)))))
  (dSeq (dAppend 8 (dIf (dTest (dOp (φB fun i j => decide (i < j)) (dVar 7) (dVar 6))) (dOp φIx (dVar 2) (dOp (φC (fun _ j => 0 < j) fun i j => i % j) (dOp φAdd (dVar 7) (dC (.int 1))) (dVar 6))) (dOp φIx (dVar 2) (dCall p_law_take (dCons (dVar 0) (dCons (dVar 7) dNil))))))
  (dSetIx 5 (dOp φIx (dVar 8) (dOp (φI fun i j => i - j) (dVar 3) (dC (.int 2)))) (dVar 4))))))
  (dRet (dCB φTuple (dCons (dVar 5) dNil))))))))
abbrev k_law_random_state : Nat := 7
def p_law_random_state : DSp := fun args c Q => ∃ n : Int, args = [.bx, .sh (.int n)] ∧ 1 ≤ n ∧ n ≤ 1000 ∧ c ≤ 800000000 ∧ ∀ ns c', Stt ns → (ns.length : Int) = n → c' ≤ c + 15000 → Q (.sh (.tuple (dI ns))) c'
theorem mon_law_random_state : MonF p_law_random_state := fun args c A B h ⟨n, e, h1, h2, h3, q⟩ => ⟨n, e, h1, h2, h3, fun r c' a b d => h _ _ (q r c' a b d)⟩
abbrev rs_body : DTS := (dSeq (dSetG true 8 (dLst (dCons (dOp φIx (dVar 2) (dOp (φC (fun _ j => 0 < j) fun i j => i % j) (dOp φAdd (dVar 7) (dC (.int 1))) (dVar 1))) (dCons (dOp φIx (dVar 2) (dCB φMax (dCons (dC (.int 0)) (dCons (dOp (φI fun i j => i - j) (dVar 7) (dC (.int 1))) dNil)))) (dCons (dOp φIx (dVar 2) (dCB φMax (dCons (dC (.int 0)) (dCons (dOp (φI fun i j => i - j) (dOp (φI fun i j => i - j) (dVar 7) (dC (.int 1))) (dCall p_law_take (dCons (dVar 0) (dCons (dC (.int 3)) dNil)))) dNil)))) dNil)))))
  (dSeq (dAppend 8 (dOp φIx (dVar 2) (dCall p_law_take (dCons (dVar 0) (dCons (dOp φAdd (dC (.int 1)) (dOp (φC CDivW fun i j => i / j) (dVar 1) (dC (.int 4)))) dNil)))))
  (dSeq (dAppend 8 (dIf (dTest (dOp (φB fun i j => decide (i < j)) (dVar 7) (dVar 6))) (dOp φIx (dVar 2) (dOp (φC (fun _ j => 0 < j) fun i j => i % j) (dOp φAdd (dVar 7) (dC (.int 1))) (dVar 6))) (dOp φIx (dVar 2) (dCall p_law_take (dCons (dVar 0) (dCons (dVar 7) dNil))))))
  (dSetIx 5 (dOp φIx (dVar 8) (dOp (φI fun i j => i - j) (dVar 3) (dC (.int 2)))) (dVar 4)))))
theorem rs_loop {n k h : Int} {row : List Int} {Δ : DEnds} (n1 : 1 ≤ n) (n2 : n ≤ 1000) (k2 : 2 ≤ k) (k6 : k ≤ 6) (h1 : 1 ≤ h) (h2 : h ≤ n) (hrow : NetOk n.toNat row) :
    ∀ (ps : List (Int × Nat)) (fs : List Int) (x4 x7 x8 : SV) (c : Nat), (∀ q ∈ ps, row[q.2]? = some q.1) → NetOk n.toNat fs → c + 9 * ps.length ≤ 850000000 →
      (∀ fs c' x4 x7 x8, NetOk n.toNat fs → c' ≤ c + 9 * ps.length → Δ.nx ⟨[.bx, .sh (.int n), .sh (.list (dI row)), .sh (.int k), x4, .ow (dI fs), .sh (.int h), x7, x8], c'⟩) →
      forD (dGTup 2 (dGCons (dName 7) (dGCons (dName 4) dGNil))) rs_body Δ (ps.map fun p => .tuple [.int (p.2 : Nat), .int p.1]) ⟨[.bx, .sh (.int n), .sh (.list (dI row)), .sh (.int k), x4, .ow (dI fs), .sh (.int h), x7, x8], c⟩
  | [], fs, x4, x7, x8, c, _, hf, _, q => q fs c x4 x7 x8 hf (by omega)
  | (w, a) :: ps, fs, x4, x7, x8, c, hps, hf, hc, q => by
    rw [List.length_cons] at hc
    have ha : row[a]? = some w := hps (w, a) List.mem_cons_self
    have hw : 0 ≤ w ∧ w < ((n.toNat : Nat) : Int) := hrow.2 w (List.mem_of_getElem? ha)
    have ha2 : a < row.length := (List.getElem?_eq_some_iff.mp ha).1
    have hl := hrow.1
    have fl := hf.1
    have step : ∀ (v : Int) (c' : Nat) (x8 : SV), 0 ≤ v → v < n → c' ≤ c + 9 → ∃ m, ixN (dI fs).length w = some m ∧ forD (dGTup 2 (dGCons (dName 7) (dGCons (dName 4) dGNil))) rs_body Δ (ps.map fun p => .tuple [.int (p.2 : Nat), .int p.1]) ⟨[.bx, .sh (.int n), .sh (.list (dI row)), .sh (.int k), .sh (.int w), .ow ((dI fs).set m (.int v)), .sh (.int h), .sh (.int (a : Nat)), x8], c'⟩ := by
      intro v c' x8 v0 v1 hc'
      refine ⟨w.toNat, ixN_ok hw.1 (by rw [dI_len, fl]; exact hw.2), ?_⟩
      rw [dI_set]
      refine rs_loop n1 n2 k2 k6 h1 h2 hrow ps (fs.set w.toNat v) _ _ _ c' (fun q hq => hps q (List.mem_cons_of_mem _ hq)) ⟨by rw [List.length_set]; exact fl, hf.2.set v0 (by omega)⟩ (by omega) fun gs c2 x4 x7 x8 h1 h2 => q gs c2 x4 x7 x8 h1 (by rw [List.length_cons]; omega)
    have ixr : ∀ i : Int, 0 ≤ i → i < n → ∃ z, atI (dI row) i = some (.int z) ∧ 0 ≤ z ∧ z < n := fun i h0 h1 => by
      have h2 : i < (row.length : Int) := by omega
      have := gt_low hrow.2 h0 h2
      exact ⟨_, atI_dI h0 h2, this.1, by omega⟩
    refine for_cons ?_
    rfl'
    refine ⟨rfl, ?_⟩
    have m0 := Int.emod_nonneg ((a : Int) + 1) (show n ≠ 0 by omega)
    have m1 := Int.emod_lt_of_pos ((a : Int) + 1) (show 0 < n by omega)
    obtain ⟨z1, e1, z10, z11⟩ := ixr (((a : Int) + 1) % n) m0 m1
    refine sq_ ?_
    rfl'
    refine ⟨by omega, .int z1, e1, ?_⟩
    have al : (a : Int) < n := by omega
    obtain ⟨z2, e2, z20, z21⟩ := ixr (if (a : Int) - 1 > 0 then (a : Int) - 1 else 0) (by split <;> omega) (by split <;> omega)
    refine ⟨.int z2, e2, ?_⟩
    refine c_take (by decide) (by decide) (by omega) fun r c1 r0 r1 hc1 => ?_
    rfl'
    obtain ⟨z3, e3, z30, z31⟩ := ixr (if (a : Int) - 1 - r > 0 then (a : Int) - 1 - r else 0) (by split <;> omega) (by split <;> omega)
    refine ⟨.int z3, e3, ?_⟩
    refine sq_ ?_
    rfl'
    refine ⟨⟨by decide, by decide⟩, ?_⟩
    refine c_take (by omega) (by omega) (by omega) fun r4 c2 r40 r41 hc2 => ?_
    rfl'
    obtain ⟨z4, e4, z40, z41⟩ := ixr r4 r40 (by omega)
    refine ⟨.int z4, e4, (by show 3 < 16777216; decide), ?_⟩
    have fin : ∀ (z5 : Int) (c3 : Nat), 0 ≤ z5 → z5 < n → c3 ≤ c + 9 → ∃ d, atI [PyData.int z1, .int z2, .int z3, .int z4, .int z5] (k - 2) = some d ∧ ∃ m, ixN (dI fs).length w = some m ∧ forD (dGTup 2 (dGCons (dName 7) (dGCons (dName 4) dGNil))) rs_body Δ (ps.map fun p => .tuple [.int (p.2 : Nat), .int p.1]) ⟨[.bx, .sh (.int n), .sh (.list (dI row)), .sh (.int k), .sh (.int w), .ow ((dI fs).set m d), .sh (.int h), .sh (.int (a : Nat)), .ow [PyData.int z1, .int z2, .int z3, .int z4, .int z5]], c3⟩ := by
      intro z5 c3 z50 z51 hc3
      have : k = 2 ∨ k = 3 ∨ k = 4 ∨ k = 5 ∨ k = 6 := by omega
      rcases this with rfl | rfl | rfl | rfl | rfl
      · exact ⟨_, rfl, step z1 c3 _ z10 z11 hc3⟩
      · exact ⟨_, rfl, step z2 c3 _ z20 z21 hc3⟩
      · exact ⟨_, rfl, step z3 c3 _ z30 z31 hc3⟩
      · exact ⟨_, rfl, step z4 c3 _ z40 z41 hc3⟩
      · exact ⟨_, rfl, step z5 c3 _ z50 z51 hc3⟩
    refine sq_ ?_
    rfl'
    refine it_2 (fun hh => ?_) fun hh => ?_
    · have p0 := Int.emod_nonneg ((a : Int) + 1) (show h ≠ 0 by omega)
      have p1 := Int.emod_lt_of_pos ((a : Int) + 1) (show 0 < h by omega)
      obtain ⟨z5, e5, z50, z51⟩ := ixr (((a : Int) + 1) % h) p0 (by omega)
      refine ⟨by omega, .int z5, e5, (by show 4 < 16777216; decide), ?_⟩
      rfl'
      exact fin z5 c2 z50 z51 (by omega)
    · refine c_take (by omega) (by omega) (by omega) fun r5 c3 r50 r51 hc3 => ?_
      rfl'
      obtain ⟨z5, e5, z50, z51⟩ := ixr r5 r50 (by omega)
      refine ⟨.int z5, e5, (by show 4 < 16777216; decide), ?_⟩
      rfl'
      exact fin z5 c3 z50 z51 (by omega)
theorem m_law_random_state : ∀ args c Q, p_law_random_state args c Q → defF k_law_random_state b_law_random_state args c Q := by
  rintro _ c Q ⟨n, rfl, h1, h2, h3, q⟩
  show b_law_random_state _ ⟨[.bx, .sh (.int n), .un, .un, .un, .un, .un, .un, .un], c⟩
  unfold b_law_random_state
  have fin : ∀ ns c', NetOk n.toNat ns → c' ≤ c + 15000 → Q (.sh (.tuple (dI ns))) c' := fun ns c' ok hc => q ns c' ⟨by rw [ok.1]; exact ok.2, by rw [ok.1]; omega, by rw [ok.1]; omega⟩ (by rw [ok.1]; omega) hc
  refine sq_ ?_
  rfl'
  refine ⟨by omega, by omega, ?_⟩
  have hl0 : (rgD 0 n.toNat).length = n.toNat := by unfold rgD; rw [List.length_map, List.length_range]
  refine .inl ⟨_, (List.range n.toNat).map fun i : Nat => (i : Int), rfl, ?_, by rw [List.length_map, List.length_range]; omega, by rw [List.length_map, List.length_range]; omega, fun row c1 hp hc1 => ?_⟩
  · show some (rgD 0 n.toNat) = _
    unfold rgD dI
    rw [List.map_map]
    congr 1
    refine List.map_congr_left fun i _ => ?_
    simp
  have hrow := perm_low hp
  rw [List.length_map, List.length_range] at hc1
  rfl'
  refine c_take (by decide) (by decide) (by omega) fun k c2 k0 k1 hc2 => ?_
  refine sq_ ?_
  rfl'
  refine it_2 (fun hk => ?_) fun hk => ?_
  · refine lc_draw PyData.int PyData.int (fun _ y => 0 ≤ y ∧ y < n) (N := 3) row [] c2 (fun x hx m hm K hK => ?_) (by show 0 + _ ≤ _; rw [hrow.1]; omega) fun ys m hys hm => ?_
    · rfl'
      rw [hrow.1] at hm
      exact c_take h1 (by omega) (by omega) fun r c3 r0 r1 hc3 => hK _ _ r rfl ⟨r0, r1⟩ hc3
    · rfl'
      rw [hrow.1] at hm
      have hl := hys.len
      refine fin ys m ⟨by rw [hl]; exact hrow.1, fun z hz => ?_⟩ (by omega)
      obtain ⟨x, _, hp⟩ := hys.mem z hz
      omega
  refine sq_ ?_
  rfl'
  refine it_2 (fun h7 => ?_) fun h7 => ?_
  · refine .inl ⟨_, row, rfl, its_l _, by rw [hrow.1]; omega, by rw [hrow.1]; omega, fun es c3 hp3 hc3 => ?_⟩
    rfl'
    rw [hrow.1] at hc3
    exact fin es c3 ⟨by rw [hp3.length_eq]; exact hrow.1, fun z hz => hrow.2 z (hp3.mem_iff.mp hz)⟩ (by omega)
  refine sq_ ?_
  rfl'
  refine ⟨⟨by omega, by omega, show 1 * n.toNat ≤ 16777216 by omega⟩, ?_⟩
  refine ⟨⟨by decide, by decide +kernel⟩, ?_⟩
  refine sq_ ?_
  rfl'
  have hfs : (List.replicate n.toNat [PyData.int 0]).flatten = dI (List.replicate n.toNat 0) := by
    show _ = (List.replicate n.toNat (0 : Int)).map _
    rw [List.map_replicate]
    generalize n.toNat = m
    clear hrow hl0 hc1 hp q fin
    induction m with
    | zero => rfl
    | succ m ih => rw [List.replicate_succ, List.flatten_cons, ih, List.replicate_succ]; rfl
  rw [hfs, enD_dI]
  refine ⟨rfl, rs_loop h1 h2 (by omega) (by omega) (by split <;> omega) (by split <;> omega) hrow row.zipIdx _ _ _ _ c2 (fun q hq => List.mem_zipIdx_iff_getElem?.mp hq) ⟨List.length_replicate, fun z hz => by rw [List.eq_of_mem_replicate hz]; omega⟩ (by rw [List.length_zipIdx, hrow.1]; omega) fun fs c3 x4 x7 x8 h6 h8 => ?_⟩
  rfl'
  rw [List.length_zipIdx, hrow.1] at h8
  exact fin fs c3 h6 (by omega)
end Lp

namespace Lp
open PySem PySem.Spec PyProof.Rows L2
local macro_rules | `(tactic| rfl') => `(tactic| try dsimp only [dVar_, gv_sh, gv_ow, gv_bx, gv_raw, gv_st, dC, dRaw, dOp, dUn, dTest, dTruth, dAnd, dOr, dNot, dYes, dIf, dAndV, dOrV, dNotV, dNotT, dChain, dNil, dCons, dTup, dLst, dats, dCB, dNoP, dPart, dSl, dNext, dBreak, dCont, dNever, dDrop, dRet, dRetN, dIfS, dSetG, dPar, dPar3, dAppend, dAppPop, dSetIx, dExt, dAug, dSet0, dSAdd, dSNotIn, dIter_, gi_l, gi_t, gi_b, dRng1, dRng2, dName, dGNil, dGCons, dGTup, dAsg, dFor, dWhile, dCall, dCallR, dArgs_, ga_f, ga_t, argsOf, dLc, wipeE, dListRg, dIndex, dSortSet, dSortSc, dEnum, dEnA, dZip, dIsi, dIsi2, isaT, φI, φB, φC, φNeg, add_i, add_l, add_t, mul_i, mul_l, φIx, sl_l, sl_t, eq_i, eq_s, eq_l, eq_t, eq_b, eq_n, φIsN, isN_n, isN_b, isN_i, isN_s, isN_l, isN_t, φLen, φList, φTuple, φAbs, φInt, φMax, φIsB, φIsNB, its_l, its_t, rd_sh, rd_nw, rd_br, rp_sh, rp_nw, rp_br, rp_bx, rp_raw, rp_sr, rr_sh, rr_nw, rr_br, ra_sh, ra_br, ra_bx, ra_raw, va_sh, va_nt, va_nf, va_raw, hb_n, hb_sh, hb_bx, hb_raw, hb_br, sh_n, sh_c, tr_n, tr_b, tr_i, tr_l, tr_t, ty_n, ty_b, ty_i, ty_s, ty_l, ty_t, if_ff, if_tt, Env.set, List.getElem?_cons_succ, List.getElem?_cons_zero, List.set_cons_succ, List.set_cons_zero, List.reverse_cons, List.reverse_nil, List.nil_append, List.cons_append, Option.bind_some, ite_true, ite_false])
theorem route_head {gs : List Int} (h : Stt gs) {p : Int} (hp : Per gs p) : ∃ r, routeF gs p = p :: r := by
  obtain ⟨L, e, nd, hin⟩ := h.rt hp
  have l1 := (route_len h hp).1
  rw [e, itrs_len] at l1
  obtain ⟨M, rfl⟩ : ∃ M, L = M + 1 := ⟨L - 1, by omega⟩
  refine ⟨(itrs gs p (M + 1)).tail, ?_⟩
  rw [e]
  unfold itrs
  rw [List.range_succ_eq_map]; rfl
theorem cyc_route {ns : List Int} (h : Stt ns) {x : Int} (hx : Per ns x) {c : Nat} (cy : Cyc ns x c) : routeF ns x = itrs ns x c := by
  refine (h.rt hx).eq ⟨c, rfl, cy.2.2, ?_⟩
  rw [cy.2.1]
  exact itrs_mem.mpr ⟨0, cy.1, rfl⟩
theorem cyc_ring {ns : List Int} (h : Stt ns) {x : Int} (hx : Per ns x) {c : Nat} (cy : Cyc ns x c) : ringF ns x = turnF (itrs ns x c) := ring_at h.lo hx.1 hx.2 cy
theorem mem_turnF {ms : List Int} {z : Int} : z ∈ turnF ms ↔ z ∈ ms := by
  unfold turnF
  rw [List.mem_append, Or.comm, ← List.mem_append, List.take_append_drop]
theorem on_iff {ns : List Int} (h : Stt ns) {x : Int} (hx : Per ns x) : x ∈ ringF ns x ↔ ∃ c, Cyc ns x c := by
  constructor
  · intro hm
    obtain ⟨c, er, cy, _⟩ := headF_form h.lo hx.1 hx.2
    rw [er] at hm
    exact ⟨c, (cy.at hm).1⟩
  · rintro ⟨c, cy⟩
    rw [cyc_ring h hx cy, mem_turnF]
    exact itrs_mem.mpr ⟨0, cy.1, rfl⟩
/-- all new pointers lie on the old ways -/
def OnWays (ns gs : List Int) : Prop := ∀ x, Per ns x → gt gs x ∈ routeF ns (gt ns x)
theorem own_cyc {ns : List Int} (h : Stt ns) {x : Int} (hx : Per ns x) {d : Nat} (cy : Cyc ns x d) : routeF ns (gt ns x) = itrs ns (gt ns x) d ∧ Cyc ns (gt ns x) d := by
  have hm : gt ns x ∈ itrs ns x d := cy.all 1
  have c2 := (cy.at hm).1
  exact ⟨cyc_route h (h.gt hx) c2, c2⟩
/-- at one ring of the state: K is kept as a ring, the others point at earlier ones -/
def LapOk (gs lap : List Int) : Prop := ∃ K T : List Int, K.Sublist lap ∧ K ≠ [] ∧ T.Nodup ∧ (∀ y, y ∈ T ↔ y ∈ lap) ∧ K = T.take K.length ∧
  (∀ i, i < K.length → gt gs (K.getD i 0) = K.getD ((i + 1) % K.length) 0) ∧ ∀ i, K.length ≤ i → i < T.length → ∃ j, j < i ∧ gt gs (T.getD i 0) = T.getD j 0
theorem LapOk.congr {gs gs' lap : List Int} (h : LapOk gs lap) (e : ∀ x ∈ lap, gt gs' x = gt gs x) : LapOk gs' lap := by
  obtain ⟨K, T, h1, h2, h3, h4, h5, h6, h7⟩ := h
  refine ⟨K, T, h1, h2, h3, h4, h5, fun i hi => ?_, fun i hi hj => ?_⟩
  · rw [← h6 i hi]
    refine e _ (h1.subset ?_)
    rw [List.getD_eq_getElem?_getD, List.getElem?_eq_getElem hi]; exact List.getElem_mem _
  · obtain ⟨j, hj1, hj2⟩ := h7 i hi hj
    refine ⟨j, hj1, ?_⟩
    rw [← hj2]
    refine e _ ((h4 _).mp ?_)
    rw [List.getD_eq_getElem?_getD, List.getElem?_eq_getElem hj]; exact List.getElem_mem _
structure Fut (ns gs : List Int) : Prop where
  st : Stt gs
  len : gs.length = ns.length
  off : ∀ x, Per ns x → x ∉ ringF ns x → gt gs x ∈ routeF ns (gt ns x)
  on : ∀ x, Per ns x → x ∈ ringF ns x → LapOk gs (ringF ns x)
theorem ring_way {ns : List Int} (h : Stt ns) {x z : Int} (hx : Per ns x) (hm : x ∈ ringF ns x) (hz : z ∈ ringF ns x) : z ∈ routeF ns (gt ns x) := by
  obtain ⟨c, cy⟩ := (on_iff h hx).mp hm
  obtain ⟨e1, c2⟩ := own_cyc h hx cy
  rw [cyc_ring h hx cy, mem_turnF] at hz
  rw [e1]
  exact ((cy.at (cy.all 1)).2 z).mpr hz
theorem getD_mem {l : List Int} {i : Nat} (h : i < l.length) : l.getD i 0 ∈ l := by
  rw [List.getD_eq_getElem?_getD, List.getElem?_eq_getElem h]; exact List.getElem_mem _
theorem LapOk.in {gs lap : List Int} (h : LapOk gs lap) {x : Int} (hx : x ∈ lap) : gt gs x ∈ lap := by
  obtain ⟨K, T, h1, h2, h3, h4, h5, h6, h7⟩ := h
  have hT := (h4 x).mpr hx
  obtain ⟨i, hi, rfl⟩ := List.mem_iff_getElem.mp hT
  have e : T.getD i 0 = T[i] := by rw [List.getD_eq_getElem?_getD, List.getElem?_eq_getElem hi]; rfl
  by_cases hk : i < K.length
  · have ek : K.getD i 0 = T[i] := by
      rw [h5, List.getD_eq_getElem?_getD, List.getElem?_take_of_lt hk, List.getElem?_eq_getElem hi]; rfl
    rw [← ek, h6 i hk]
    exact h1.subset (getD_mem (Nat.mod_lt _ (by omega)))
  · obtain ⟨j, hj, ej⟩ := h7 i (by omega) hi
    rw [← e, ej]
    exact (h4 _).mp (getD_mem (by omega))
theorem Fut.ways {ns gs : List Int} (h : Stt ns) (f : Fut ns gs) : OnWays ns gs := fun x hx => by
  by_cases hm : x ∈ ringF ns x
  · exact ring_way h hx hm ((f.on x hx hm).in hm)
  · exact f.off x hx hm
/-- the state itself -/
theorem Fut.self {ns : List Int} (h : Stt ns) : Fut ns ns := by
  refine ⟨h, rfl, fun x hx _ => ?_, fun x hx hm => ?_⟩
  · obtain ⟨r, e⟩ := route_head h (h.gt hx)
    rw [e]; exact List.mem_cons_self
  · obtain ⟨c, er, cy, h0, h1⟩ := headF_form h.lo hx.1 hx.2
    have hl : (ringF ns x).length = c := by rw [er, itrs_len]
    have gD : ∀ i, i < c → (ringF ns x).getD i 0 = itr ns (headF ns x) i := fun i hi => by
      rw [er, List.getD_eq_getElem?_getD, itrs_get hi]; rfl
    have c0 := cy.1
    refine ⟨ringF ns x, ringF ns x, List.Sublist.refl _, ring_ne h hx, by rw [er]; exact cy.2.2, fun _ => Iff.rfl, by rw [List.take_length], fun i hi => ?_, fun i hi hj => by omega⟩
    rw [hl] at hi ⊢
    rw [gD i hi, gD _ (Nat.mod_lt _ c0)]
    show itr ns (headF ns x) (i + 1) = _
    by_cases q : i + 1 = c
    · rw [q, Nat.mod_self, cy.2.1]; rfl
    · rw [Nat.mod_eq_of_lt (by omega)]
end Lp

namespace Lp
open PySem PySem.Spec PyProof.Rows L2
local macro_rules | `(tactic| rfl') => `(tactic| try dsimp only [dVar_, gv_sh, gv_ow, gv_bx, gv_raw, gv_st, dC, dRaw, dOp, dUn, dTest, dTruth, dAnd, dOr, dNot, dYes, dIf, dAndV, dOrV, dNotV, dNotT, dChain, dNil, dCons, dTup, dLst, dats, dCB, dNoP, dPart, dSl, dNext, dBreak, dCont, dNever, dDrop, dRet, dRetN, dIfS, dSetG, dPar, dPar3, dAppend, dAppPop, dSetIx, dExt, dAug, dSet0, dSAdd, dSNotIn, dIter_, gi_l, gi_t, gi_b, dRng1, dRng2, dName, dGNil, dGCons, dGTup, dAsg, dFor, dWhile, dCall, dCallR, dArgs_, ga_f, ga_t, argsOf, dLc, wipeE, dListRg, dIndex, dSortSet, dSortSc, dEnum, dEnA, dZip, dIsi, dIsi2, isaT, φI, φB, φC, φNeg, add_i, add_l, add_t, mul_i, mul_l, φIx, sl_l, sl_t, eq_i, eq_s, eq_l, eq_t, eq_b, eq_n, φIsN, isN_n, isN_b, isN_i, isN_s, isN_l, isN_t, φLen, φList, φTuple, φAbs, φInt, φMax, φIsB, φIsNB, its_l, its_t, rd_sh, rd_nw, rd_br, rp_sh, rp_nw, rp_br, rp_bx, rp_raw, rp_sr, rr_sh, rr_nw, rr_br, ra_sh, ra_br, ra_bx, ra_raw, va_sh, va_nt, va_nf, va_raw, hb_n, hb_sh, hb_bx, hb_raw, hb_br, sh_n, sh_c, tr_n, tr_b, tr_i, tr_l, tr_t, ty_n, ty_b, ty_i, ty_s, ty_l, ty_t, if_ff, if_tt, Env.set, List.getElem?_cons_succ, List.getElem?_cons_zero, List.set_cons_succ, List.set_cons_zero, List.reverse_cons, List.reverse_nil, List.nil_append, List.cons_append, Option.bind_some, ite_true, ite_false])
abbrev hds (RS : List (List Int)) : List Int := RS.map fun r => r.headD 0
end Lp

namespace Lp
open PySem PySem.Spec PyProof.Rows L2
local macro_rules | `(tactic| rfl') => `(tactic| try dsimp only [dVar_, gv_sh, gv_ow, gv_bx, gv_raw, gv_exn, gv_st, dC, dRaw, dOp, dUn, dTest, dTruth, dAnd, dOr, dNot, dYes, dIf, dAndV, dOrV, dNotV, dNotT, dChain, dNil, dCons, dTup, dLst, dats, dCB, dNoP, dPart, dSl, dNext, dBreak, dCont, dNever, dDrop, dRet, dRetN, dIfS, dSetG, dPar, dPar3, dAppend, dAppPop, dSetIx, dExt, dAug, dSet0, dSAdd, dSNotIn, dIter_, gi_l, gi_t, gi_b, dRng1, dRng2, dName, dGNil, dGCons, dGTup, dAsg, dFor, dWhile, dCall, dCallR, dArgs_, ga_f, ga_t, argsOf, dLc, wipeE, dListRg, dIndex, dSortSet, dSortSc, dEnum, dEnA, dZip, dIsi, dIsi2, isaT, φI, φB, φC, φNeg, add_i, add_l, add_t, mul_i, mul_l, φIx, sl_l, sl_t, eq_i, eq_s, eq_l, eq_t, eq_b, eq_n, φIsN, isN_n, isN_b, isN_i, isN_s, isN_l, isN_t, φLen, φList, φTuple, φAbs, φInt, φMax, φIsB, φIsNB, its_l, its_t, rd_sh, rd_nw, rd_br, rp_sh, rp_nw, rp_br, rp_bx, rp_raw, rp_sr, rr_sh, rr_nw, rr_br, ra_sh, ra_br, ra_bx, ra_raw, va_sh, va_nt, va_nf, va_raw, hb_n, hb_sh, hb_bx, hb_raw, hb_br, sh_n, sh_c, tr_n, tr_b, tr_i, tr_l, tr_t, ty_n, ty_b, ty_i, ty_s, ty_l, ty_t, if_ff, if_tt, Env.set, List.getElem?_cons_succ, List.getElem?_cons_zero, List.set_cons_succ, List.set_cons_zero, List.reverse_cons, List.reverse_nil, List.nil_append, List.cons_append, Option.bind_some, ite_true, ite_false])
end Lp

namespace Lp
open PySem PySem.Spec PyProof.Rows L2
local macro_rules | `(tactic| rfl') => `(tactic| try dsimp only [dVar_, gv_sh, gv_ow, gv_bx, gv_raw, gv_st, dC, dRaw, dOp, dUn, dTest, dTruth, dAnd, dOr, dNot, dYes, dIf, dAndV, dOrV, dNotV, dNotT, dChain, dNil, dCons, dTup, dLst, dats, dCB, dNoP, dPart, dSl, dNext, dBreak, dCont, dNever, dDrop, dRet, dRetN, dIfS, dSetG, dPar, dPar3, dAppend, dAppPop, dSetIx, dExt, dAug, dSet0, dSAdd, dSNotIn, dIter_, gi_l, gi_t, gi_b, dRng1, dRng2, dName, dGNil, dGCons, dGTup, dAsg, dFor, dWhile, dCall, dCallR, dArgs_, ga_f, ga_t, argsOf, dLc, wipeE, dListRg, dIndex, dSortSet, dSortSc, dEnum, dEnA, dZip, dIsi, dIsi2, isaT, φI, φB, φC, φNeg, add_i, add_l, add_t, mul_i, mul_l, φIx, sl_l, sl_t, eq_i, eq_s, eq_l, eq_t, eq_b, eq_n, φIsN, isN_n, isN_b, isN_i, isN_s, isN_l, isN_t, φLen, φList, φTuple, φAbs, φInt, φMax, φIsB, φIsNB, its_l, its_t, rd_sh, rd_nw, rd_br, rp_sh, rp_nw, rp_br, rp_bx, rp_raw, rp_sr, rr_sh, rr_nw, rr_br, ra_sh, ra_br, ra_bx, ra_raw, va_sh, va_nt, va_nf, va_raw, hb_n, hb_sh, hb_bx, hb_raw, hb_br, sh_n, sh_c, tr_n, tr_b, tr_i, tr_l, tr_t, ty_n, ty_b, ty_i, ty_s, ty_l, ty_t, if_ff, if_tt, Env.set, List.getElem?_cons_succ, List.getElem?_cons_zero, List.set_cons_succ, List.set_cons_zero, List.reverse_cons, List.reverse_nil, List.nil_append, List.cons_append, Option.bind_some, ite_true, ite_false])
end Lp

namespace Lp
open PySem PySem.Spec PyProof.Rows L2
local macro_rules | `(tactic| rfl') => `(tactic| try dsimp only [dVar_, gv_sh, gv_ow, gv_bx, gv_raw, gv_st, dC, dRaw, dOp, dUn, dTest, dTruth, dAnd, dOr, dNot, dYes, dIf, dAndV, dOrV, dNotV, dNotT, dChain, dNil, dCons, dTup, dLst, dats, dCB, dNoP, dPart, dSl, dNext, dBreak, dCont, dNever, dDrop, dRet, dRetN, dIfS, dSetG, dPar, dPar3, dAppend, dAppPop, dSetIx, dExt, dAug, dSet0, dSAdd, dSNotIn, dIter_, gi_l, gi_t, gi_b, dRng1, dRng2, dName, dGNil, dGCons, dGTup, dAsg, dFor, dWhile, dCall, dCallR, dArgs_, ga_f, ga_t, argsOf, dLc, wipeE, dListRg, dIndex, dSortSet, dSortSc, dEnum, dEnA, dZip, dIsi, dIsi2, isaT, φI, φB, φC, φNeg, add_i, add_l, add_t, mul_i, mul_l, φIx, sl_l, sl_t, eq_i, eq_s, eq_l, eq_t, eq_b, eq_n, φIsN, isN_n, isN_b, isN_i, isN_s, isN_l, isN_t, φLen, φList, φTuple, φAbs, φInt, φMax, φIsB, φIsNB, its_l, its_t, rd_sh, rd_nw, rd_br, rp_sh, rp_nw, rp_br, rp_bx, rp_raw, rp_sr, rr_sh, rr_nw, rr_br, ra_sh, ra_br, ra_bx, ra_raw, va_sh, va_nt, va_nf, va_raw, hb_n, hb_sh, hb_bx, hb_raw, hb_br, sh_n, sh_c, tr_n, tr_b, tr_i, tr_l, tr_t, ty_n, ty_b, ty_i, ty_s, ty_l, ty_t, if_ff, if_tt, Env.set, List.getElem?_cons_succ, List.getElem?_cons_zero, List.set_cons_succ, List.set_cons_zero, List.reverse_cons, List.reverse_nil, List.nil_append, List.cons_append, Option.bind_some, ite_true, ite_false])
theorem Stt.call {ns : List Int} (h : Stt ns) {w : Int} (hw : Per ns w) : Stt (call1 ns w) := by
  have e := call1_len ns w
  exact ⟨by rw [e]; exact call1_low h.lo rfl hw.1 hw.2, by rw [e]; exact h.le, by rw [e]; exact h.ge⟩
theorem gt_set {gs : List Int} {w x v : Int} (w0 : 0 ≤ w) (w1 : w < (gs.length : Int)) (x0 : 0 ≤ x) : gt (gs.set w.toNat v) x = if x = w then v else gt gs x := by
  unfold gt
  rw [List.getD_eq_getElem?_getD, List.getD_eq_getElem?_getD, List.getElem?_set]
  by_cases e : x = w
  · subst e
    rw [if_pos rfl, if_pos rfl, if_pos (by omega)]; rfl
  · rw [if_neg (by omega), if_neg e]
section
variable {x0 x1 x2 x3 x4 x5 x6 x7 x8 : SV} {Δ : DEnds}
/-- the others of the lap, one after another -/
structure Tied (n : Nat) (g0 gs T : List Int) (k : Nat) : Prop where
  len : gs.length = n
  lo : Low n gs
  nd : T.Nodup
  per : ∀ z ∈ T, 0 ≤ z ∧ z < (n : Int)
  kl : k ≤ T.length
  k0 : 0 < k
  hook : ∀ i, k ≤ i → i < T.length → ∃ j, j < i ∧ gt gs (T.getD i 0) = T.getD j 0
  same : ∀ x, 0 ≤ x → x ∉ T.drop k → gt gs x = gt g0 x
theorem Tied.snoc {n : Nat} {g0 gs T : List Int} {k : Nat} (h : Tied n g0 gs T k) {w v : Int} (hw : w ∉ T) (w0 : 0 ≤ w) (w1 : w < (n : Int)) (hv : v ∈ T) : Tied n g0 (gs.set w.toNat v) (T ++ [w]) k := by
  have wl : w < (gs.length : Int) := by rw [h.len]; exact w1
  have vp := h.per v hv
  refine ⟨by rw [List.length_set]; exact h.len, h.lo.set vp.1 vp.2, Nodup.snoc h.nd hw, fun z hz => ?_, by rw [List.length_append]; have := h.kl; omega, h.k0, fun i hi ht => ?_, fun x x0 hx => ?_⟩
  · rcases List.mem_append.mp hz with q | q
    · exact h.per z q
    · rw [List.mem_singleton.mp q]; exact ⟨w0, w1⟩
  · rw [List.length_append, List.length_singleton] at ht
    by_cases q : i < T.length
    · obtain ⟨j, hj, e⟩ := h.hook i hi q
      have m1 : T.getD i 0 ∈ T := getD_mem q
      have g1 : (T ++ [w]).getD i 0 = T.getD i 0 := by rw [List.getD_eq_getElem?_getD, List.getD_eq_getElem?_getD, List.getElem?_append_left q]
      have g2 : (T ++ [w]).getD j 0 = T.getD j 0 := by rw [List.getD_eq_getElem?_getD, List.getD_eq_getElem?_getD, List.getElem?_append_left (by omega)]
      refine ⟨j, hj, ?_⟩
      rw [g1, g2, gt_set w0 wl (h.per _ m1).1, if_neg (fun z => hw (by rw [← z]; exact m1)), e]
    · have e : i = T.length := by omega
      obtain ⟨j, hj, ej⟩ := List.mem_iff_getElem.mp hv
      have g1 : (T ++ [w]).getD i 0 = w := by rw [e, List.getD_eq_getElem?_getD, List.getElem?_concat_length]; rfl
      have g2 : (T ++ [w]).getD j 0 = v := by rw [List.getD_eq_getElem?_getD, List.getElem?_append_left hj, List.getElem?_eq_getElem hj, ej]; rfl
      refine ⟨j, by omega, ?_⟩
      rw [g1, g2, gt_set w0 wl w0, if_pos rfl]
  · have hk := h.kl
    rw [List.drop_append_of_le_length hk] at hx
    have hx1 : x ∉ T.drop k := fun z => hx (List.mem_append_left _ z)
    have hx2 : x ≠ w := fun z => hx (List.mem_append_right _ (by rw [z]; exact List.mem_singleton.mpr rfl))
    rw [gt_set w0 wl x0, if_neg hx2, h.same x x0 hx1]
end
end Lp

namespace Lp
open PySem PySem.Spec PyProof.Rows L2
local macro_rules | `(tactic| rfl') => `(tactic| try dsimp only [dVar_, gv_sh, gv_ow, gv_bx, gv_raw, gv_exn, gv_st, dC, dRaw, dOp, dUn, dTest, dTruth, dAnd, dOr, dNot, dYes, dIf, dAndV, dOrV, dNotV, dNotT, dChain, dNil, dCons, dTup, dLst, dats, dCB, dNoP, dPart, dSl, dNext, dBreak, dCont, dNever, dDrop, dRet, dRetN, dIfS, dSetG, dPar, dPar3, dAppend, dAppPop, dSetIx, dExt, dAug, dSet0, dSAdd, dSNotIn, dIter_, gi_l, gi_t, gi_b, dRng1, dRng2, dName, dGNil, dGCons, dGTup, dAsg, dFor, dWhile, dCall, dCallR, dArgs_, ga_f, ga_t, argsOf, dLc, wipeE, dListRg, dIndex, dSortSet, dSortSc, dEnum, dEnA, dZip, dIsi, dIsi2, isaT, φI, φB, φC, φNeg, add_i, add_l, add_t, mul_i, mul_l, φIx, sl_l, sl_t, eq_i, eq_s, eq_l, eq_t, eq_b, eq_n, φIsN, isN_n, isN_b, isN_i, isN_s, isN_l, isN_t, φLen, φList, φTuple, φAbs, φInt, φMax, φIsB, φIsNB, its_l, its_t, rd_sh, rd_nw, rd_br, rp_sh, rp_nw, rp_br, rp_bx, rp_raw, rp_sr, rr_sh, rr_nw, rr_br, ra_sh, ra_br, ra_bx, ra_raw, va_sh, va_nt, va_nf, va_raw, hb_n, hb_sh, hb_bx, hb_raw, hb_br, sh_n, sh_c, tr_n, tr_b, tr_i, tr_l, tr_t, ty_n, ty_b, ty_i, ty_s, ty_l, ty_t, if_ff, if_tt, Env.set, List.getElem?_cons_succ, List.getElem?_cons_zero, List.set_cons_succ, List.set_cons_zero, List.reverse_cons, List.reverse_nil, List.nil_append, List.cons_append, Option.bind_some, ite_true, ite_false])
end Lp

namespace Lp
open PySem PySem.Spec PyProof.Rows L2
local macro_rules | `(tactic| rfl') => `(tactic| try dsimp only [dVar_, gv_sh, gv_ow, gv_bx, gv_raw, gv_st, dC, dRaw, dOp, dUn, dTest, dTruth, dAnd, dOr, dNot, dYes, dIf, dAndV, dOrV, dNotV, dNotT, dChain, dNil, dCons, dTup, dLst, dats, dCB, dNoP, dPart, dSl, dNext, dBreak, dCont, dNever, dDrop, dRet, dRetN, dIfS, dSetG, dPar, dPar3, dAppend, dAppPop, dSetIx, dExt, dAug, dSet0, dSAdd, dSNotIn, dIter_, gi_l, gi_t, gi_b, dRng1, dRng2, dName, dGNil, dGCons, dGTup, dAsg, dFor, dWhile, dCall, dCallR, dArgs_, ga_f, ga_t, argsOf, dLc, wipeE, dListRg, dIndex, dSortSet, dSortSc, dEnum, dEnA, dZip, dIsi, dIsi2, isaT, φI, φB, φC, φNeg, add_i, add_l, add_t, mul_i, mul_l, φIx, sl_l, sl_t, eq_i, eq_s, eq_l, eq_t, eq_b, eq_n, φIsN, isN_n, isN_b, isN_i, isN_s, isN_l, isN_t, φLen, φList, φTuple, φAbs, φInt, φMax, φIsB, φIsNB, its_l, its_t, rd_sh, rd_nw, rd_br, rp_sh, rp_nw, rp_br, rp_bx, rp_raw, rp_sr, rr_sh, rr_nw, rr_br, ra_sh, ra_br, ra_bx, ra_raw, va_sh, va_nt, va_nf, va_raw, hb_n, hb_sh, hb_bx, hb_raw, hb_br, sh_n, sh_c, tr_n, tr_b, tr_i, tr_l, tr_t, ty_n, ty_b, ty_i, ty_s, ty_l, ty_t, if_ff, if_tt, Env.set, List.getElem?_cons_succ, List.getElem?_cons_zero, List.set_cons_succ, List.set_cons_zero, List.reverse_cons, List.reverse_nil, List.nil_append, List.cons_append, Option.bind_some, ite_true, ite_false])
end Lp

namespace Lp
open PySem PySem.Spec PyProof.Rows L2
/-- once: the tuple itself -/
theorem tuple_mul1 (l : Addr) (items : Array Value) (n : Nat) (dd : Option Addr) (sl : Array (Option Value)) (u : Tok) (c1 : items.isEmpty = false) :
    Meets (Builtin.«tuple.__mul__» ⟨[.ref l, .int 1 u], []⟩) (fun _ R s => s.heap.get? l = some { cls := .type "tuple", dict := dd, data := .seq items n, slots := sl } ∧ R (.ok (.ret (Value.ref l))) s) :=
  .of_wp fun prog w A R s h => by
    obtain ⟨hp, g, d, tk, os⟩ := s
    obtain ⟨hl, h⟩ := h
    have f1 := AutoSeq1.idx_int
    wp_walk using wpAny_loadPart' hl
    exact ⟨_, rfl, h⟩
def rMulT (K : PySem.W.Frag) : R2 := fun x y H Q => ∃ l k xs, x = .ref l ∧ y = .int k ∧ SqT K H l xs ∧ xs ≠ [] ∧ 1 ≤ k ∧ k ≤ 1000 ∧ xs.length ≤ 1000 ∧ (k = 1 → Q (.ref l) H) ∧ ∀ p o, H p = none → o.dict = none → Q (.ref p) (upd H p (.frz o (.tup (List.replicate k.toNat xs).flatten)))
theorem op_mulT {X : Cx} : OpR X (binaryOp .Mult) (rMulT X.K) := by
  rintro pins s σ H x y v u Q I rx ry ⟨l, k, xs, rfl, rfl, hT, hne, h1, h2, hz, q1, q2⟩
  cases rx
  obtain ⟨t, rfl⟩ := ry
  obtain ⟨its, r, ⟨⟨cls, dd, data, sl⟩, ho, hc, n, hd⟩, hs⟩ := I.tuple hT
  simp only at hc hd
  subst hc hd
  have many : its.length = xs.length := r.length.symm
  have some_ : its.toArray.isEmpty = false := by
    cases its with
    | nil => exact absurd (List.eq_nil_of_length_eq_zero many.symm) hne
    | cons _ _ => rfl
  have len2 : k.toNat * xs.length ≤ 1000 * 1000 := Nat.mul_le_mul (by omega) hz
  have flen : (List.replicate k.toNat xs).flatten.length ≤ sizeLine := by
    rw [PyProof.Rows.lm_len_rep_flat, sizeLine_eq]; omega
  by_cases one : k = 1
  · subst one
    refine wpAny_binaryOp_repeat_ref (T := "tuple") (U := "int") (by decide) ⟨_, ho, rfl⟩ (fun s' => typeIs_int s' 1 t) noFill_tuple_mul F.fills_int_mul F.slot_int_rmul repeat_tuple F.slot_int_index.lookup
      (call_meets F.slot_int_rmul (typeIs_int s 1 t) F.entry_int_rmul (F.args_int_rmul_2 _ _) (int_rmul_tuple 1 t l its.toArray n dd sl)
        ⟨ho, rfl, ⟨_, ho, rfl⟩, call_meets F.slot_tuple_mul ⟨_, ho, rfl⟩ F.entry_tuple_mul (F.args_tuple_mul_2 _ _) (tuple_mul1 l its.toArray n dd sl t some_) ⟨ho, ?_⟩⟩)
    exact ⟨.ref l, H, I, rfl, q1 rfl⟩
  · have size : ((its.toArray.size : Nat) : Int) * k ≤ 1000000 := by
      rw [List.size_toArray, many]
      have : ((xs.length : Nat) : Int) * k ≤ 1000 * k := Int.mul_le_mul_of_nonneg_right (by omega) (by omega)
      omega
    refine wpAny_binaryOp_repeat_ref (T := "tuple") (U := "int") (by decide) ⟨_, ho, rfl⟩ (fun s' => typeIs_int s' k t) noFill_tuple_mul F.fills_int_mul F.slot_int_rmul repeat_tuple F.slot_int_index.lookup
      (call_meets F.slot_int_rmul (typeIs_int s k t) F.entry_int_rmul (F.args_int_rmul_2 _ _) (int_rmul_tuple k t l its.toArray n dd sl)
        ⟨ho, rfl, ⟨_, ho, rfl⟩, call_meets F.slot_tuple_mul ⟨_, ho, rfl⟩ F.entry_tuple_mul (F.args_tuple_mul_2 _ _) (tuple_mulW l its.toArray n dd sl k t
          (by rw [decide_eq_false (by omega), decide_eq_false (by omega)]; rfl)
          (by rw [some_, Bool.false_or]; exact beq_eq_false_iff_ne.mpr one)
          (by rw [some_, Bool.or_false]; exact decide_eq_false (by omega))
          (by omega)
          (by unfold Builtin.Tuple.tupleTooMany; rw [sizeLine_eq]; exact decide_eq_false (by omega))
          (by rw [size_rep, List.size_toArray, PyProof.Rows.lm_len_rep_flat, many, sizeLine_eq]; omega)) ⟨ho, ?_⟩⟩)
    rw [size_rep]
    exact newT I (r.rep k.toNat) flen q2
def φMulT (x y : PyData) (Q : R → Prop) : Prop := match x, y with
  | .tuple a, .int k => (a ≠ [] ∧ 1 ≤ k ∧ k ≤ 1000 ∧ a.length ≤ 1000) ∧ Q (.sh (.tuple (List.replicate k.toNat a).flatten))
  | _, _ => False
theorem r2_mulT {K : PySem.W.Frag} : R2K (rMulT K) φMulT := by
  constructor
  · intro x y A B hAB q
    unfold φMulT at q ⊢
    split at q
    · exact ⟨q.1, hAB _ q.2⟩
    · exact q.elim
  · intro L H x y dx dy Q s hx hy q
    unfold φMulT at q
    split at q
    · rename_i a0 k0
      obtain ⟨a, xs, rfl, h1, h2⟩ := hx.tup
      refine ⟨a, _, xs, rfl, hy.int, (h1.to s).seq, fun z => q.1.1 (h2.nil_iff.mp z), q.1.2.1, q.1.2.2.1, by rw [h2.len]; exact q.1.2.2.2, fun e => ?_, fun p o np no => ?_⟩
      · have e2 := q.2
        rw [e] at e2
        have e3 : ∀ a : List PyData, (List.replicate (1 : Int).toNat a).flatten = a := fun a => by
          rw [show (1 : Int).toNat = 1 from rfl, List.replicate_one, List.flatten_cons, List.flatten_nil, List.append_nil]
        rw [e3] at e2
        exact e2 _ L H (Ext.refl _ _ _) s (.tup h1 h2)
      · have e1 : Ext none L H (upd L p (.frz o (.tup (List.replicate k0.toNat xs).flatten))) (upd H p (.frz o (.tup (List.replicate k0.toNat xs).flatten))) := Ext.new s np
        exact q.2 _ _ _ e1 (same_both s) (.tup ⟨o, no, upd_same⟩ ((h2.rep _).to e1.ll))
    · exact q.elim
theorem mulTK {K : PySem.W.Frag} {X : Cx} (e : X.K = K) : OpR X (binaryOp .Mult) (rMulT K) := by subst e; exact op_mulT
end Lp

namespace Lp
open PySem PySem.Spec PyProof.Rows L2
/-- a set as it is made -/
abbrev set0 (w : World) : Obj := { cls := .type "set", dict := none, data := .set #[] 0 (.fresh 0 0 (!w.params.followText "set-order")) }
section
variable {P : Program} {w : World} {A : Around} {E : Value → Shared → Prop} {s : Shared}
/-- what set.__init__ leaves of a list of ints -/
theorem init_ints {l : Addr} {items : Array Value} {ns : List Int} (hh : A.handled = none) (hl : s.heap.IsList l items) (hit : IntsAre items.toList ns) (few : ns.length + 1 < scanBound) {R : Value → Shared → Prop}
    (q : ∀ (h' : Heap) (tk c : Nat), SetR w h' s.heap.objs.size (fun j => decide (j ∈ ns)) c → c ≤ ns.length → (∀ b o, s.heap.get? b = some o → h'.get? b = some o) → R .none { s with heap := h', toks := tk }) :
    codeAny (model P w) A (.call (.builtin "set.__init__") ⟨[.ref s.heap.objs.size, .ref l], []⟩) (wants R E) { s with heap := s.heap.push (set0 w) } := by
  have at_S : (s.heap.push (set0 w)).get? s.heap.objs.size = some (set0 w) := Heap.get?_push_size _ rfl
  have many : items.size = ns.length := by
    have := IntsAre.length hit
    rw [Array.length_toList] at this
    exact this
  refine codeAny_call_builtin F.called_set.init.plain F.entry_set_init (check_set_init_1 ⟨_, at_S, rfl⟩ ?_)
  obtain ⟨⟨_, od, _, os⟩, at_l, hc, nl, hd⟩ := hl
  simp only at hc hd
  subst hc hd
  have at_l' : (s.heap.push (set0 w)).get? l = some { cls := .type "list", dict := od, data := .seq items nl, slots := os } := Heap.get?_push_of_some _ at_l
  have isl : (s.heap.push (set0 w)).IsList l items := ⟨_, at_l', rfl, nl, rfl⟩
  have low : l < s.heap.objs.size := Heap.lt_size at_l
  have f1 := F.sub_list_set
  have f2 := F.sub_list_frozenset
  have f3 : (Value.type "list" == Value.type "dict") = false := by decide
  unfold Builtin.«set.__init__» noKeywords Builtin.Frozenset.updateFrom
  generalize hPI : pyIter = PI
  wp_walk
  subst hPI
  refine wpAny_pyIter_list isl ?_
  refine wpAny_bind (wpAny_runValue ?_)
  have quiet : A.in1.in1.handled = none := by simp [hh]
  have ne : l ≠ (s.heap.push (set0 w)).objs.size := by rw [Heap.size_push]; exact Nat.ne_of_lt (Nat.lt_succ_of_lt low)
  have out : s.heap.objs.size ∉ [(s.heap.push (set0 w)).objs.size, l] := by
    rw [Heap.size_push, List.mem_cons, List.mem_singleton]
    exact fun z => z.elim (fun e => absurd e (Nat.ne_of_lt (Nat.lt_succ_self _))) fun e => absurd e (Nat.ne_of_gt low)
  refine set_update_ints ((Walks.list quiet _ l ne items).toS) s.heap.objs.size out ns many few (fun i v hv => ?_) (items.size - 0) 0 _ (by omega) (Nat.zero_le _) ?_ ?_ ?_
  · have hi : i < ns.length := by rw [← many]; exact (Array.getElem?_eq_some_iff.mp hv).1
    obtain ⟨t, e⟩ := IntsAre.int_at hit i v (by rw [Array.getElem?_toList]; exact hv)
    refine ⟨ns[i], t, List.getElem?_eq_getElem hi, ?_⟩
    rw [e, List.getD_eq_getElem?_getD, List.getElem?_eq_getElem hi] <;> rfl
  · exact ⟨⟨_, Heap.get?_push_size _ rfl, rfl, rfl⟩, isl.push _⟩
  · exact ⟨0, Nat.le_refl 0, setR_new_at (Heap.get?_push_of_some _ at_S)⟩
  · rintro ⟨h', g', d', tk', os'⟩ c hm hc hS
    have e1 : g' = s.gens := hm.gens
    have e2 : d' = s.drawn := hm.drawn
    have e3 : os' = s.os := hm.os
    subst e1 e2 e3
    show wpAny _ _ _ _ _ _
    refine wpAny_pure ?_
    show wpAny _ _ (ret Value.none) _ _ _
    refine wpAny_pure (q h' tk' c hS (by rw [← many]; exact hc) fun b o e => ?_)
    have lb : b < s.heap.objs.size := Heap.lt_size e
    refine hm.heap b o ?_ (Heap.get?_push_of_some _ (Heap.get?_push_of_some _ e))
    rw [List.mem_cons, List.mem_singleton, Heap.size_push]
    exact fun z => z.elim (fun e => absurd e (Nat.ne_of_lt lb)) fun e => absurd e (Nat.ne_of_lt (Nat.lt_succ_of_lt lb))
/-- set(xs), xs a list of ints -/
theorem call_set_ints {l : Addr} {items : Array Value} {ns : List Int} {Q : Value → Shared → Prop} (hh : A.handled = none) (hl : s.heap.IsList l items) (hit : IntsAre items.toList ns) (few : ns.length + 1 < scanBound)
    (q : ∀ (h' : Heap) (tk c : Nat), SetR w h' s.heap.objs.size (fun j => decide (j ∈ ns)) c → c ≤ ns.length → (∀ b o, s.heap.get? b = some o → h'.get? b = some o) → Q (.ref s.heap.objs.size) { s with heap := h', toks := tk }) :
    wpAny (model P w) A (call (.type "set") [.ref l]) Q E s := by
  obtain ⟨c, tl, hmro⟩ := F.called_set.mro
  have m1 := F.called_set.made
  have m2 := F.called_set.sub
  have m3 := F.called_set.notType
  have m4 := F.called_set.canCreate
  have m5 := F.typeCall_set_1 (.ref l)
  refine wpAny_call (codeAny_of_tree ?_)
  show wpAny _ _ (callAny (.type "set") _) _ _ _
  refine wpAny_pure ⟨Code.quiet_builtin _ (by decide +kernel), codeAny_builtin F.entry_type_call ?_⟩
  rw [Around.under_plain (weight_type_call_type "set" [.ref l] []) rfl]
  repeat (any_goals (first | assumption | wp_step))
  refine codeAny_mono (code_set_led1 (.ref l) (E := E) (Q₁ := fun obj s₁ => obj = .ref s.heap.objs.size ∧ s₁ = { s with heap := s.heap.push (set0 w) }) ⟨rfl, rfl⟩) fun r s₁ hr => ?_
  match r, hr with
  | .error e, hr => exact hr
  | .ok (.ret obj), hr =>
    obtain ⟨rfl, rfl⟩ := hr
    have at_S : (s.heap.push (set0 w)).get? s.heap.objs.size = some (set0 w) := Heap.get?_push_size _ rfl
    have ty : Shared.TypeIs { s with heap := s.heap.push (set0 w) } (.ref s.heap.objs.size) "set" := ⟨_, at_S, rfl⟩
    have m6 := F.called_set.init.lookup
    have m7 := F.called_set.init.bind (.ref s.heap.objs.size)
    repeat (any_goals (first | assumption | wp_step))
    refine codeAny_mono (init_ints (A := A.in1) (E := E) (R := fun r s₂ => r = .none ∧ ∃ (h' : Heap) (tk c : Nat), s₂ = { s with heap := h', toks := tk } ∧ SetR w h' s.heap.objs.size (fun j => decide (j ∈ ns)) c ∧ c ≤ ns.length ∧ (∀ b o, s.heap.get? b = some o → h'.get? b = some o))
      (by simp [hh]) hl hit few fun h' tk c a b d => ⟨rfl, h', tk, c, rfl, a, b, d⟩) fun r₂ s₂ hr₂ => ?_
    match r₂, hr₂ with
    | .error e, hr₂ => exact hr₂
    | .ok (.ret r), hr₂ =>
      obtain ⟨rfl, h', tk, c', rfl, h1, h2, h3⟩ := hr₂
      repeat (any_goals (first | assumption | wp_step))
      exact q _ _ _ h1 h2 h3
end
section
variable {X : Cx}
def rSetI (K : PySem.W.Frag) (w : World) : List V → Hp → VK → Prop := fun vs H Q => ∃ (l : Addr) (ns : List Int), vs = [V.ref l] ∧ SqL K H l (ns.map V.int) ∧ ns.length ≤ 1000 ∧ ∀ a n, H a = none → n ≤ ns.length → Q (.ref a) (upd H a (SetO w a (fun j => decide (j ∈ ns)) n))
theorem cr_setI (hc : X.calm = true) : CallR X (.type "set") (rSetI X.K X.w) := by
  rintro pins s σ H vs us Q I r ⟨l, ns, rfl, hl, few, q⟩
  rw [Vals.ref1 r]
  obtain ⟨its, rv, pl, hz⟩ := I.list hl
  have hn : H s.heap.objs.size = none := I.hok.fresh (Nat.le_refl _)
  refine call_set_ints (P := X.prog) (w := X.w) (I.ok.hd hc) pl.isList (by simpa using intsAre_of rv) (by unfold scanBound; omega) fun h' tk c R hcn keep => ?_
  exact ⟨.ref s.heap.objs.size, upd H s.heap.objs.size (SetO X.w s.heap.objs.size (fun j => decide (j ∈ ns)) c), I.laid (t' := tk) keep (Nat.le_refl _) (setO_new R), rfl, q _ _ hn hcn⟩
theorem sortSetK {w : World} (ew : X.w = w) (hc : X.calm = true) : CallR X (.builtin "sorted") (rSortedSet w) := by
  subst ew
  exact cr_sortedSet hc
end
section
variable {w : Wx} {K : PySem.W.Frag} {te : TE} {f : DTE}
end
end Lp

namespace Lp
open PySem PySem.Spec PyProof.Rows L2
section
variable {X : Cx}
end
section
variable {w : Wx} {K : PySem.W.Frag} {te : TE} {f : DTE}
end
end Lp

namespace Lp
open PySem PySem.Spec PyProof.Rows L2
/-- the class at C has the one base B, and an __init__ of its own -/
structure OexB (K : PySem.W.Frag) (C : Addr) (B newId initId : String) (bm : List Value) : Prop where
  base : ExcBaseFacts B newId initId bm
  pass : ∀ self : Value, refuseLoop self "__setattr__" bm = pure ()
  obj : bm.contains (.type "object") = true
  cls : ∃ nm q N bs sn sub ab col dd k0 k1 k2 k3 k5, K.lookup C = some (excClassObj nm q C N bs bm true sn sub ab col dd k0 k1 k2 k3 k5 newId)
  sa : PySem.W.findIn K (.ref C) "__setattr__" = some (some (.builtin "object.__setattr__"))
  exC : PySem.W.subIn K (.ref C) (.type "BaseException") = some true
  tyC : PySem.W.typeIn K (.ref C) = some (.type "type")
  kC : PySem.W.keepIn K (.ref C) = true
section
variable {X : Cx} {pins : List (Addr × Obj)} {σ : L2.St} {H : Hp} {s : Shared} {a C : Addr} {B newId initId : String} {bm : List Value} {E : Value → Shared → Prop} {A : Around}
/-- B.__init__(self, ..) -/
theorem init_B {us : List Value} {Q : Value → Shared → Prop} (T : OexB X.K C B newId initId bm) (I : Inv X pins σ H s) (e : H a = some (exo a C none)) (few : us.length ≤ sizeLine) (q : ∀ s', Inv X pins σ H s' → Q .none s') :
    wpAny (model X.prog X.w) A (call (.builtin initId) (.ref a :: us)) Q E s := by
  obtain ⟨nm, qn, N, bs, sn, sub, ab, col, dd, k0, k1, k2, k3, k5, hC⟩ := T.cls
  obtain ⟨t1, ho⟩ := exo_at I.hok e
  obtain ⟨hp, g, d, t, os⟩ := s
  refine wpAny_call (PySem.HandSPX.init_base T.base (fun _ => rfl) (I.kIn _ _ hC) ho few fun h' t2 k hx => ?_)
  have J := I.write (t' := t) (x := a) (e := a) (o := exo a C none) (by rw [e]; exact True.intro) (.inl rfl) k ⟨_, hx⟩ (exo_ok hx)
  have same : upd H a (exo a C none) = H := by
    funext b
    by_cases hb : b = a
    · rw [hb, upd_same, e]
    · rw [upd_ne hb]
  rw [same] at J
  exact q _ J
end
section
open Builtin Builtin.ObjectAttr PySem.W PySem.Calls PySem.HandSPX
variable {prog : Program} {w : World} {A : Around} {R : Result → Shared → Prop} {hp : Heap} {g : Array GenState} {d : Drawn} {t : Nat} {os : OsState}
/-- the first field of an exception: its dict is made -/
theorem field_B {K : W.Frag} {name : Str} {tk : Tok} {v : Value} {x C : Addr} {fv : Array Value} {cd : ClassData} {bm : List Value}
    (X : K.In hp) (hx : hp.get? x = some { cls := .ref C, data := .fields fv }) (hcd : W.clsIn K C = some cd) (hm : cd.mro = .ref C :: bm) (pass : ∀ self : Value, refuseLoop self "__setattr__" bm = pure ()) (ob : bm.contains (.type "object") = true)
    (hh : cd.hasDict = true) (ha : W.findIn K (.ref C) name = some none)
    (hq : ∀ h' tk' dx, (∀ b o, b ≠ x → hp.get? b = some o → h'.get? b = some o) → hp.objs.size ≤ dx → dx ≠ x → h'.get? x = some { cls := .ref C, dict := some dx, data := .fields fv } →
      h'.Ns1 dx (fun y => if y = name then some v else none) → R (.ok (.ret .none)) ⟨h', g, d, tk', os⟩) :
    codeAny (model prog w) A (.call (.builtin "object.__setattr__") ⟨[.ref x, .str name tk, v], []⟩) R ⟨hp, g, d, t, os⟩ := by
  have I : W.InstAt hp x { cls := .ref C, data := .fields fv } C none := ⟨hx, rfl, rfl, trivial⟩
  have SF := F.store_object
  have hob : cd.mro.contains (.type "object") = true := by rw [hm, List.contains_cons, ob, Bool.or_true]
  have ne : cd.mro.isEmpty = false := by rw [hm]; rfl
  have far : x ≠ hp.objs.size := Nat.ne_of_lt (Heap.lt_size hx)
  have sub : W.Looks (model prog w) hp (isInstance (.ref x) (.type "object")) true := I.type.andThen (W.looks_mroIn X (by unfold W.mroIn; rw [hcd, Option.bind_some, if_neg (by rw [ne]; decide), hob]))
  have lm : W.Looks (model prog w) hp (mroOf (.ref C)) cd.mro := (W.looks_clsIn X hcd).andThen .now
  have lt : W.Looks (model prog w) hp (storeTaker? none) none := .now
  have lc : W.Looks (model prog w) hp (classData C) cd := W.looks_clsIn X hcd
  refine codeAny_call_builtin SF.slot.plain SF.entry (@W.check_slot (model prog w) _ _ ⟨hp, g, d, t, os⟩ "object.__setattr__" "object" "__setattr__" (.ref x) [.str name tk, v] [] _ SF.kind SF.split sub (SF.args (.ref x) (.str name tk) v) ?_)
  rw [W.osa_eq, refuse_eq]
  refine wpAny_bind (wpAny_bind (I.type.at (wpAny_bind (lm.at ?_))))
  rw [hm, refuseLoop_ref, pass]
  refine wpAny_pure (wpAny_bind (I.type.at (wpAny_bind ((W.looks_findIn X ha).at (wpAny_bind (lt.at ?_))))))
  show wpAny _ _ (storeInOwnDict (.ref x) (.ref C) (.str name tk) name v false) _ _ _
  obtain ⟨nm, bs, mro, ns, qn, hd, sn, sb, ab, col, del⟩ := cd
  dsimp only at hh
  subst hh
  unfold storeInOwnDict ownDictForStores
  repeat (first | with_reducible refine store_in_new ?_ ?_ | with_reducible refine wpAny_loadPart_at hx ?_ | with_reducible refine lc.at ?_ | wp_step)
  · exact ⟨_, #[], _, (Heap.get?_update_ne _ _ _ _ far.symm).trans (Heap.get?_push_at rfl rfl), rfl, fun e he => absurd he (by simp), fun _ => rfl⟩
  · intro h' tk' hn' hs
    have hx1 : (hp.push { cls := .type "dict", data := .dict #[] }).get? x = some { cls := .ref C, data := .fields fv } := Heap.get?_push_of_some _ hx
    refine hq h' tk' hp.objs.size (fun b o hb ho => ?_) (Nat.le_refl _) far.symm ?_ hn'
    · exact (hs.2 b (Nat.ne_of_lt (Heap.lt_size ho))).trans ((Heap.get?_update_ne _ _ _ _ hb).trans (Heap.get?_push_of_some _ ho))
    · exact (hs.2 x far).trans (Heap.get?_update_self _ hx1 rfl)
end
section
variable {X : Cx} {pins : List (Addr × Obj)} {σ : L2.St} {H : Hp} {s : Shared} {a C : Addr} {B newId initId : String} {bm : List Value} {E : Value → Shared → Prop} {A : Around} {f : Str} {y : V} {u : Value}
/-- self.f = y, the first field -/
theorem store_B {Q : Unit → Shared → Prop} (T : OexB X.K C B newId initId bm) (I : Inv X pins σ H s) (e : H a = some (exo a C none)) (no : PySem.W.findIn X.K (.ref C) f = some none) (ry : RelV y u)
    (q : ∀ dx s', H dx = none → dx ≠ a → Inv X pins σ (upd (upd H dx (exd dx [(f, y)])) a (exo a C (some dx))) s' → Q () s') : wpAny (model X.prog X.w) A (setAttr (.ref a) f u) Q E s := by
  obtain ⟨nm, qn, N, bs, sn, sub, ab, col, dd, k0, k1, k2, k3, k5, hC⟩ := T.cls
  have hcl : PySem.W.clsIn X.K C = some { name := nm, bases := bs, mro := .ref C :: bm, ns := N, qualname := qn, hasDict := true, slotNames := sn, subclasses := sub, abstract := ab, collection := col, hasDel := false } := by unfold PySem.W.clsIn; rw [hC] <;> rfl
  obtain ⟨t1, ho⟩ := exo_at I.hok e
  obtain ⟨hp, g, d, t, os⟩ := s
  refine PySem.W.set_plain I.kIn (ox := { cls := .ref C, dict := none, data := .fields #[.ref t1, .none, .none, .none, .bool false, .none] }) (od := none) ⟨ho, rfl, rfl, trivial⟩ T.sa ?_
  refine field_B I.kIn ho hcl rfl T.pass T.obj rfl no fun h' tk' dx keep new ne at_a at_d => ?_
  have none_ : H dx = none := I.hok.fresh new
  have old : ∀ {b : Addr} {o : Obj}, hp.get? b = some o → b ≠ dx := fun {b o} z => Nat.ne_of_lt (Nat.lt_of_lt_of_le (Heap.lt_size z) new)
  have not_a : ∀ {b : Addr}, H b = none → b ≠ a := fun {b} n z => by rw [z, e] at n; cases n
  have U : Un X.fs [] H (upd (upd H dx (exd dx [(f, y)])) a (exo a C (some dx))) hp h' := {
    keep := fun b o z n _ _ => keep b o (not_a n) z
    slot := fun b o z n _ _ => ⟨o.slots, keep b o (not_a n) z⟩
    free := fun b o z n _ => by rw [upd_ne (not_a n), upd_ne (old z)]; exact n
    there := fun b o z _ => by
      by_cases hb : b = a
      · exact ⟨_, by rw [hb]; exact at_a⟩
      · exact ⟨o, keep b o hb z⟩
    tups := fun b xs z => by rw [upd_ne (at_ne e z exo_tup), upd_ne (ne_of_none z none_)]; exact z
    frzs := fun b o v z => by rw [upd_ne (at_ne e z exo_frz), upd_ne (ne_of_none z none_)]; exact z
    tbls := fun b ps z => ⟨#[], by rw [upd_ne (at_ne e z exo_tbl), upd_ne (ne_of_none z none_), z]; simp⟩ }
  refine q dx _ none_ ne (I.un (t' := tk') U fun b o z => ?_)
  by_cases hb : b = a
  · subst hb
    rw [upd_same] at z
    cases z
    exact exo_ok at_a
  · rw [upd_ne hb] at z
    by_cases hd : b = dx
    · subst hd
      rw [upd_same] at z
      cases z
      exact exd_ok at_d (relO_put (fs := []) ry fun g => True.intro)
    · rw [upd_ne hd] at z
      refine (I.hok b o z).stay (fun c v hc z2 => keep c v ?_ z2) (fun c hc => by rw [upd_ne (at_ne e hc exo_own), upd_ne (ne_of_none hc none_)]; exact hc) (fun c xs hc => by rw [upd_ne (at_ne e hc exo_tup), upd_ne (ne_of_none hc none_)]; exact hc)
      rcases hc with hc | hc
      · rw [hc]; exact hb
      · exact at_ne e hc exo_own
end
/-- B.__init__(self, ..) -/
def tInitB (K : PySem.W.Frag) (B newId initId : String) (bm : List Value) (ta : TA) : TE := fun σ H Q => ta σ H fun vs H1 => ∃ (a C : Addr) (ws : List V), vs = .ref a :: ws ∧ ws.length ≤ 1000 ∧ OexB K C B newId initId bm ∧ H1 a = some (exo a C none) ∧ Q .non H1
/-- self.f = e -/
def tStoreB (K : PySem.W.Frag) (B newId initId : String) (bm : List Value) (f : Str) (to te : TE) : TS := fun D σ H => te σ H fun y H1 => to σ H1 fun x H2 => ∃ a C : Addr, x = .ref a ∧ OexB K C B newId initId bm ∧ PySem.W.findIn K (.ref C) f = some none ∧
  H2 a = some (exo a C none) ∧ ∀ dx, H2 dx = none → dx ≠ a → D.nx σ (upd (upd H2 dx (exd dx [(f, y)])) a (exo a C (some dx)))
section
variable {X : Cx} {o e : Expr} {es : List Expr} {to te : TE} {ta : TA} {f : Str} {p p' p1 p2 pos : Pos} {B newId initId : String} {bm : List Value}
theorem ps_storeB (ho : PE X o to) (he : PE X e te) (hs : swapsWith e (some (.Attribute o f p')) pos.line X.env = pure false := by rfl) : PS X (.Assign [.Attribute o f p'] e pos) (tStoreB X.K B newId initId bm f to te) := by
  refine ⟨fun pins s σ H D I h => ?_⟩
  refine plainObj_wpAny_Assign_Attribute (thn (he.run pins s σ H _ I h) fun v s1 ⟨y, H1, I1, r1, q1⟩ => thn (ho.run pins s1 σ H1 _ I1 q1) fun u s2 ⟨x, H2, I2, r2, a, C, ex, T, no, ea, q⟩ => ?_) hs
  subst ex
  obtain rfl : u = Value.ref a := r2
  exact store_B T I2 ea no r1 fun dx s' n ne J => ⟨σ, _, J, q dx n ne⟩
/-- C(e, ..), C's own __init__ keeping sp -/
theorem pmk_B {CX : CXT} {x : Str} {C fI : Addr} {k : Nat} {fd : FuncData} {ps : List Str} {sp : Sp} {ds : List Value} {dvs : List V} (hd : Vals dvs ds) (T : OexB X.K C B newId initId bm) (iC : PySem.W.findIn X.K (.ref C) "__init__" = some (some (.ref fI))) (tI : PySem.W.typeIn X.K (.ref fI) = some (.type "function"))
    (F1 : FnOk X.prog X.w X.K X.mg X.base CX k fI fd ps sp) (hr : Room (k + 1) X.A) (hb : Binds X.K fd ps ds) (hx : Passes CX X (fun _ _ _ => False)) (hg : Gl X x) (hm : X.mg x = some (.ref C)) (ha : PA X (e :: es) ta)
    (hdb : (x == ("__debug__" : Str)) = false := by decide) (he : starEach (e :: es) X.env = (false, eval e X.env) :: starEach es X.env := by rfl) (hpl : (backTo pos (starEach es X.env)).any (·.1) = false := by rfl) :
    PMk X (.Call (.Name x p) (e :: es) [] pos) (tMkO C sp dvs ta) := by
  intro pins s σ H Q I h
  obtain ⟨nm, qn, N, bs, sn, sub, ab, col, dd, k0, k1, k2, k3, k5, hC⟩ := T.cls
  refine wpAny_Call_Name_kw (ld_glob I hg hm ?_ hdb)
  refine PySem.W.callWith_K (h₀ := X.base) I.ok.mod.kin T.kC (thn (ha.run pos pins s σ H _ I h) fun us s1 ⟨vs, H1, I1, r1, few, q1⟩ => ⟨I1.kIn, ?_⟩) he hpl
  show wpAny _ _ (call (.ref C) us) _ _ _
  obtain ⟨hp, g, dr, tk, os⟩ := s1
  have new : hp.objs.size ≤ hp.objs.size + 1 := Nat.le_succ _
  have none_ : H1 (hp.objs.size + 1) = none := I1.hok.fresh new
  have want := q1 (hp.objs.size + 1) none_
  have keep : ∀ b o, hp.get? b = some o → ((hp.push (PySem.W.kdv_tup us)).push (PySem.HandSPX.excO C hp.objs.size)).get? b = some o := fun b o z => Heap.get?_push_of_some _ (Heap.get?_push_of_some _ z)
  have at_e : ((hp.push (PySem.W.kdv_tup us)).push (PySem.HandSPX.excO C hp.objs.size)).get? (hp.objs.size + 1) = some (PySem.HandSPX.excO C hp.objs.size) := by heap_get
  have I2 : Inv X pins σ (upd H1 (hp.objs.size + 1) (exo (hp.objs.size + 1) C none)) ⟨(hp.push (PySem.W.kdv_tup us)).push (PySem.HandSPX.excO C hp.objs.size), g, dr, tk, os⟩ :=
    I1.laid (t' := tk) (a := hp.objs.size + 1) (o := exo (hp.objs.size + 1) C none) (h' := (hp.push (PySem.W.kdv_tup us)).push (PySem.HandSPX.excO C hp.objs.size)) keep new (exo_ok at_e)
  have r2 : Vals (V.ref (hp.objs.size + 1) :: (vs ++ dvs)) (Value.ref (hp.objs.size + 1) :: (us ++ ds)) := .cons rfl (r1.append hd)
  have len : (Value.ref (hp.objs.size + 1) :: us ++ ds).length = ps.length := by
    have z := r2.length
    rw [F1.len _ _ _ _ want] at z
    exact z.symm
  have few2 : us.length ≤ sizeLine := by rw [← Paired.length r1, sizeLine_eq]; omega
  refine wpAny_call (PySem.HandSPX.call_own T.base (fun _ => rfl) (I1.kIn _ _ hC) (PySem.W.looks_findIn I1.kIn iC) (fun self => PySem.W.bind_fn I1.kIn self tI) few2
    (codeAny_mono (F1.run _ X.stack _ _ ⟨Value.ref (hp.objs.size + 1) :: us, []⟩ (Value.ref (hp.objs.size + 1) :: (us ++ ds)) _ _ (fun _ _ _ => False) (hr.make C us []) (I2.env0.make C us []) (hb _ (Value.ref (hp.objs.size + 1) :: us) I2.kIn len) r2 want) fun r s' back => ?_))
  match r, back with
  | .error er, back => exact hx pins σ _ _ er s' I2 back
  | .ok (.ret u), back =>
    obtain ⟨v, H2, os2, bare2, un2, hok2, rv, ev, d, fs, ea, ed, hd1, q2⟩ := back
    subst ev
    obtain ⟨h2, g2, d2, t2, os'⟩ := s'
    exact ⟨rv, mk_end (raises_own T.exC T.tyC) I1 new keep un2 hok2 os2 bare2 ea ed hd1 q2⟩
  | .ok .next, back => exact False.elim back
  | .ok .brk, back => exact False.elim back
  | .ok .cont, back => exact False.elim back
end
end Lp

namespace Lp
open PySem PySem.Spec PyProof.Rows L2
theorem Rep.chg {w w' : Wx} {Z : Zx} {O : Addr → Prop} {σ : L2.St} {ε : Env} {L H : Hp} (x : Rep w Z O L H σ ε) (h1 : w.w = w'.w) (h2 : w.cl = w'.cl) (h3 : w'.Φ Z) : Rep w' Z O L H σ ε := by
  obtain ⟨a, b, c, d, e⟩ := w
  obtain ⟨a', b', c', d', e'⟩ := w'
  cases h1
  cases h2
  refine ⟨x.lh, x.pn, x.ex, x.bo, x.oh, x.len, fun i y hy => ?_, x.di, h3⟩
  obtain ⟨o, q1, q2⟩ := x.sl i y hy
  refine ⟨o, q1, ?_⟩
  cases y <;> exact q2
theorem EndsOk.chg {w w' : Wx} {Z : Zx} {D : Ends} {Δ : DEnds} (E : EndsOk w Z D Δ) (h1 : w'.w = w.w) (h2 : w'.cl = w.cl) (h3 : w.Φ Z) : EndsOk w' Z D Δ :=
  ⟨fun O σ ε L H X q => E.nx O σ ε L H (X.chg h1 h2 h3) q, fun O σ ε L H v r X k q => E.rt O σ ε L H v r (X.chg h1 h2 h3) k q, fun O σ ε L H X q => E.bk O σ ε L H (X.chg h1 h2 h3) q, fun O σ ε L H X q => E.ct O σ ε L H (X.chg h1 h2 h3) q⟩
abbrev DSpX := List SV → Nat → (R → Nat → Prop) → (Xn → Nat → Prop) → Prop
def MonX (F : DSpX) : Prop := ∀ args c (A B : R → Nat → Prop) (C D : Xn → Nat → Prop), (∀ r c', A r c' → B r c') → (∀ x c', C x c' → D x c') → F args c A C → F args c B D
/-- an exception in flight -/
def XR (cl : Str → Option Addr) (L : Hp) (cls : Value) (d : Option Addr) (x : Xn) : Prop := ∃ C, cl x.cls = some C ∧ cls = .ref C ∧ XF L d x.fs
def spX (cl : Str → Option Addr) (n : Nat) (F : DSpX) : Sp := fun vs H Q E => ∃ (b : Option Addr) (L : Hp) (c : Nat) (args : List SV), vs.length = n ∧ CallZ b L H c ∧ ArgsR b L vs args ∧
  F args c (fun r c' => ∀ v L' H', CallZ b L' H' c' → Ext b L H L' H' → VR0 H L' H' v r → Q v H') (fun x c' => ∀ cls d L' H', CallZ b L' H' c' → Ext b L H L' H' → XR cl L' cls d x → E cls d H')
abbrev W1 (w : World) (cl : Str → Option Addr) : Wx := ⟨w, cl, fun _ => True, fun _ _ _ _ => trivial, fun _ _ _ _ _ _ => trivial⟩
/-- a body whose exceptions are wished for by W, as data by Ex -/
abbrev WxE (w : World) (cl : Str → Option Addr) (P0 : Hp) (W : WX) (Ex : Xn → Env → Prop) : Wx := ⟨w, cl,
  fun Z => Same P0 Z.P ∧ ∀ P O σ ε L H cls d x, Same P0 P → Rep (W1 w cl) { Z with P := P } O L H σ ε → XR cl L cls d x → Ex x ε → W cls d σ H,
  fun Z P s h => ⟨h.1.trans s, h.2⟩,
  fun Z a o h0 hb h => ⟨h.1, fun P O σ ε L H cls d x sP X => h.2 P O σ ε L H cls d x sP (Rep.thaw0 (Z := { Z with P := P }) h0 hb trivial X)⟩⟩
def dArgsX (F : DSpX) (rs : List R) (ε : Env) (Q : R → Env → Prop) (Ex : Xn → Env → Prop) : Prop := match argsOf rs with
  | some args => hasBr rs = false ∧ F args ε.c (fun r c => Q r ⟨ε.s, c⟩) (fun x c => Ex x ⟨ε.s, c⟩)
  | none => False
def dCallX (F : DSpX) (Ex : Xn → Env → Prop) (f : DTA) (ε : Env) (Q : R → Env → Prop) : Prop := f ε fun rs ε1 => dArgsX F rs ε1 Q Ex
section
variable {w : World} {cl : Str → Option Addr} {P0 : Hp} {W : WX} {Ex : Xn → Env → Prop}
theorem se_callX {n : Nat} {F : DSpX} {t : TA} {f : DTA} (hF : MonX F) (hf : SA (WxE w cl P0 W Ex) n t f) : SE (WxE w cl P0 W Ex) (tCallS (spX cl n F) (WE W) t) (dCallX F Ex f) := by
  constructor
  · intro ε A B h q
    refine hf.mono _ _ _ (fun rs ε1 q => ?_) q
    unfold dArgsX at q ⊢
    split at q
    · exact ⟨q.1, hF _ _ _ _ _ _ (fun r c q => h _ _ q) (fun _ _ q => q) q.2⟩
    · exact q.elim
  · intro Z O σ ε L H Q X q
    refine hf.run Z O σ ε L H _ X (hf.mono _ _ _ (fun rs ε1 q => ?_) q)
    intro vs L1 H1 X1 e1 r1 hl np
    unfold dArgsX at q
    split at q
    · rename_i args ha
      obtain ⟨hb, q⟩ := q
      refine ⟨Z.b, L1, ε1.c, args, by rw [r1.len, hl], ⟨X1.lh, fun b hb => ⟨(X1.bo b hb).1, (X1.bo b hb).2.1⟩⟩, args_plain r1 ha hb, hF _ _ _ _ _ _ (fun r c q => ?_) (fun x c q => ?_) q⟩
      · intro v L' H' z' e' r'
        exact q v L' H' (X1.exts e' z'.1 fun b hb => (z'.2 b hb).2) (e1.trans e') ((r'.vr X1).back e1)
      · intro cls d L' H' z' e' xr
        have X2 := X1.exts (c := c) e' z'.1 fun b hb => (z'.2 b hb).2
        exact X1.ph.2 Z.P O σ ⟨ε1.s, c⟩ L' H' cls d x X1.ph.1 (X2.chg rfl rfl trivial) xr q
    · exact q.elim
end
def defX (k : Nat) (p : (Xn → Env → Prop) → DTS) : DSpX := fun args c Q Ex => p (fun x ε => Ex x ε.c) { nx := fun ε => Q (.sh .none) ε.c, rt := fun r ε => Q r ε.c } (env0 args k c)
section
variable {P : Program} {w : World} {K : PySem.W.Frag} {mg : Str → Option Value} {base : Heap} {cl : Str → Option Addr}
theorem spX_len {n : Nat} {F : DSpX} {vs : List V} {H : Hp} {Q : VK} {E : XK} (h : spX cl n F vs H Q E) : vs.length = n := by
  obtain ⟨b, L, c, args, hn, _⟩ := h
  exact hn
theorem okDX {x qual : Str} {st : Stmt} {f : Addr} {fd : FuncData} {N ps : List Str} {k j : Nat} {p : (Xn → Env → Prop) → DTS} {F : DSpX} (G : Fun K x qual st f fd) (S : FnScope N ps (defScope st)) (hj : N.length = ps.length + j)
    (body : ∀ (cdv : Value) (A : Around) (outer : List PySem.Env) (s : Shared) (H : Hp) (E : XK), Room k (A.deeper (envOfC qual (defScope st) s.heap.objs.size f cdv)) →
      ∃ t, PSs (cxOf (L2.CX P w) P w K mg base N qual (defScope st) f cdv A outer s H E) (defBody st) t ∧ ∀ P0 Ex, SS (WxE w cl P0 (fun cls d _ H => E cls d H) Ex) t (p Ex))
    (h : ∀ args c Q Ex, F args c Q Ex → defX j p args c Q Ex) : FnOk P w K mg base (L2.CX P w) (k + 1) f fd ps (spX cl ps.length F) := by
  refine Fun.okX G S (fun vs H Q E h => spX_len h) fun cdv A outer s H vs Q E hr q => ?_
  obtain ⟨t, ht, hs⟩ := body cdv A outer s H E hr
  refine ⟨t, ht, ?_⟩
  obtain ⟨b, L, c, args, hn, z, a, q⟩ := q
  have q := h _ _ _ _ q
  refine (hs (fun _ => none) _).run _ _ _ _ L H _ _ (rep_start z a (by omega) ⟨(fun _ _ h => nomatch h), fun P O σ ε L' H' cls d x _ X xr q => ?_⟩) ?_ q
  · exact q cls d L' H' ⟨X.lh, fun a ha => ⟨(X.bo a ha).1, (X.bo a ha).2.1⟩⟩ X.ex xr
  · refine ⟨fun O σ ε L' H' X q => ?_, fun O σ ε L' H' v r X hr q => ?_, fun O σ ε L' H' X q => q.elim, fun O σ ε L' H' X q => q.elim⟩
    · exact q .non L' H' ⟨X.lh, fun a ha => ⟨(X.bo a ha).1, (X.bo a ha).2.1⟩⟩ X.ex DV.non
    · exact q v L' H' ⟨X.lh, fun a ha => ⟨(X.bo a ha).1, (X.bo a ha).2.1⟩⟩ X.ex hr
end
def okv (H : Hp) (v : V) : Prop := (∃ i, v = .int i) ∨ ∃ p xs, v = .ref p ∧ Sol H p xs
/-- an own __init__ that keeps its one argument in a field -/
def spI (K : PySem.W.Frag) (C : Addr) (fld : Str) : Sp := fun vs H Q _ => ∃ (a : Addr) (v : V), vs = [.ref a, v] ∧ H a = some (exo a C none) ∧ okv H v ∧
  ∀ dx, H dx = none → dx ≠ a → Q .non (upd (upd H dx (exd dx [(fld, v)])) a (exo a C (some dx)))
def dRaise (nm fld : Str) (f : DTE) (Ex : Xn → Env → Prop) (_ : DEnds) (ε : Env) : Prop := f ε fun r ε1 => match r with
  | .sh (.int i) => Ex ⟨nm, [(fld, .int i)]⟩ ε1
  | .sh (.tuple ds) => Ex ⟨nm, [(fld, .tuple ds)]⟩ ε1
  | _ => False
section
variable {w : World} {cl : Str → Option Addr} {P0 : Hp} {W : WX} {Ex : Xn → Env → Prop} {K : PySem.W.Frag} {C : Addr} {nm fld : Str} {te : TE} {f : DTE}
theorem raise_end {Z : Zx} {O : Addr → Prop} {σ : L2.St} {ε : Env} {L H : Hp} {v : V} {d : PyData} (hc : cl nm = some C) (X : Rep (WxE w cl P0 W Ex) Z O L H σ ε) (r : DV L v d) (ok : okv L v) (q : Ex ⟨nm, [(fld, d)]⟩ ε) (a : Addr) (na : H a = none) :
    spI K C fld [.ref a, v] (upd H a (exo a C none)) (fun v' H2 => v' = .non ∧ ∃ (d : Addr) (fs : List (Str × V)), H2 a = some (exo a C (some d)) ∧ H2 d = some (exd d fs) ∧ H d = none ∧ W (.ref C) (some d) σ (upd (del H2 a) d (.xd fs))) (fun _ _ _ => False) := by
  refine ⟨a, v, rfl, upd_same, ?_, fun dx n ne => ⟨rfl, dx, [(fld, v)], upd_same, by rw [upd_ne ne, upd_same], ?_, ?_⟩⟩
  · rcases ok with h | ⟨p, xs, e, h⟩
    · exact .inl h
    · refine .inr ⟨p, xs, e, ?_⟩
      obtain ⟨o, h1, h2⟩ := h.to X.lh
      exact ⟨o, h1, by rw [upd_ne (ne_of_none h2 na)]; exact h2⟩
  · rw [upd_ne ne] at n; exact n
  · have n' : H dx = none := by rw [upd_ne ne] at n; exact n
    have e : upd (del (upd (upd (upd H a (exo a C none)) dx (exd dx [(fld, v)])) a (exo a C (some dx))) a) dx (.xd [(fld, v)]) = upd H dx (.xd [(fld, v)]) := by
      funext b
      by_cases hb : b = dx
      · rw [hb, upd_same, upd_same]
      · rw [upd_ne hb, upd_ne hb]
        by_cases ha : b = a
        · rw [ha, del_same, na]
        · rw [del_ne ha, upd_ne ha, upd_ne hb, upd_ne ha]
    rw [e]
    have e2 : Ext none L H (upd L dx (.xd [(fld, v)])) (upd H dx (.xd [(fld, v)])) := Ext.new X.lh n'
    have X2 := X.step e2 (same_both X.lh)
    exact X.ph.2 Z.P O σ ε _ _ (.ref C) (some dx) ⟨nm, [(fld, d)]⟩ X.ph.1 (X2.chg rfl rfl trivial) ⟨C, hc, rfl, [(fld, v)], upd_same, .cons (DV.to r e2.ll) .nil⟩ q
theorem ss_raise (hc : cl nm = some C) (hf : SE (WxE w cl P0 W Ex) te f) : SS (WxE w cl P0 W Ex) (fun _ σ H => tMkO C (spI K C fld) [] (tCons te tNil) σ H fun cls d H' => W cls d σ H') (dRaise nm fld f Ex) := by
  constructor
  · intro Δ Δ' ε l z
    exact z
  · intro Z O σ ε L H D Δ X E z
    refine hf.run Z O σ ε L H _ X (hf.mono _ _ _ (fun r ε1 z => ?_) z)
    intro v L1 H1 X1 e1 r1
    split at z
    · have r2 : DV L1 v (.int _) := r1
      refine ⟨by simp, fun a na => raise_end hc X1 r2 (.inl ⟨_, by cases r2; rfl⟩) z a na⟩
    · have r2 : DV L1 v (.tuple _) := r1
      refine ⟨by simp, fun a na => raise_end hc X1 r2 (.inr ?_) z a na⟩
      cases r2 with
      | tup h1 h2 => exact ⟨_, _, rfl, h1⟩
    · exact z.elim
end
end Lp

namespace Lp
open PySem PySem.Spec PyProof.Rows L2
class Fns where
  v : Str → V
abbrev FN [Fns] (n : Str) : V := Fns.v n
def dCallV (i : Nat) (v : V) (F : DSp) (f : DTA) (ε : Env) (Q : R → Env → Prop) : Prop := match ε.s[i]? with
  | some (.raw u) => u = v ∧ dCall F f ε Q
  | _ => False
def dCallVX (i : Nat) (v : V) (F : DSpX) (Ex : Xn → Env → Prop) (f : DTA) (ε : Env) (Q : R → Env → Prop) : Prop := match ε.s[i]? with
  | some (.raw u) => u = v ∧ dCallX F Ex f ε Q
  | _ => False
section
variable {w : Wx} {t : TA} {f : DTA} {a : Addr} {v : V} {i n : Nat}
end
section
variable {w : World} {cl : Str → Option Addr} {P0 : Hp} {W : WX} {Ex : Xn → Env → Prop} {a : Addr} {v : V} {i n : Nat}
end
section
variable {X : Cx} {CX : CXT} {k i : Nat} {f : Addr} {fd : FuncData} {ps : List Str} {sp : Sp} {x : Str} {p pos : Pos} {e : Expr} {es : List Expr} {t : TA}
end
end Lp

namespace PySem.W
open PySem PySem.Spec PySem.Calls PyProof.Rows
section
variable {M : Model} {K : Frag}
end
end PySem.W
namespace Lp
open PySem PySem.Spec PyProof.Rows L2
/-- the test of an except clause -/
def TstOk (X : Cx) (t : Expr) (cs : List Value) : Prop := ∀ (a : Addr) (pn : List (Addr × Obj)) (σ : L2.St) (H : Hp) (s : Shared) (cls : Value) (b : Bool) (Q : Bool → Shared → Prop) (E : Value → Shared → Prop), Inv (X.suite a pn) [] σ H s →
  PySem.W.Looks (model X.prog X.w) s.heap (typeOf (.ref a)) cls → PySem.W.exmAny X.K cls cs = some b → (∀ h', (∀ q o, s.heap.get? q = some o → h'.get? q = some o) → Q b { s with heap := h' }) →
  wpAny (model X.prog X.w) (X.A.mark (some (.ref a))) (eval t X.env) (fun c s₁ => wpAny (model X.prog X.w) (X.A.mark (some (.ref a))) (excMatches (.ref a) c) Q E s₁) E s
section
variable {X : Cx}
theorem ld_name {a : Addr} {pn : List (Addr × Obj)} {σ : L2.St} {H : Hp} {s : Shared} {x : Str} {c : Value} {np : Pos} {Q : Value → Shared → Prop} {E : Value → Shared → Prop} (S : Inv (X.suite a pn) [] σ H s) (hc : Names X x c) (q : Q c s) :
    wpAny (model X.prog X.w) (X.A.mark (some (.ref a))) (eval (.Name x np) X.env) Q E s := by
  obtain ⟨hg, hdbg, hm | ⟨hm, hv, hnn⟩⟩ := hc
  · exact ld_glob (X := X.suite a pn) S hg hm q hdbg
  · exact ld_blt (X := X.suite a pn) S hg hm hv q hnn hdbg
end
theorem fly_keeps {B : Heap} {l : List PySem.Env} {e : Addr} {Z : Obj → Prop} {h h' : Heap} (R : HandSPX.FlyingZ B l e Z h) (k : ∀ b o, h.get? b = some o → h'.get? b = some o) : HandSPX.FlyingZ B l e Z h' := by
  obtain ⟨f1, f2, f3, oe, ws, T, oT, ts, he, hc, hd, h1, hn, hne, hT, hdT, h3⟩ := R
  exact ⟨fun b o q => k b o (f1 b o q), f2, f3.of_keeps fun b o q _ => ⟨o, k b o q, rfl⟩, oe, ws, T, oT, ts, k _ _ he, hc, hd, h1, hn, hne, k _ _ hT, hdT, h3⟩
section
variable {X : Cx} {pins : List (Addr × Obj)} {σ : L2.St} {H : Hp} {s : Shared}
theorem exc_ok {P : Program} {w : World} {H : Hp} {h : Heap} {a : Addr} {c : Value} {d : Option Addr} {oe : Obj} {vs : Array Value} (he : h.get? a = some oe) (hc : oe.cls = c) (hd : oe.dict = d) (hv : oe.data = .fields vs) : ObjOk P w H h a (exc a c d) :=
  ⟨⟨oe, vs, he, hc, hd, hv⟩, ⟨_, he⟩, fun h1 h2 z k => by
    obtain ⟨o, v, q, r⟩ := z
    exact ⟨o, v, k _ q, r⟩⟩
theorem exc_at {P : Program} {w : World} {H : Hp} {h : Heap} {a : Addr} {c : Value} {d : Option Addr} (hok : HOk P w H h) (he : H a = some (exc a c d)) : ∃ oe vs, h.get? a = some oe ∧ oe.cls = c ∧ oe.dict = d ∧ oe.data = .fields vs := by
  have x : ObjOk P w H h a (.ext fun h => ∃ oe vs, h.get? a = some oe ∧ oe.cls = c ∧ oe.dict = d ∧ oe.data = .fields vs) := hok a _ he
  exact x.1
/-- an object of ours is taken note of -/
theorem Inv.note {a : Addr} {o : HO} {oe : Obj} {vs : Array Value} (I : Inv X pins σ H s) (ha : s.heap.get? a = some oe) (hv : oe.data = .fields vs) (na : H a = none) (n0 : X.s_0.heap.get? a = none) (nL : a ≠ X.env.locals) (np : ∀ p ∈ X.pn ++ pins, p.1 ≠ a) (ok : ObjOk X.prog X.w (upd H a o) s.heap a o) : Inv X pins σ (upd H a o) s := by
  have ne : ∀ {b : Addr} {u : HO}, H b = some u → b ≠ a := fun {b u} h => ne_of_none h na
  refine ⟨I.ok, I.os, I.bare, ⟨I.base.keep, I.base.slot, fun b u h1 h2 h3 => ?_, I.base.there, fun b xs h => ?_, fun b u v h => ?_, fun b ps h => ?_⟩, I.loc, I.cell, ?_, fun x c h => ?_, fun p hp => ?_, fun b u h => ?_, I.len⟩
  · rw [upd_ne (fun z => by rw [z, n0] at h1; cases h1)]
    exact I.base.free b u h1 h2 h3
  · have q := I.base.tups b xs h
    rw [upd_ne (ne q)]; exact q
  · have q := I.base.frzs b u v h
    rw [upd_ne (ne q)]; exact q
  · obtain ⟨more, q⟩ := I.base.tbls b ps h
    exact ⟨more, by rw [upd_ne (ne q)]; exact q⟩
  · rw [upd_ne (fun z => nL z.symm)]; exact I.free
  · rw [upd_ne (fun z => ?_)]
    · exact I.freeC x c h
    · obtain ⟨v, hc⟩ := I.cell x c h
      obtain ⟨oc, h1, h2⟩ := hc
      rw [z, ha] at h1
      cases h1
      rw [hv] at h2; cases h2
  · obtain ⟨h1, h2, h3⟩ := I.pin p hp
    exact ⟨h1, by rw [upd_ne (np p hp)]; exact h2, h3⟩
  · by_cases q : b = a
    · subst q
      rw [upd_same] at h
      cases h
      exact ok
    · rw [upd_ne q] at h
      exact (I.hok b u h).stay (fun c v _ z => z) (fun c hc => by rw [upd_ne (ne hc)]; exact hc) (fun c xs hc => by rw [upd_ne (ne hc)]; exact hc)
end
/-- what the clause wishes: the exception is one of cs; behind the suite it is known -/
def wTup (K : PySem.W.Frag) (cs : List Value) (i : Nat) (ts : Addr → Value → Option Addr → TS) (D : Ends) : WX := fun cls d σ H =>
  PySem.W.exmAny K cls cs = some true ∧ ∀ a, H a = none → ts a cls d { nx := fun σ' H' => D.nx (σ'.set i none) (upd H' a (exc a cls d)), rt := fun _ _ => False } (σ.set i (some (.ref a))) H
section
variable {X : Cx} {n : Str} {cs : List Value} {te : Expr} {i : Nat} {body suite : List Stmt} {b₀ : Stmt} {pos pos' : Pos} {tb : WX → TS} {ts : Addr → Value → Option Addr → TS}
theorem ps_try_tup (hs : X.stack = X.env :: X.outer) (hf : X.env.frame = some X.env.locals) (hN : X.N.Nodup) (hi : X.N[i]? = some n) (hln : X.env.kindOf n = some .local) (hx0 : X.ex = []) (hc : TstOk X te cs)
    (hb : ∀ (W : WX) (pn : List (Addr × Obj)) (xe : Value → Shared → Prop), Takes (X.tr pn xe) W → PassesOwn (model X.prog X.w) X.A X.env xe → PSs (X.tr pn xe) body (tb W))
    (hsu : ∀ (a : Addr) (oe : Obj) (cls : Value) (d : Option Addr) (pn : List (Addr × Obj)), Zc cls d oe → (∃ vs, oe.data = .fields vs) → PSs (X.suite a ((a, oe) :: pn)) (b₀ :: suite) (ts a cls d)) :
    PS X (.Try body [.ExceptHandler (some te) (some n) (b₀ :: suite) pos'] [] [] pos) (fun D σ H => tb (wTup X.K cs i ts D) D σ H) := by
  refine ⟨fun pins s σ H D I h => ?_⟩
  have ok := I.ok
  have hfr : X.A.frames = some (X.env :: X.outer) := by rw [ok.frames, hs]
  have hloc : Loc X.env.scope n := .inl hln
  refine wpAny_Try_except ?_
  refine wpAny_mono ((hb (wTup X.K cs i ts D) (X.pn ++ pins) (fun e s₁ => wpAny (model X.prog X.w) X.A (noteFrame e X.env) (fun _ s₂ => wpAny (model X.prog X.w) X.A (setFlight e none) (fun _ s₃ =>
    wpAny (model X.prog X.w) X.A (handleBy e X.env [.ExceptHandler (some te) (some n) (b₀ :: suite) pos']) (SP X pins D) X.xe s₃) X.xe s₂) X.xe s₁) (fun u s' xx => ?_) PassesOwn.looking).run [] s σ H D (I.toTry _) h) (fun f s1 hsp => ?_) (fun e s1 he => he)
  · obtain ⟨a, B, sI, pins', σ', H', cls, d, rfl, J', nb, up, sky, na, os, ag, hb1, hyes⟩ := xx
    have J : Inv X pins σ' H' sI := J'.ofTry ok
    have sky' : Sky B (X.env :: X.outer) a (Zc cls d) X.env.locals s'.heap := by rw [← hs]; exact sky
    show wpAny (model X.prog X.w) X.A (noteFrame (.ref a) X.env) _ _ _
    refine Sky.land Zc.steady hfr hf sky' fun h3 fl3 up3 => ?_
    have J3 : Inv X pins σ' H' { s' with heap := h3 } := J.landed nb fl3.1 (up.trans up3) os ag
    obtain ⟨oe3, vs3, he3, hz3, hd3⟩ := fl3.there
    have notFr : ∀ {h : Heap} {o : Obj} {vs : Array Value}, h.FunFrames B (X.env :: X.outer) → h.get? a = some o → o.data = .fields vs → a ∉ frs (X.env :: X.outer) := fun {h o vs} ff e dd hm => by
      obtain ⟨_, o', e', hnf⟩ := ff.mem hm
      rw [e] at e'; cases e'
      exact hnf _ dd
    have nfr := notFr fl3.2.2.1 he3 hd3
    have nL : a ≠ X.env.locals := fun z => nfr (List.mem_filterMap.mpr ⟨X.env, List.mem_cons_self, by rw [hf, z]⟩)
    have nF : a ∉ X.fs := fun hm => by
      obtain ⟨e, he, q⟩ := List.mem_filterMap.mp hm
      exact nfr (List.mem_filterMap.mpr ⟨e, List.mem_cons_of_mem _ he, q⟩)
    have nB : B.get? a = none := fl3.2.1
    have nI : sI.heap.get? a = none := by
      cases q : sI.heap.get? a with
      | none => rfl
      | some o =>
        have := nb a o q (by rw [hs]; exact nfr)
        rw [nB] at this; cases this
    have n0 : X.s_0.heap.get? a = none := by
      cases q : X.s_0.heap.get? a with
      | none => rfl
      | some o =>
        obtain ⟨o', h'⟩ := J.base.there a o q (by rw [hx0]; simp)
        rw [nI] at h'; cases h'
    have np : ∀ p ∈ X.pn ++ pins, p.1 ≠ a := fun p hp z => by
      have := (J.pin p hp).1
      rw [z, nI] at this; cases this
    have S3 := J3.suite he3 hd3 na nL nF
    refine wpAny_handleBy_cons (codeAny_handlers_test ?_) (by intro q; cases q)
    have LT : PySem.W.Looks (model X.prog X.w) h3 (typeOf (.ref a)) cls := fun A Q E s k q => wpAny_typeOf_ref (k _ _ he3) (by rw [hz3.1]; exact q)
    refine hc a _ σ' H' { s' with heap := h3 } cls true _ _ S3 LT hb1 fun h3' kp => ?_
    have fl3' := fly_keeps fl3 kp
    refine codeAny_handlers_suite_as ?_
    refine HandSPX.lands_againZ fl3' fun h4 fl4 up4 => ?_
    have J4 : Inv X pins σ' H' { s' with heap := h4 } := J.landed nb fl4.1 (((up.trans up3).trans (Heap.UpToSlots.of_keeps kp)).trans up4) os ag
    obtain ⟨oe4, vs4, he4, hz4, hd4⟩ := fl4.there
    have S4 := J4.suite he4 hd4 na nL nF
    refine store_ok (X := X.suite a ((a, oe4) :: (X.pn ++ pins))) (v := .ref a) S4 hN hi hloc rfl (fun s5 S5 => ?_) (.inr hln)
    refine wpAny_mono ((hsu a oe4 cls d (X.pn ++ pins) hz4 ⟨_, hd4⟩).run [] s5 _ H' _ S5 (hyes a na)) (fun f s6 hsp => ?_) (fun _ _ z => False.elim z)
    cases f with
    | next =>
      obtain ⟨σ6, H6, S6, q6⟩ := hsp
      refine gone_ok (X := X.suite a ((a, oe4) :: (X.pn ++ pins))) S6 hN hi hln fun s7 S7 => ⟨_, _, ?_, q6⟩
      obtain ⟨p1, p2, _⟩ := S7.pin (a, oe4) (List.mem_append_left _ List.mem_cons_self)
      exact Inv.note (S7.unsuite ok) p1 hd4 p2 n0 nL np (exc_ok p1 hz4.1 hz4.2 hd4)
    | brk =>
      obtain ⟨σ6, H6, S6, q6⟩ := hsp
      exact q6.elim
    | cont =>
      obtain ⟨σ6, H6, S6, q6⟩ := hsp
      exact q6.elim
    | ret u =>
      obtain ⟨v6, σ6, H6, S6, r6, q6⟩ := hsp
      exact q6.elim
  · cases f with
    | next =>
      obtain ⟨σ', H', J', q⟩ := hsp
      exact wpAny_execs_nil ⟨σ', H', J'.ofTry ok, q⟩
    | brk =>
      obtain ⟨σ', H', J', q⟩ := hsp
      exact ⟨σ', H', J'.ofTry ok, q⟩
    | cont =>
      obtain ⟨σ', H', J', q⟩ := hsp
      exact ⟨σ', H', J'.ofTry ok, q⟩
    | ret u =>
      obtain ⟨v, σ', H', J', r, q⟩ := hsp
      exact ⟨v, σ', H', J'.ofTry ok, r, q⟩
end
end Lp

namespace Lp
open PySem PySem.Spec PyProof.Rows L2
theorem Rep.unset {w : Wx} {Z : Zx} {O : Addr → Prop} {σ : L2.St} {ε : Env} {L H : Hp} (x : Rep w Z O L H σ ε) {i : Nat} : Rep w Z O L H (σ.set i none) (ε.set i .un) := by
  refine ⟨x.lh, x.pn, x.ex, x.bo, x.oh, ?_, fun j y hy => ?_, fun j k y z a hjk hy hz oy oz hj hk => ?_, x.ph⟩
  · show (σ.set i none).length = (ε.s.set i .un).length
    rw [List.length_set, List.length_set]; exact x.len
  · rcases get_set hy with ⟨rfl, rfl, hl⟩ | ⟨ne, hy⟩
    · exact ⟨none, by rw [List.getElem?_set, if_pos rfl, if_pos (by rw [x.len]; exact hl)], trivial⟩
    · obtain ⟨o, h1, h2⟩ := x.sl j y hy
      exact ⟨o, by rw [List.getElem?_set, if_neg ne]; exact h1, h2⟩
  · rcases get_set hy with ⟨rfl, rfl, hl⟩ | ⟨ne, hy⟩
    · cases oy
    · rcases get_set hz with ⟨rfl, rfl, hl⟩ | ⟨ne', hz⟩
      · cases oz
      · rw [List.getElem?_set, if_neg ne] at hj
        rw [List.getElem?_set, if_neg ne'] at hk
        exact x.di j k y z a hjk hy hz oy oz hj hk
theorem set3 {α : Type} (l : List α) (i j : Nat) (a b c : α) : ((l.set i a).set j b).set i c = (l.set j b).set i c := by
  by_cases h : i = j
  · subst h
    simp
  · rw [List.set_comm a b h, List.set_set]
/-- try: .. except (..) as e: x = e; i is e's slot, j is x's -/
def dTry (i j : Nat) (nms : List Str) (fb : (Xn → Env → Prop) → DTS) (Δ : DEnds) (ε : Env) : Prop := ∃ Ex : Xn → Env → Prop, (∀ x ε', Ex x ε' → nms.contains x.cls = true ∧ i < ε'.s.length ∧ Δ.nx ((ε'.set j (.exn x)).set i .un)) ∧ fb Ex Δ ε
theorem ss_try {w : Wx} {K : PySem.W.Frag} {cs : List Value} {i j : Nat} {nms : List Str} {tb : WX → TS} {fb : (Xn → Env → Prop) → DTS} (hcl : ∀ nm C, nms.contains nm = true → w.cl nm = some C → PySem.W.exmAny K (.ref C) cs = some true)
    (hb : ∀ P0 W Ex, SS (WxE w.w w.cl P0 W Ex) (tb W) (fb Ex)) : SS w (fun D σ H => tb (wTup K cs i (fun _ _ _ => tAsg (tVar i) (gName j)) D) D σ H) (dTry i j nms fb) := by
  constructor
  · rintro Δ Δ' ε l ⟨Ex, h1, h2⟩
    exact ⟨Ex, fun x ε' q => ⟨(h1 x ε' q).1, (h1 x ε' q).2.1, l.nx _ (h1 x ε' q).2.2⟩, (hb (fun _ => none) (fun _ _ _ _ => True) Ex).mono _ _ _ l h2⟩
  · rintro Z O σ ε L H D Δ X E ⟨Ex, hEx, z⟩
    refine (hb Z.P _ Ex).run Z O σ ε L H D Δ (X.chg rfl rfl ⟨Same.refl _, fun P O σ ε L H cls d x sP X' xr q => ?_⟩) (E.chg rfl rfl X.ph) z
    obtain ⟨C, hC, rfl, xf⟩ := xr
    obtain ⟨hm, hi, q⟩ := hEx x ε q
    have X1 : Rep w Z O L H σ ε := (Rep.unpin (w := W1 w.w w.cl) sP trivial X').chg rfl rfl X.ph
    refine ⟨hcl _ _ hm hC, fun a na => ?_⟩
    have e2 : Ext none L H (upd L a (exc a (.ref C) d)) (upd H a (exc a (.ref C) d)) := Ext.new X1.lh na
    have X2 := X1.step e2 (same_both X1.lh)
    have X3 := ((X2.rawS (i := i) (v := .ref a)).exnS (i := j) (v := .ref a) (y := x) ⟨a, C, d, rfl, hC, upd_same, xf.to e2.ll⟩).unset (i := i)
    have e3 : (((ε.set i (.raw (.ref a))).set j (.exn x)).set i .un) = ((ε.set j (.exn x)).set i .un) := by
      show Env.mk (((ε.s.set i _).set j _).set i _) ε.c = Env.mk ((ε.s.set j _).set i _) ε.c
      rw [set3]
    rw [e3] at X3
    refine ⟨.ref a, ?_, E.nx O _ _ _ _ X3 q⟩
    rw [List.getElem?_set, if_pos rfl, if_pos (by rw [X1.len]; exact hi)]
/-- None, or a caught exception, and its class -/
def TyE (K : PySem.W.Frag) (H : Hp) (v : V) (t : Value) : Prop := (v = .non ∧ t = .type "NoneType") ∨ ∃ (a C : Addr) (d : Option Addr), v = .ref a ∧ t = .ref C ∧ H a = some (exc a (.ref C) d) ∧ (d = none ∨ ∃ dd fs, d = some dd ∧ H dd = some (.xd fs)) ∧ ExcC K C
def rIsX (K : PySem.W.Frag) : List V → Hp → VK → Prop := fun xs H Q => ∃ (x c : V) (t u : Value) (b : Bool), xs = [x, c] ∧ ClsV c u ∧ TyE K H x t ∧ PySem.W.kitOne K t u = some b ∧ Q (.bl b) H
def rIsXT (K : PySem.W.Frag) : List V → Hp → VK → Prop := fun xs H Q => ∃ (x : V) (tp : Addr) (cs : List V) (t : Value) (us : List Value) (b : Bool), xs = [x, .ref tp] ∧ H tp = some (.tup cs) ∧ Paired ClsV cs us ∧ TyE K H x t ∧ PySem.W.kitAny K t us = some b ∧ Q (.bl b) H
section
variable {X : Cx} {pins : List (Addr × Obj)} {σ : L2.St} {H : Hp} {s : Shared}
theorem inst_of {a C : Addr} {d : Option Addr} (I : Inv X pins σ H s) (ea : H a = some (exc a (.ref C) d)) (hd : d = none ∨ ∃ dd fs, d = some dd ∧ H dd = some (.xd fs)) : ∃ oe od, PySem.W.InstAt s.heap a oe C od := by
  obtain ⟨oe, vs, h1, h2, h3, h4⟩ := exc_at I.hok ea
  rcases hd with rfl | ⟨dd, fs, rfl, ed⟩
  · exact ⟨oe, none, h1, h2, by unfold PySem.W.notCls; rw [h4] <;> rfl, by rw [h3]; trivial⟩
  · have hx : ObjOk X.prog X.w H s.heap dd (.xd fs) := I.hok dd _ ed
    obtain ⟨mA, hns, hr⟩ := hx
    obtain ⟨od, ho, hl⟩ := lookIn_ns hns
    exact ⟨oe, some od, h1, h2, by unfold PySem.W.notCls; rw [h4] <;> rfl, by rw [h3]; exact ho⟩
theorem kit_ofE {v : V} {t u : Value} (I : Inv X pins σ H s) (r : RelV v u) (ty : TyE X.K H v t) : ∃ P, PySem.W.KitX X.K u t P ∧ P s.heap ∧ u ≠ .builtin "__main__.__loader__#opaque" := by
  rcases ty with ⟨rfl, rfl⟩ | ⟨a, C, d, rfl, rfl, ea, hd, T⟩
  · cases (show u = Value.none from r)
    exact ⟨_, PySem.W.kitx_none, True.intro, fun z => nomatch z⟩
  · cases (show u = Value.ref a from r)
    obtain ⟨oe, od, J⟩ := inst_of I ea hd
    exact ⟨_, PySem.W.kitx_exc (by obtain ⟨cd, hc, _⟩ := PySem.W.any_some T.hd; rw [hc]; rfl) T.hg T.hk T.hs T.ha T.hn T.ht T.hm, J, fun z => nomatch z⟩
theorem call_isX : CallR X (.builtin "isinstance") (rIsX X.K) := by
  intro pins s σ H xs us Q I r h
  obtain ⟨x, c, t, u, b, rfl, k, ty, e, q⟩ := h
  obtain ⟨u1, u2, rfl, r1, r2⟩ := vals2 r
  have e2 := k.eq r2
  subst e2
  obtain ⟨P, Z, p, hx⟩ := kit_ofE I r1 ty
  exact PySem.W.kia_one Z I.kIn p e hx fun tk => ⟨.bl b, H, I.tok tk, rfl, q⟩
theorem call_isXT : CallR X (.builtin "isinstance") (rIsXT X.K) := by
  intro pins s σ H xs us Q I r h
  obtain ⟨x, tp, cs, t, ws, b, rfl, hT, k, ty, e, q⟩ := h
  obtain ⟨u1, u2, rfl, r1, r2⟩ := vals2 r
  cases (show u2 = Value.ref tp from r2)
  obtain ⟨P, Z, p, hx⟩ := kit_ofE I r1 ty
  obtain ⟨_, its, rv, o, h1, h2, n, h3⟩ := (show ObjOk X.prog X.w H s.heap tp (.tup cs) from I.hok tp _ hT)
  have e3 := ClsV.all k rv
  subst e3
  obtain ⟨oc, od, dt, sl⟩ := o
  simp only at h2 h3
  subst h2 h3
  exact PySem.W.kia_tup Z I.kIn p h1 e hx fun tk => ⟨.bl b, H, I.tok tk, rfl, q⟩
theorem isXK {K : PySem.W.Frag} (e : X.K = K) : CallR X (.builtin "isinstance") (rIsX K) := e ▸ call_isX
theorem isXTK {K : PySem.W.Frag} (e : X.K = K) : CallR X (.builtin "isinstance") (rIsXT K) := e ▸ call_isXT
/-- e.f -/
def tXg (K : PySem.W.Frag) (f : Str) (te : TE) : TE := fun σ H Q => te σ H fun x H1 => ∃ (a C dd : Addr) (fs : List (Str × V)) (v : V), x = .ref a ∧ H1 a = some (exc a (.ref C) (some dd)) ∧ XfC K C ∧ PySem.W.findIn K (.ref C) f = some none ∧ H1 dd = some (.xd fs) ∧ fs.lookup f = some v ∧ Q v H1
theorem pe_xg {e : Expr} {te : TE} {pos : Pos} {n : Str} (he : PE X e te) (hb : attributeBase e n X.env (eval e X.env) = eval e X.env := by rfl) : PE X (.Attribute e n pos) (tXg X.K n te) := by
  refine ⟨fun pins s σ H Q I h => ?_⟩
  refine attr_of hb (thn (he.run pins s σ H _ I h) fun u s1 hh => ?_)
  obtain ⟨x, H1, I1, rx, a, C, dd, fs, v, ex, ea, T, hno, ed, l, q⟩ := hh
  subst ex
  obtain rfl : u = Value.ref a := rx
  obtain ⟨oe, vs, h1, h2, h3, h4⟩ := exc_at I1.hok ea
  have hx : ObjOk X.prog X.w H1 s1.heap dd (.xd fs) := I1.hok dd _ ed
  obtain ⟨mA, hns, hr⟩ := hx
  obtain ⟨od, ho, hl⟩ := lookIn_ns hns
  obtain ⟨u, hu, ru⟩ := RelO.some_of (v := v) (o := mA n) (by rw [← l]; exact hr n)
  have J : PySem.W.InstAt s1.heap a oe C (some od) := ⟨h1, h2, by unfold PySem.W.notCls; rw [h4] <;> rfl, by rw [h3]; exact ho⟩
  exact HandSPX.exc_get I1.kIn J T.ga T.gg T.exC (PySem.W.findObj_own T.hdC hno rfl (by rw [hl, hu])) (handed_of ru) ⟨v, H1, I1.tok _, ru, q⟩
theorem xgK {K : PySem.W.Frag} {e : Expr} {te : TE} {n : Str} (h : X.K = K) (x : PE X e (tXg X.K n te)) : PE X e (tXg K n te) := h ▸ x
end
def baseX : Str → Str
  | "NoPerson" => "LookupError" | "NoNumber" => "LookupError" | "NoDeed" => "LookupError"
  | "OtherSize" => "ValueError" | "NoRoot" => "ValueError" | "MissingRoot" => "ValueError" | "NotKin" => "ValueError" | "NotPast" => "ValueError" | "BadDeed" => "ValueError" | "BadText" => "ValueError" | "BadLine" => "ValueError"
  | "Unreachable" => "RuntimeError" | "NoCommon" => "RuntimeError" | "Denied" => "RuntimeError" | "IsRoot" => "RuntimeError"
  | "TooMany" => "OverflowError"
  | _ => ""
def subX (c n : Str) : Bool := c == n || baseX c == n
def dIsX (nms : List Str) (f : DTE) (ε : Env) (Q : R → Env → Prop) : Prop := f ε fun r ε1 => match r with
  | .exn x => Q (.sh (.bool (nms.any (subX x.cls)))) ε1
  | .sh .none => Q (.sh (.bool false)) ε1
  | _ => False
def dAttr (n : Str) (f : DTE) (ε : Env) (Q : R → Env → Prop) : Prop := f ε fun r ε1 => match r with
  | .exn x => ∃ d, x.fs.lookup n = some d ∧ Q (.sh d) ε1
  | _ => False
theorem FVs.look {H : Hp} {n : Str} {d : PyData} : ∀ {vs : List (Str × V)} {ds : List (Str × PyData)}, FVs H vs ds → ds.lookup n = some d → ∃ v, vs.lookup n = some v ∧ DV H v d
  | _, _, .nil, e => by cases e
  | _, _, .cons (f := f) a r, e => by
    unfold List.lookup at e ⊢
    split at e
    · rename_i h
      cases e
      exact ⟨_, rfl, a⟩
    · exact r.look e
section
variable {w : Wx} {K : PySem.W.Frag} {te : TE} {f : DTE}
theorem XF.dict {H : Hp} {d : Option Addr} {fs : List (Str × PyData)} (x : XF H d fs) : d = none ∨ ∃ dd vs, d = some dd ∧ H dd = some (.xd vs) := by
  cases d with
  | none => exact .inl rfl
  | some dd =>
    obtain ⟨vs, h, _⟩ := x
    exact .inr ⟨dd, vs, rfl, h⟩
theorem TyE.of {H L : Hp} {v : V} {x : Xn} {C : Addr} (h : XV w L v x) (s : Same L H) (hC : w.cl x.cls = some C) (T : ExcC K C) : TyE K H v (.ref C) := by
  obtain ⟨a, C', d, h1, h2, h3, h4⟩ := h
  rw [hC] at h2
  cases h2
  exact .inr ⟨a, C, d, h1, rfl, s _ _ h3, (h4.to s).dict, T⟩
/-- isinstance(e, C) -/
theorem se_isX {nm : Str} {c : V} {u : Value} (hT : ∀ n C, w.cl n = some C → ExcC K C) (k : ClsV c u) (hk : ∀ n C, w.cl n = some C → PySem.W.kitOne K (.ref C) u = some (subX n nm)) (h0 : PySem.W.kitOne K (.type "NoneType") u = some false) (hf : SE w te f) :
    SE w (tCB (rIsX K) (tCons te (tCons (tC c) tNil))) (dIsX [nm] f) := by
  constructor
  · intro ε A B h q
    refine hf.mono _ _ _ (fun r ε1 q => ?_) q
    split at q
    · exact h _ _ q
    · exact h _ _ q
    · exact q.elim
  · intro Z O σ ε L H Q X q
    refine hf.run Z O σ ε L H _ X (hf.mono _ _ _ (fun r ε1 q => ?_) q)
    intro v L1 H1 X1 e1 r1
    split at q
    · rename_i x
      have r2 : XV w L1 v x := r1
      obtain ⟨a, C, d, h1, h2, h3, h4⟩ := id r2
      exact ⟨v, c, .ref C, u, _, rfl, k, TyE.of r2 X1.lh h2 (hT _ _ h2), hk _ _ h2, q _ L1 H1 X1 e1 (by rw [show ([nm].any (subX x.cls)) = subX x.cls nm by simp]; exact .bl _)⟩
    · have r2 : DV L1 v .none := r1
      cases r2
      exact ⟨.non, c, .type "NoneType", u, false, rfl, k, .inl ⟨rfl, rfl⟩, h0, q _ L1 H1 X1 e1 (.bl _)⟩
    · exact q.elim
/-- e.f -/
theorem se_attr {n : Str} (hT : ∀ m C, w.cl m = some C → XfC K C ∧ PySem.W.findIn K (.ref C) n = some none) (hf : SE w te f) : SE w (tXg K n te) (dAttr n f) := by
  constructor
  · intro ε A B h q
    refine hf.mono _ _ _ (fun r ε1 q => ?_) q
    split at q
    · obtain ⟨d, h1, h2⟩ := q
      exact ⟨d, h1, h _ _ h2⟩
    · exact q.elim
  · intro Z O σ ε L H Q X q
    refine hf.run Z O σ ε L H _ X (hf.mono _ _ _ (fun r ε1 q => ?_) q)
    intro v L1 H1 X1 e1 r1
    split at q
    · rename_i x
      obtain ⟨d, hd, q⟩ := q
      have r2 : XV w L1 v x := r1
      obtain ⟨a, C, d', h1, h2, h3, h4⟩ := r2
      cases d' with
      | none =>
        have h4' : x.fs = [] := h4
        rw [h4'] at hd; cases hd
      | some dd =>
        obtain ⟨vs, g1, g2⟩ := h4
        obtain ⟨u, g3, g4⟩ := g2.look hd
        exact ⟨a, C, dd, vs, u, h1, X1.lh _ _ h3, (hT _ _ h2).1, (hT _ _ h2).2, X1.lh _ _ g1, g3, q _ L1 H1 X1 e1 g4⟩
    · exact q.elim
end
end Lp

namespace Lp
open PySem PySem.Spec PyProof.Rows L2
section
variable {X : Cx} {o e : Expr} {es : List Expr} {to te : TE} {ta : TA} {f : Str} {p p' p1 p2 pos : Pos} {B newId initId : String} {bm : List Value}
end
abbrev bm_LookupError : List Value := [.type "LookupError", .type "Exception", .type "BaseException", .type "object"]
abbrev bm_ValueError : List Value := [.type "ValueError", .type "Exception", .type "BaseException", .type "object"]
/-- what the written part says of a class of exceptions -/
structure ClF (K : PySem.W.Frag) (C : Addr) (bm : List Value) (newId : String) : Prop where
  cls : ∃ nm q N bs sn sub ab col dd k0 k1 k2 k3 k5, K.lookup C = some (excClassObj nm q C N bs bm true sn sub ab col dd k0 k1 k2 k3 k5 newId)
  sa : PySem.W.findIn K (.ref C) "__setattr__" = some (some (.builtin "object.__setattr__"))
  tyC : PySem.W.typeIn K (.ref C) = some (.type "type")
  kC : PySem.W.keepIn K (.ref C) = true
  hg : PySem.W.findIn K (.ref C) "__getattribute__" = some (some (.builtin "BaseException.__getattribute__"))
  hk : PySem.W.findIn K (.ref C) "__getattr__" = some none
  hs : PySem.W.subIn K (.ref C) (.type "BaseException") = some true
  hd : PySem.W.hasDictIn K C = true
  ha : PySem.W.findIn K (.ref C) "__class__" = some (some (.builtin "object.__class__"))
  hn : PySem.W.specialIn K (.builtin "object.__class__") "__get__" = some (some (.builtin "getset_descriptor.__get__"))
  ht : PySem.W.takesIn K (.builtin "object.__class__") = some true
  hm : PySem.W.mroIn K C (.type "object") = some true
theorem clf_mk {K : PySem.W.Frag} {C : Addr} {bm : List Value} {newId : String} {nm q : Str} {N : Addr} {bs : List Value} {sn : _} {sub : _} {ab : _} {col : _} {dd : _} {k0 k1 k2 k3 k5 : _} (cls : K.lookup C = some (excClassObj nm q C N bs bm true sn sub ab col dd k0 k1 k2 k3 k5 newId))
    (sa : PySem.W.findIn K (.ref C) "__setattr__" = some (some (.builtin "object.__setattr__"))) (tyC : PySem.W.typeIn K (.ref C) = some (.type "type")) (kC : PySem.W.keepIn K (.ref C) = true)
    (hg : PySem.W.findIn K (.ref C) "__getattribute__" = some (some (.builtin "BaseException.__getattribute__"))) (hk : PySem.W.findIn K (.ref C) "__getattr__" = some none) (hs : PySem.W.subIn K (.ref C) (.type "BaseException") = some true)
    (hd : PySem.W.hasDictIn K C = true) (ha : PySem.W.findIn K (.ref C) "__class__" = some (some (.builtin "object.__class__"))) (hn : PySem.W.specialIn K (.builtin "object.__class__") "__get__" = some (some (.builtin "getset_descriptor.__get__")))
    (ht : PySem.W.takesIn K (.builtin "object.__class__") = some true) (hm : PySem.W.mroIn K C (.type "object") = some true) : ClF K C bm newId := ⟨⟨nm, q, N, bs, sn, sub, ab, col, dd, k0, k1, k2, k3, k5, cls⟩, sa, tyC, kC, hg, hk, hs, hd, ha, hn, ht, hm⟩
theorem ClF.xc {K : PySem.W.Frag} {C : Addr} {bm : List Value} {newId : String} (c : ClF K C bm newId) : ExcC K C := ⟨c.hg, c.hk, c.hs, c.hd, c.ha, c.hn, c.ht, c.hm⟩
theorem ClF.xf {K : PySem.W.Frag} {C : Addr} {bm : List Value} {newId : String} (c : ClF K C bm newId) : XfC K C := ⟨c.hg, c.hk, c.hs, c.hd⟩
theorem ClF.ox_LookupError {K : PySem.W.Frag} {C : Addr} (c : ClF K C bm_LookupError "LookupError.__new__") : OexB K C "LookupError" "LookupError.__new__" "LookupError.__init__" bm_LookupError := ⟨PySem.F.excBase_LookupError, fun self => PySem.F.store_LookupError.passes self, by decide, c.cls, c.sa, c.hs, c.tyC, c.kC⟩
theorem ClF.ox_ValueError {K : PySem.W.Frag} {C : Addr} (c : ClF K C bm_ValueError "ValueError.__new__") : OexB K C "ValueError" "ValueError.__new__" "ValueError.__init__" bm_ValueError := ⟨PySem.F.excBase_ValueError, fun self => PySem.F.store_ValueError.passes self, by decide, c.cls, c.sa, c.hs, c.tyC, c.kC⟩
/-- the def of a method -/
theorem funI_mk {K : PySem.W.Frag} {x qual : Str} {st : Stmt} {f : Addr} {oc : Value} {od an : Option Addr} {sl : Array (Option Value)} {kV dc pm cd ct : Value}
    (l : K.lookup f = some ⟨oc, od, .func (PySem.W.fnOf x qual (defArgs st) (defBody st) (defScope st) .none kV dc pm an cd ct), sl⟩) (c : PySem.W.codeIn K cd qual = true) (k : PySem.W.keepIn K (.ref f) = true) : ∃ fd, Fun K x qual st f fd := ⟨_, ⟨_, _, _, _, _, _, _, _, _, rfl, l, c⟩, k⟩
/-- a class that can be raised: its __init__ keeps its promise -/
structure Ini (P : Program) (w : World) (K : PySem.W.Frag) (mg : Str → Option Value) (base : Heap) (nm fld : Str) (C : Addr) (k : Nat) : Prop where
  ex : ∃ (B newId initId : String) (bm : List Value) (fI : Addr) (fd : FuncData), OexB K C B newId initId bm ∧ PySem.W.findIn K (.ref C) "__init__" = some (some (.ref fI)) ∧ PySem.W.typeIn K (.ref fI) = some (.type "function") ∧ FnOk P w K mg base CX0 k fI fd ["self", fld] (spI K C fld) ∧ Binds K fd ["self", fld] []
theorem pmkI {X : Cx} {nm fld : Str} {C : Addr} {k : Nat} {K : PySem.W.Frag} {e : Expr} {ta : TA} {p pos : Pos} (eK : X.K = K) (I : Ini X.prog X.w X.K X.mg X.base nm fld C k) (hm : X.mg nm = some (.ref C)) (hr : Room (k + 1) X.A) (hg : Gl X nm) (ha : PA X [e] ta) (hdb : (nm == ("__debug__" : Str)) = false := by decide)
    (he : starEach [e] X.env = (false, eval e X.env) :: starEach [] X.env := by rfl) : PMk X (.Call (.Name nm p) [e] [] pos) (tMkO C (spI K C fld) [] ta) := by
  subst eK
  obtain ⟨B, newId, initId, bm, fI, fd, T, iC, tI, F1, hb⟩ := I.ex
  exact pmk_B .nil T iC tI F1 hr hb pass0 hg hm ha hdb he
/-- what is said of all classes of a table -/
def AllL (p : Str → Addr → Prop) : List (Str × Addr) → Prop
  | [] => True
  | q :: r => p q.1 q.2 ∧ AllL p r
abbrev clT (l : List (Str × Addr)) : Str → Option Addr := fun x => List.lookup x l
theorem allL {p : Str → Addr → Prop} : ∀ {l : List (Str × Addr)}, AllL p l → ∀ n C, clT l n = some C → p n C
  | [], _, _, _, e => by cases e
  | (m, D) :: r, h, n, C, e => by
    unfold clT List.lookup at e
    split at e
    · rename_i q
      cases e
      rw [beq_iff_eq] at q
      subst q
      exact h.1
    · exact allL h.2 n C e
/-- a def that may raise -/
structure CalX (P : Program) (w : World) (K : PySem.W.Frag) (mg : Str → Option Value) (base : Heap) (cl : Str → Option Addr) (x : Str) (k : Nat) (ps : List Str) (F : DSpX) (f : Addr) (fd : FuncData) : Prop where
  ok : FnOk P w K mg base (L2.CX P w) k f fd ps (spX cl ps.length F)
  g : mg x = some (.ref f)
  kp : PySem.W.keepIn K (.ref f) = true
  bd : Binds K fd ps []
section
variable {P : Program} {w : World} {K : PySem.W.Frag} {mg : Str → Option Value} {base : Heap} {cl : Str → Option Addr}
/-- a def that catches -/
theorem okDC {x qual : Str} {st : Stmt} {f : Addr} {fd : FuncData} {N ps : List Str} {k j : Nat} {p : DTS} {F : DSp} (G : Fun K x qual st f fd) (S : FnScope N ps (defScope st)) (hj : N.length = ps.length + j)
    (body : ∀ (cdv : Value) (A : Around) (outer : List PySem.Env) (s : Shared) (H : Hp) (E : XK), Room k (A.deeper (envOfC qual (defScope st) s.heap.objs.size f cdv)) → ∃ t, PSs (cxOf CX0 P w K mg base N qual (defScope st) f cdv A outer s H E).nox (defBody st) t ∧ SS (W1 w cl) t p)
    (h : ∀ args c Q, F args c Q → defF j p args c Q) : FnOk P w K mg base CX0 (k + 1) f fd ps (spD ps.length F) := by
  refine G.ok S (fun vs H Q E h => spD_len h) fun cdv A outer s H vs Q E hr q => ?_
  obtain ⟨t, ht, hs⟩ := body cdv A outer s H E hr
  refine ⟨t, ht, ?_⟩
  obtain ⟨b, L, c, args, hn, z, a, q⟩ := spD_imp h q
  refine hs.run _ _ _ _ L H _ _ (rep_start (w := W1 w cl) z a (by omega) trivial) ?_ q
  refine ⟨fun O σ ε L' H' X q => ?_, fun O σ ε L' H' v r X hr q => ?_, fun O σ ε L' H' X q => q.elim, fun O σ ε L' H' X q => q.elim⟩
  · exact q .non L' H' ⟨X.lh, fun a ha => ⟨(X.bo a ha).1, (X.bo a ha).2.1⟩⟩ X.ex DV.non
  · exact q v L' H' ⟨X.lh, fun a ha => ⟨(X.bo a ha).1, (X.bo a ha).2.1⟩⟩ X.ex hr
end
def tCls : List V → TA
  | [] => tNil
  | c :: r => tCons (tC c) (tCls r)
theorem tCls_run : ∀ (cs : List V) (σ : L2.St) (H : Hp) (Q : List V → Hp → Prop), Q cs H → tCls cs σ H Q
  | [], _, _, _, q => q
  | c :: r, σ, H, Q, q => tCls_run r σ H _ q
def dIsNE (neg : Bool) (f : DTE) (ε : Env) (Q : R → Env → Prop) : Prop := f ε fun r ε1 => match r with
  | .exn _ => Q (.sh (.bool neg)) ε1
  | r => match r.dat with
    | some d => Q (.sh (.bool (if neg then !isN d else isN d))) ε1
    | none => False
section
variable {w : Wx} {K : PySem.W.Frag} {te : TE} {f : DTE}
theorem se_isXT {nms : List Str} {cs : List V} {us : List Value} (hT : ∀ n C, w.cl n = some C → ExcC K C) (k : Paired ClsV cs us) (hk : ∀ n C, w.cl n = some C → PySem.W.kitAny K (.ref C) us = some (nms.any (subX n))) (h0 : PySem.W.kitAny K (.type "NoneType") us = some false) (hf : SE w te f) (hl : cs.length ≤ sizeLine := by decide) :
    SE w (tCB (rIsXT K) (tCons te (tCons (tTup (tCls cs)) tNil))) (dIsX nms f) := by
  constructor
  · intro ε A B h q
    refine hf.mono _ _ _ (fun r ε1 q => ?_) q
    split at q
    · exact h _ _ q
    · exact h _ _ q
    · exact q.elim
  · intro Z O σ ε L H Q X q
    refine hf.run Z O σ ε L H _ X (hf.mono _ _ _ (fun r ε1 q => ?_) q)
    intro v L1 H1 X1 e1 r1
    refine tCls_run cs σ H1 _ ⟨hl, fun p np => ?_⟩
    have e2 : Ext none L1 H1 L1 (upd H1 p (.tup cs)) := Ext.own np
    have X2 := X1.step e2 (same_own X1.lh (X1.lh.free np))
    split at q
    · rename_i x
      have r2 : XV w L1 v x := r1
      obtain ⟨a, C, d, h1, h2, h3, h4⟩ := id r2
      exact ⟨v, p, cs, .ref C, us, _, rfl, upd_same, k, TyE.of r2 X2.lh h2 (hT _ _ h2), hk _ _ h2, q _ L1 _ X2 (e1.trans e2.any) (.bl _)⟩
    · have r2 : DV L1 v .none := r1
      cases r2
      exact ⟨.non, p, cs, .type "NoneType", us, false, rfl, upd_same, k, .inl ⟨rfl, rfl⟩, h0, q _ L1 _ X2 (e1.trans e2.any) (.bl _)⟩
    · exact q.elim
end
def gx (F : DSpX) (o : Option (List SV)) (b : Bool) (ε : Env) (Q : R → Env → Prop) (Ex : Xn → Env → Prop) : Prop := match o with
  | some args => b = false ∧ F args ε.c (fun r c => Q r ⟨ε.s, c⟩) (fun x c => Ex x ⟨ε.s, c⟩)
  | none => False
theorem dArgsX_ (F : DSpX) (rs : List R) (ε : Env) (Q : R → Env → Prop) (Ex : Xn → Env → Prop) : dArgsX F rs ε Q Ex = gx F (argsOf rs) (hasBr rs) ε Q Ex := rfl
theorem gx_s (F : DSpX) (args : List SV) (b : Bool) (ε : Env) (Q : R → Env → Prop) (Ex : Xn → Env → Prop) : gx F (some args) b ε Q Ex = (b = false ∧ F args ε.c (fun r c => Q r ⟨ε.s, c⟩) (fun x c => Ex x ⟨ε.s, c⟩)) := rfl
end Lp

namespace Lp
open PySem PySem.Spec PyProof.Rows L2
def tNames (fs : List (Addr × Sp)) : TA := fun _ H Q => Q (fs.map fun q => V.ref q.1) H
def PkOk (X : Cx) (CX : CXT) (q : Addr × Sp) : Prop := ∃ (k : Nat) (fd : FuncData) (ps : List Str), FnOk X.prog X.w X.K X.mg X.base CX k q.1 fd ps q.2 ∧ Room k X.A ∧ PySem.W.keepIn X.K (.ref q.1) = true ∧ Binds X.K fd ps []
structure Pks (X : Cx) (CX : CXT) (es : List Expr) (fs : List (Addr × Sp)) : Prop where
  pa : PA X es (tNames fs)
  ok : ∀ q ∈ fs, PkOk X CX q
def tPick (K : PySem.W.Frag) (fs : List (Addr × Sp)) (tb : TE) (E : L2.St → XK) (t : TA) : TE := fun σ H Q => tOp (rIx K) (tLst (tNames fs)) tb σ H fun v H1 => ∃ q ∈ fs, v = .ref q.1 ∧ t σ H1 fun vs H2 => q.2 vs H2 Q (E σ)
section
variable {X : Cx} {CX : CXT} {k : Nat} {f : Addr} {fd : FuncData} {ps : List Str} {sp : Sp} {x : Str} {p p1 p2 pos : Pos} {e b : Expr} {es as : List Expr} {tb : TE} {t : TA} {fs : List (Addr × Sp)} {K : PySem.W.Frag}
theorem pks_nil : Pks X CX [] [] := ⟨pa_nil, fun _ h => nomatch h⟩
theorem pks_cons (F : FnOk X.prog X.w X.K X.mg X.base CX k f fd ps sp) (hr : Room k X.A) (hg : Gl X x) (hm : X.mg x = some (.ref f)) (hk : PySem.W.keepIn X.K (.ref f) = true) (hb : Binds X.K fd ps []) (r : Pks X CX es fs)
    (hd : (x == ("__debug__" : Str)) = false := by decide) (hs : starEach (.Name x p :: es) X.env = (false, eval (.Name x p) X.env) :: starEach es X.env := by rfl) : Pks X CX (.Name x p :: es) ((f, sp) :: fs) := by
  refine ⟨pa_cons (te := tC (.ref f)) (pe_glob hg hm rfl hd) r.pa hs, fun q h => ?_⟩
  rcases List.mem_cons.mp h with rfl | h
  · exact ⟨k, fd, ps, F, hr, hk, hb⟩
  · exact r.ok q h
theorem arm_pick (ls : List Expr) (p1 : Pos) (b : Expr) (p2 : Pos) (args : List Expr) (keywords : List Keyword) (pos : Pos) (env : PySem.Env) : eval (.Call (.Subscript (.List ls p1) b p2) args keywords pos) env = (do
    callWith pos (← eval (.Subscript (.List ls p1) b p2) env) [] (backTo pos (starEach args env)) (backToKw pos (keywordEach keywords env))) := rfl
theorem pe_pick {E : L2.St → XK} (ix : IxR X (rIx K)) (hx : ∀ σ, PassesAt CX X σ (E σ)) (P : Pks X CX es fs) (hb : PE X b tb) (hs : PlainIx b) (ha : PA X (e :: as) t)
    (he : starEach (e :: as) X.env = (false, eval e X.env) :: starEach as X.env := by rfl) (plain : (backTo pos (starEach as X.env)).any (·.1) = false := by rfl) :
    PE X (.Call (.Subscript (.List es p1) b p2) (e :: as) [] pos) (tPick K fs tb E t) := by
  refine ⟨fun pins s σ H Q I h => ?_⟩
  rw [arm_pick]
  refine wpAny_bind (thn ((pe_ix ix (pe_lst (pos := p1) P.pa) hb hs (pos := p2)).run pins s σ H _ I h) fun u s1 got => ?_)
  obtain ⟨v, H1, I1, r1, ⟨f, sp⟩, hq, rfl, q⟩ := got
  cases r1
  obtain ⟨k, fd, ps, F, hr, hk, hb'⟩ := P.ok _ hq
  refine PySem.W.callWith_K (h₀ := X.base) I1.ok.mod.kin hk (thn (ha.run pos pins s1 σ _ _ I1 q) fun us s2 got => ?_) he plain
  obtain ⟨vs, H2, I2, r, q⟩ := got
  exact ⟨I2.kIn, run_fnS F hr hb' (hx σ) I2 r q⟩
end
def dPickX (Fs : List DSpX) (Ex : Xn → Env → Prop) (g : DTE) (f : DTA) (ε : Env) (Q : R → Env → Prop) : Prop := g ε fun y ε1 => match y.dat with
  | some (.int i) => ∃ F, atI Fs i = some F ∧ dCallX F Ex f ε1 Q
  | _ => False
def AllX (cl : Str → Option Addr) (n : Nat) : List (Addr × Sp) → List DSpX → Prop
  | [], [] => True
  | q :: fs, F :: Fs => q.2 = spX cl n F ∧ MonX F ∧ AllX cl n fs Fs
  | _, _ => False
theorem axn {cl : Str → Option Addr} {n : Nat} : AllX cl n [] [] := trivial
theorem axc {cl : Str → Option Addr} {n : Nat} {a : Addr} {F : DSpX} {fs : List (Addr × Sp)} {Fs : List DSpX} (h : MonX F) (r : AllX cl n fs Fs) : AllX cl n ((a, spX cl n F) :: fs) (F :: Fs) := ⟨rfl, h, r⟩
theorem AllX.len {cl : Str → Option Addr} {n : Nat} : ∀ {fs : List (Addr × Sp)} {Fs : List DSpX}, AllX cl n fs Fs → fs.length = Fs.length
  | [], [], _ => rfl
  | _ :: _, _ :: _, h => by rw [List.length_cons, List.length_cons, h.2.2.len]
  | [], _ :: _, h => False.elim h
  | _ :: _, [], h => False.elim h
theorem AllX.get {cl : Str → Option Addr} {n : Nat} : ∀ {fs : List (Addr × Sp)} {Fs : List DSpX}, AllX cl n fs Fs → ∀ {i : Nat} {F : DSpX}, Fs[i]? = some F → ∃ q, fs[i]? = some q ∧ q.2 = spX cl n F ∧ MonX F
  | q :: _, _ :: _, h, 0, _, e => by cases e; exact ⟨q, rfl, h.1, h.2.1⟩
  | _ :: _, _ :: _, h, i + 1, _, e => by
    have := h.2.2.get (i := i) (by simpa using e)
    simpa using this
  | [], [], _, i, _, e => by simp at e
  | [], _ :: _, h, _, _, _ => False.elim h
  | _ :: _, [], h, _, _, _ => False.elim h
theorem AllX.mem {cl : Str → Option Addr} {n : Nat} : ∀ {fs : List (Addr × Sp)} {Fs : List DSpX}, AllX cl n fs Fs → ∀ F ∈ Fs, MonX F
  | _ :: _, _ :: _, h, F, m => by
    rcases List.mem_cons.mp m with rfl | m
    · exact h.2.1
    · exact h.2.2.mem F m
  | [], [], _, F, m => by simp at m
  | [], _ :: _, h, _, _ => False.elim h
  | _ :: _, [], h, _, _ => False.elim h
theorem atI_mem {α : Type} {xs : List α} {i : Int} {x : α} (h : atI xs i = some x) : x ∈ xs := by
  unfold atI at h
  cases hx : ixN xs.length i with
  | none => rw [hx] at h; cases h
  | some j => rw [hx] at h; exact List.mem_of_getElem? h
section
variable {w : World} {cl : Str → Option Addr} {P0 : Hp} {W : WX} {Ex : Xn → Env → Prop} {n : Nat} {K : PySem.W.Frag}
theorem se_pickX {fs : List (Addr × Sp)} {Fs : List DSpX} {tb : TE} {g : DTE} {t : TA} {f : DTA} (h : AllX cl n fs Fs) (hg : SE (WxE w cl P0 W Ex) tb g) (hf : SA (WxE w cl P0 W Ex) n t f) (hl : Fs.length ≤ sizeLine := by decide) :
    SE (WxE w cl P0 W Ex) (tPick K fs tb (WE W) t) (dPickX Fs Ex g f) := by
  constructor
  · intro ε A B hAB q
    refine hg.mono _ _ _ (fun y ε1 q => ?_) q
    split at q
    · obtain ⟨F, hF, q⟩ := q
      exact ⟨F, hF, (se_callX (h.mem F (atI_mem hF)) hf).mono _ _ _ hAB q⟩
    · exact q.elim
  · intro Z O σ ε L H Q X q
    show tOp (rIx K) (tLst (tNames fs)) tb σ H _
    show (fs.map fun q => V.ref q.1).length ≤ sizeLine ∧ _
    refine ⟨by rw [List.length_map, h.len]; exact hl, fun p np => ?_⟩
    have e1 : Ext none L H L (upd H p (.lst (fs.map fun q => V.ref q.1))) := Ext.own np
    have X1 := X.step e1 (same_own X.lh (X.lh.free np))
    refine hg.run Z O σ ε L _ _ X1 (hg.mono _ _ _ (fun y ε1 q => ?_) q)
    intro u L2 H2 X2 e2 r2
    split at q
    · rename_i i ey
      obtain ⟨F, hF, q⟩ := q
      have hi := (r2.vl ey).int
      subst hi
      have hF' := hF
      unfold atI at hF'
      cases hx : ixN Fs.length i with
      | none => rw [hx] at hF'; cases hF'
      | some j =>
        rw [hx] at hF'
        obtain ⟨q0, h0, h1, h2⟩ := h.get hF'
        have at0 : atI (fs.map fun q => V.ref q.1) i = some (.ref q0.1) := by
          unfold atI
          rw [List.length_map, h.len, hx]
          show (fs.map _)[j]? = _
          rw [List.getElem?_map, h0]
          rfl
        have hp : Z.b ≠ some p := fun hb => (X.bo p hb).2.1.there np
        refine .inl ⟨p, _, i, .ref q0.1, rfl, rfl, SqL.of (e2.hh p _ upd_same hp), at0, q0, List.mem_of_getElem? h0, rfl, ?_⟩
        rw [h1]
        refine (se_callX h2 hf).run Z O σ ε1 L2 H2 Q X2 ((se_callX h2 hf).mono _ _ _ (fun r ε2 k => ?_) q)
        intro v L3 H3 X3 e3 r3
        exact k v L3 H3 X3 ((e1.any.trans e2).trans e3) (r3.back (e1.any.trans e2))
    · exact q.elim
end
end Lp

namespace Lp
open PySem PySem.Spec PyProof.Rows L2
/-- the fields of a circle: la its states, le its log -/
def cf (la le : Addr) : List (Str × V) := putF "entries" (.ref le) (putF "along" (.ref la) [])
theorem cf_al {la le : Addr} : (cf la le).lookup ("along" : Str) = some (.ref la) := by
  unfold cf
  rw [lookup_putF, if_neg (by decide +kernel), lookup_putF, if_pos rfl]
theorem cf_no {la le : Addr} {m : Str} (h1 : ¬ m = "entries") (h2 : ¬ m = "along") : (cf la le).lookup m = none := by
  unfold cf
  rw [lookup_putF, if_neg h1, lookup_putF, if_neg h2]
  rfl
/-- at v: a circle in the state d to which nothing was done -/
def CirS (C : Addr) (d : PyData) (L : Hp) (v : V) : Prop := ∃ a dx la le x, v = .ref a ∧ L a = some (.ins C dx (cf la le)) ∧ L la = some (.lst [x]) ∧ DV L x d ∧ L le = some (.lst [])
theorem CirS.to {C : Addr} {d : PyData} {L L' : Hp} {v : V} (s : Same L L') (h : CirS C d L v) : CirS C d L' v := by
  obtain ⟨a, dx, la, le, x, e, h1, h2, h3, h4⟩ := h
  exact ⟨a, dx, la, le, x, e, s _ _ h1, s _ _ h2, h3.to s, s _ _ h4⟩
def cirG [Fns] (d : PyData) : Gn := ⟨fun L v => ∃ C, FN "Circle" = .ref C ∧ CirS C d L v, fun s ⟨C, h1, h2⟩ => ⟨C, h1, h2.to s⟩⟩
/-- what the class must have -/
structure CirT (K : PySem.W.Frag) (C : Addr) : Prop where
  cl : Cls K C
  nA : NoAttr K C "along"
  nE : NoAttr K C "entries"
/-- __init__ -/
def spCI (C : Addr) : Sp := fun vs H Q _ => ∃ (x dx p : Addr) (xs : List V), vs = [.ref x, .ref p] ∧ H x = some (.ins C dx []) ∧ Sol H p xs ∧
  ∀ la, H la = none → ∀ le, upd (upd H la (.lst [.ref p])) x (.ins C dx (putF "along" (.ref la) [])) le = none →
    Q .non (upd (upd (upd (upd H la (.lst [.ref p])) x (.ins C dx (putF "along" (.ref la) []))) le (.lst [])) x (.ins C dx (cf la le)))
def dMkCir [Fns] (f : DTE) (ε : Env) (Q : R → Env → Prop) : Prop := f ε fun r ε1 => match r.pub with
  | .sh (.tuple ds) => Q (.gen (cirG (.tuple ds))) ε1
  | _ => False
section
variable [Fns] {w : Wx} {C : Addr} {te : TE} {f : DTE} {E : XK}
theorem se_mkCir (hC : FN "Circle" = .ref C) (hf : SE w te f) : SE w (tMake C (spCI C) [] E (tCons te tNil)) (dMkCir f) := by
  constructor
  · intro ε A B h q
    refine hf.mono _ _ _ (fun r ε1 q => ?_) q
    split at q
    · exact h _ _ q
    · exact q.elim
  · intro Z O σ ε L H Q X q
    refine hf.run Z O σ ε L H _ X (hf.mono _ _ _ (fun r ε1 q => ?_) q)
    intro v L1 H1 X1 e1 r1
    obtain ⟨L2, X2, e2, r2⟩ := publ X1 e1 r1
    split at q
    · rename_i ds hd
      rw [hd] at r2
      cases (show DV L2 v (.tuple ds) from r2) with
      | @tup p xs _ h1 h2 =>
        intro x dx nx ndx nex
        have hp : ∀ b, H1 b = none → p ≠ b := fun b nb z => by
          obtain ⟨o, ho, h3⟩ := h1.to X2.lh
          rw [z, nb] at h3
          cases h3
        refine ⟨x, dx, p, xs, rfl, upd_same, ?_, fun la nla le nle => ?_⟩
        · obtain ⟨o, ho, h3⟩ := h1.to X2.lh
          exact ⟨o, ho, by rw [upd_ne (hp x nx), upd_ne (hp dx ndx)]; exact h3⟩
        have lx : la ≠ x := fun z => by rw [z, upd_same] at nla; cases nla
        rw [upd_ne lx] at nla
        have ld : la ≠ dx := fun z => by rw [z, upd_same] at nla; cases nla
        rw [upd_ne ld] at nla
        have ex : le ≠ x := fun z => by rw [z, upd_same] at nle; cases nle
        rw [upd_ne ex] at nle
        have el : le ≠ la := fun z => by rw [z, upd_same] at nle; cases nle
        rw [upd_ne el, upd_ne ex] at nle
        have ed : le ≠ dx := fun z => by rw [z, upd_same] at nle; cases nle
        rw [upd_ne ed] at nle
        refine ⟨rfl, ?_⟩
        have s0 := X2.lh
        have x1 : Ext none L2 H1 (upd L2 dx (.own x)) (upd H1 dx (.own x)) := Ext.new s0 ndx
        have s1 : Same (upd L2 dx (.own x)) (upd H1 dx (.own x)) := same_both s0
        have n1 : upd H1 dx (.own x) la = none := by rw [upd_ne ld]; exact nla
        have x2 := Ext.new (b := none) (o := .lst [.ref p]) s1 n1
        have s2 := same_both (p := la) (o := .lst [.ref p]) s1
        have n2 : upd (upd H1 dx (.own x)) la (.lst [.ref p]) le = none := by rw [upd_ne el, upd_ne ed]; exact nle
        have x3 := Ext.new (b := none) (o := .lst []) s2 n2
        have s3 := same_both (p := le) (o := .lst []) s2
        have n3 : upd (upd (upd H1 dx (.own x)) la (.lst [.ref p])) le (.lst []) x = none := by rw [upd_ne ex.symm, upd_ne lx.symm, upd_ne nex.symm]; exact nx
        have x4 := Ext.new (b := none) (o := .ins C dx (cf la le)) s3 n3
        have s4 := same_both (p := x) (o := .ins C dx (cf la le)) s3
        have eH : upd (upd (upd (upd (upd (upd H1 dx (.own x)) x (.ins C dx [])) la (.lst [.ref p])) x (.ins C dx (putF "along" (.ref la) []))) le (.lst [])) x (.ins C dx (cf la le)) = upd (upd (upd (upd H1 dx (.own x)) la (.lst [.ref p])) le (.lst [])) x (.ins C dx (cf la le)) := by
          funext b
          by_cases bx : b = x
          · rw [bx, upd_same, upd_same]
          · rw [upd_ne bx, upd_ne bx]
            by_cases be : b = le
            · rw [be, upd_same, upd_same]
            · rw [upd_ne be, upd_ne be, upd_ne bx]
              by_cases bl : b = la
              · rw [bl, upd_same, upd_same]
              · rw [upd_ne bl, upd_ne bl, upd_ne bx]
        rw [eH]
        have xt := ((x1.trans x2).trans x3).trans x4
        refine q _ _ _ (X2.step xt s4) (e2.trans xt.any) ⟨C, hC, x, dx, la, le, .ref p, rfl, upd_same, ?_, ?_, ?_⟩
        · rw [upd_ne lx, upd_ne el.symm, upd_same]
        · exact DV.to (.tup h1 h2) xt.ll
        · rw [upd_ne ex, upd_same]
    · exact q.elim
end
/-- o.m(..), which may raise -/
def tMethX (C : Addr) (m : Str) (sp : Sp) (E : L2.St → XK) (ta : TE) (t : TA) : TE := fun σ H Q => ta σ H fun x H1 => ∃ a dx fs, x = .ref a ∧ H1 a = some (.ins C dx fs) ∧ fs.lookup m = none ∧ t σ H1 fun vs H2 => sp (x :: vs) H2 Q (E σ)
section
variable {X : Cx} {CX : CXT} {k : Nat} {f g C : Addr} {fd : FuncData} {ps : List Str} {sp : Sp} {E : L2.St → XK} {x m : Str} {p pos apos : Pos} {e o : Expr} {es : List Expr} {ta : TE} {t : TA}
theorem pe_methX {pl : Sem Bool} (he : PE X o ta) (c : Cls X.K C) (hm : Meth X.K C m f) (F : FnOk X.prog X.w X.K X.mg X.base CX k f fd ps sp) (hr : Room k X.A) (hb : Binds X.K fd ps []) (hx : ∀ σ, PassesAt CX X σ (E σ)) (ha : PA X (e :: es) t)
    (hst : starEach (e :: es) X.env = (false, eval e X.env) :: starEach es X.env := by rfl) (hpl : (backTo pos (starEach es X.env)).any (·.1) = false := by rfl)
    (ht : eval (.Call (.Attribute o m apos) (e :: es) [] pos) X.env = (do
      let ov ← eval o X.env
      standAt apos.atName
      let (f, first) ← holding [ov] (getMethod ov m pl)
      callWith pos f first (backTo pos (starEach (e :: es) X.env)) (backToKw pos (keywordEach [] X.env))) := by rfl) :
    PE X (.Call (.Attribute o m apos) (e :: es) [] pos) (tMethX C m sp E ta t) := by
  refine ⟨fun pins s σ H Q I h => ?_⟩
  refine PySem.W.methodCall_KW (pl := pl) (thn (he.run pins s σ H _ I h) fun u s1 ⟨x, H1, I1, rx, a, dx, fs, ex, ea, l, q⟩ => ?_) ht
  subst ex
  obtain rfl : u = Value.ref a := rx
  refine getmeth_ok I1 ea c hm l ?_
  refine PySem.W.callWith_K (first := [.ref a]) (h₀ := X.base) I.ok.mod.kin hm.kp (thn (ha.run pos pins s1 σ H1 _ I1 q) fun us s2 ⟨vs, H2, I2, r, q2⟩ => ⟨I2.kIn, ?_⟩) hst hpl
  exact run_fnS (us := .ref a :: us) (vs := .ref a :: vs) F hr hb (hx σ) I2 (.cons rfl r) q2
theorem run_fnRS {pins : List (Addr × Obj)} {σ : L2.St} {H : Hp} {s : Shared} {E : XK} {Q : VK} {us : List Value} {vs : List V} (F : FnR X.prog X.w X.K X.mg X.base CX k f sp) (hr : Room k X.A) (hx : PassesAt CX X σ E) (I : Inv X pins σ H s) (r : Vals vs us) (h : sp vs H Q E) :
    codeAny (model X.prog X.w) X.A (.call (.ref f) ⟨us, []⟩) (fun r s' => match r with | .ok (.ret v) => EP X pins σ Q v s' | .ok _ => False | .error e => X.xe e s') s := by
  refine codeAny_mono (F X.A X.stack s H us vs Q E hr I.env0 r h) fun r s' hq => ?_
  cases r with
  | error e => exact hx pins H s e s' I hq
  | ok fl =>
    cases fl with
    | ret u => exact I.after hq
    | next => exact False.elim hq
    | brk => exact False.elim hq
    | cont => exact False.elim hq
theorem pe_methRX {pl : Sem Bool} (he : PE X o ta) (c : Cls X.K C) (hm : Meth X.K C m f) (F : FnR X.prog X.w X.K X.mg X.base CX k f sp) (hr : Room k X.A) (hx : ∀ σ, PassesAt CX X σ (E σ)) (ha : PA X (e :: es) t)
    (hst : starEach (e :: es) X.env = (false, eval e X.env) :: starEach es X.env := by rfl) (hpl : (backTo pos (starEach es X.env)).any (·.1) = false := by rfl)
    (ht : eval (.Call (.Attribute o m apos) (e :: es) [] pos) X.env = (do
      let ov ← eval o X.env
      standAt apos.atName
      let (f, first) ← holding [ov] (getMethod ov m pl)
      callWith pos f first (backTo pos (starEach (e :: es) X.env)) (backToKw pos (keywordEach [] X.env))) := by rfl) :
    PE X (.Call (.Attribute o m apos) (e :: es) [] pos) (tMethX C m sp E ta t) := by
  refine ⟨fun pins s σ H Q I h => ?_⟩
  refine PySem.W.methodCall_KW (pl := pl) (thn (he.run pins s σ H _ I h) fun u s1 ⟨x, H1, I1, rx, a, dx, fs, ex, ea, l, q⟩ => ?_) ht
  subst ex
  obtain rfl : u = Value.ref a := rx
  refine getmeth_ok I1 ea c hm l ?_
  refine PySem.W.callWith_K (first := [.ref a]) (h₀ := X.base) I.ok.mod.kin hm.kp (thn (ha.run pos pins s1 σ H1 _ I1 q) fun us s2 ⟨vs, H2, I2, r, q2⟩ => ⟨I2.kIn, ?_⟩) hst hpl
  exact wpAny_call (run_fnRS (us := .ref a :: us) (vs := .ref a :: vs) F hr (hx σ) I2 (.cons rfl r) q2)
/-- x(e, *y), x a local name that holds a def -/
def tDeed (X : Cx) (CX : CXT) (i : Nat) (E : L2.St → XK) (t : TA) : TE := fun σ H Q => ∃ q : Addr × Sp, σ[i]? = some (some (.ref q.1)) ∧ PkOk X CX q ∧ t σ H fun vs H1 => q.2 vs H1 Q (E σ)
theorem pe_deed {i : Nat} (hN : X.N[i]? = some x) (hv : Vis X.env.scope x) (hx : ∀ σ, PassesAt CX X σ (E σ)) (ha : PA X (e :: es) t)
    (nd : (x == ("__debug__" : Str)) = false := by decide) (nc : (x == ("__classdict__" : Str)) = false := by decide)
    (he : starEach (e :: es) X.env = (false, eval e X.env) :: starEach es X.env := by rfl) (hst : (backTo pos (starEach es X.env)).any (·.1) = true := by rfl) : PE X (.Call (.Name x p) (e :: es) [] pos) (tDeed X CX i E t) := by
  constructor
  rintro pins s σ H Q I ⟨⟨f, sp⟩, hs, ⟨k, fd, ps, F, hr, hk, hb⟩, ht⟩
  refine wpAny_Call_Name_kw (thn ((pe_var (pos := p) hN hv nd nc).run pins s σ H (fun v H1 => v = .ref f ∧ H1 = H) I ⟨.ref f, hs, rfl, rfl⟩) fun u s1 got => ?_)
  obtain ⟨v, H1, I1, r1, rfl, rfl⟩ := got
  cases r1
  refine PySem.W.callWith_S2 (h₀ := X.base) I1.ok.mod.kin hk (thn (ha.run pos pins s1 σ _ _ I1 ht) fun us s2 got => ?_) he hst
  obtain ⟨vs, H2, I2, r, q⟩ := got
  exact ⟨I2.kIn, run_fnS F hr hb (hx σ) I2 r q⟩
end
def isCir [Fns] : R → Prop
  | .gen g => ∃ d, g = cirG d
  | _ => False
def dMethX [Fns] (F : DSpX) (Ex : Xn → Env → Prop) (f : DTE) (g : DTA) (ε : Env) (Q : R → Env → Prop) : Prop := f ε fun r ε1 => isCir r ∧ g ε1 fun rs ε2 => dArgsX F (r :: rs) ε2 Q Ex
def dMeth [Fns] (F : DSp) (f : DTE) (ε : Env) (Q : R → Env → Prop) : Prop := f ε fun r ε1 => isCir r ∧ dArgs F [r] ε1 Q
theorem cir_at [Fns] {w : Wx} {Z : Zx} {O : Addr → Prop} {σ : L2.St} {Hs L H : Hp} {v : V} {r : R} {C : Addr} (hC : FN "Circle" = .ref C) (h : isCir r) (s : Same L H) (x : VR w Z O σ Hs L H v r) : ∃ a dx la le, v = .ref a ∧ H a = some (.ins C dx (cf la le)) := by
  cases r with
  | gen g =>
    obtain ⟨d, rfl⟩ := h
    obtain ⟨C', e, a, dx, la, le, x, rfl, h1, _⟩ := x
    rw [hC] at e
    cases e
    exact ⟨a, dx, la, le, rfl, s _ _ h1⟩
  | _ => exact h.elim
section
variable [Fns] {w : World} {cl : Str → Option Addr} {P0 : Hp} {W : WX} {Ex : Xn → Env → Prop} {C : Addr} {m : Str} {te : TE} {f : DTE} {t : TA} {g : DTA} {n : Nat}
theorem se_methX {F : DSpX} (hC : FN "Circle" = .ref C) (h1 : ¬ m = "entries") (h2 : ¬ m = "along") (hF : MonX F) (hf : SE (WxE w cl P0 W Ex) te f) (hg : SA (WxE w cl P0 W Ex) n t g) : SE (WxE w cl P0 W Ex) (tMethX C m (spX cl (n + 1) F) (WE W) te t) (dMethX F Ex f g) := by
  have mon : ∀ rs ε (A B : R → Env → Prop), (∀ r ε', A r ε' → B r ε') → dArgsX F rs ε A Ex → dArgsX F rs ε B Ex := by
    intro rs ε A B h q
    unfold dArgsX at q ⊢
    split at q
    · exact ⟨q.1, hF _ _ _ _ _ _ (fun r c q => h _ _ q) (fun _ _ q => q) q.2⟩
    · exact q.elim
  constructor
  · intro ε A B h q
    exact hf.mono _ _ _ (fun r ε1 q => ⟨q.1, hg.mono _ _ _ (fun rs ε2 q => mon _ _ _ _ h q) q.2⟩) q
  · intro Z O σ ε L H Q X q
    refine hf.run Z O σ ε L H _ X (hf.mono _ _ _ (fun r ε1 q => ?_) q)
    obtain ⟨ic, q⟩ := q
    intro v L1 H1 X1 e1 r1
    obtain ⟨a, dx, la, le, ev, ea⟩ := cir_at hC ic X1.lh r1
    refine ⟨a, dx, _, ev, ea, cf_no h1 h2, ?_⟩
    refine hg.run Z O σ ε1 L1 H1 _ X1 (hg.mono _ _ _ (fun rs ε2 q => ?_) q)
    intro vs L2 H2 X2 e2 r2 hl np
    unfold dArgsX at q
    split at q
    · rename_i args ha
      obtain ⟨hb, q⟩ := q
      have r2' : VRs _ Z O σ H L2 H2 (v :: vs) (r :: rs) := .cons (r1.mono X1 e2) (r2.back e1)
      have et := e1.trans e2
      refine ⟨Z.b, L2, ε2.c, args, by rw [r2'.len, List.length_cons, hl], ⟨X2.lh, fun b hb => ⟨(X2.bo b hb).1, (X2.bo b hb).2.1⟩⟩, args_plain r2' ha hb, hF _ _ _ _ _ _ (fun r c q => ?_) (fun x c q => ?_) q⟩
      · intro v L' H' z' e' r'
        exact q v L' H' (X2.exts e' z'.1 fun b hb => (z'.2 b hb).2) (et.trans e') ((r'.vr X2).back et)
      · intro cls d L' H' z' e' xr
        have X3 := X2.exts (c := c) e' z'.1 fun b hb => (z'.2 b hb).2
        exact X2.ph.2 Z.P O σ ⟨ε2.s, c⟩ L' H' cls d x X2.ph.1 (X3.chg rfl rfl trivial) xr q
    · exact q.elim
end
section
variable [Fns] {w : Wx} {C : Addr} {m : Str} {te : TE} {f : DTE} {E : XK}
theorem se_meth {F : DSp} (hC : FN "Circle" = .ref C) (h1 : ¬ m = "entries") (h2 : ¬ m = "along") (hF : MonF F) (hf : SE w te f) : SE w (tMeth C m (spD 1 F) [] E te tNil) (dMeth F f) := by
  constructor
  · intro ε A B h q
    exact hf.mono _ _ _ (fun r ε1 q => ⟨q.1, dArgs_mono hF h q.2⟩) q
  · intro Z O σ ε L H Q X q
    refine hf.run Z O σ ε L H _ X (hf.mono _ _ _ (fun r ε1 q => ?_) q)
    obtain ⟨ic, q⟩ := q
    intro v L1 H1 X1 e1 r1
    obtain ⟨a, dx, la, le, ev, ea⟩ := cir_at hC ic X1.lh r1
    refine ⟨a, dx, _, ev, ea, cf_no h1 h2, ?_⟩
    show spD 1 F [v] H1 Q E
    exact run_args (rs := [r]) hF X1 e1 (.cons r1 .nil) rfl q
end
/-- a deed that is refused -/
def q_ci [Fns] (F : DSpX) : DSpX := fun args c Q E => ∃ d rest, args = .gen (cirG d) :: rest ∧ F (.sh d :: rest) c (fun _ _ => False) E
theorem monx_ci [Fns] {F : DSpX} (h : MonX F) : MonX (q_ci F) := by
  rintro args c A B C D hA hC ⟨d, rest, e, q⟩
  exact ⟨d, rest, e, h _ _ _ _ _ _ (fun _ _ z => z) hC q⟩
def p_ci_state [Fns] : DSp := fun args c Q => ∃ d, args = [.gen (cirG d)] ∧ Q (.sh d) c
theorem mon_ci_state [Fns] : MonF p_ci_state := by
  rintro args c A B h ⟨d, e, q⟩
  exact ⟨d, e, h _ _ q⟩
def p_ci_deeds [Fns] : DSp := fun args c Q => ∃ d, args = [.gen (cirG d)] ∧ Q (.sh (.int 0)) c
theorem mon_ci_deeds [Fns] : MonF p_ci_deeds := by
  rintro args c A B h ⟨d, e, q⟩
  exact ⟨d, e, h _ _ q⟩
/-- a deed by its name -/
structure DeedAt (P : Program) (w : World) (K : PySem.W.Frag) (mg : Str → Option Value) (base : Heap) (cl : Str → Option Addr) (D : Addr) (nm : Str) (n k : Nat) (F : DSpX) : Prop where
  ex : ∃ f fd ps, KDct K w D nm (.ref f) ∧ ps.length = n ∧ FnOk P w K mg base (L2.CX P w) k f fd ps (spX cl n F) ∧ PySem.W.keepIn K (.ref f) = true ∧ Binds K fd ps []
/-- act, where the deed is refused -/
def spAct (P : Program) (w : World) (K : PySem.W.Frag) (mg : Str → Option Value) (base : Heap) (cl : Str → Option Addr) (C D : Addr) (k : Nat) : Sp := fun vs H Q E =>
  ∃ (b : Option Addr) (L : Hp) (c : Nat) (nm : Str) (n : Nat) (F : DSpX) (d : PyData) (v : V) (rest : List V) (args : List SV), vs = [v, .str nm] ++ rest ∧ DeedAt P w K mg base cl D nm n k F ∧ rest.length + 1 = n ∧ rest.length ≤ 5 ∧
  CallZ b L H c ∧ CirS C d L v ∧ ArgsR b L rest args ∧ MonX F ∧
  F (.sh d :: args) c (fun _ _ => False) (fun x c' => ∀ cls dd L' H', CallZ b L' H' c' → Ext b L H L' H' → XR cl L' cls dd x → E cls dd H')
/-- .. with the tuple of what is left over at p -/
def spAct1 (P : Program) (w : World) (K : PySem.W.Frag) (mg : Str → Option Value) (base : Heap) (cl : Str → Option Addr) (C D : Addr) (k : Nat) : Sp := fun vs H Q E =>
  ∃ (b : Option Addr) (L : Hp) (c : Nat) (nm : Str) (n : Nat) (F : DSpX) (d : PyData) (v : V) (p : Addr) (rest : List V) (args : List SV), vs = [v, .str nm, .ref p] ∧ H p = some (.tup rest) ∧ DeedAt P w K mg base cl D nm n k F ∧ rest.length + 1 = n ∧ rest.length ≤ 5 ∧
  CallZ b L H c ∧ CirS C d L v ∧ ArgsR b L rest args ∧ MonX F ∧
  F (.sh d :: args) c (fun _ _ => False) (fun x c' => ∀ cls dd L' H', CallZ b L' H' c' → Ext b L H L' H' → XR cl L' cls dd x → E cls dd H')
theorem act_imp {P : Program} {w : World} {K : PySem.W.Frag} {mg : Str → Option Value} {base : Heap} {cl : Str → Option Addr} {C D : Addr} {k : Nat} {vs : List V} {H : Hp} {Q : VK} {E : XK} (h : spAct P w K mg base cl C D k vs H Q E) :
    ∃ ws rest, vs = ws ++ rest ∧ ws.length = ["self", "name"].length ∧ rest.length ≤ sizeLine ∧ ∀ p, H p = Option.none → spAct1 P w K mg base cl C D k (ws ++ [V.ref p]) (upd H p (.tup rest)) Q E := by
  obtain ⟨b, L, c, nm, n, F, d, v, rest, args, e, dd, hn, h5, z, cs, ar, mF, q⟩ := h
  have s5 : (5 : Nat) ≤ sizeLine := by decide +kernel
  refine ⟨[v, .str nm], rest, e, rfl, Nat.le_trans h5 s5, fun p np => ?_⟩
  have nL : L p = none := z.1.free np
  refine ⟨b, L, c, nm, n, F, d, v, p, rest, args, rfl, upd_same, dd, hn, h5, ⟨same_own z.1 nL, fun a ha => ⟨(z.2 a ha).1, ((z.2 a ha).2).keep (upd_ne (ne_at (z.2 a ha).2.there np))⟩⟩, cs, ar, mF, mF _ _ _ _ _ _ (fun _ _ z => z) (fun x c' q => ?_) q⟩
  intro cls dd L' H' z' e' xr
  exact q cls dd L' H' z' ((Ext.own np).trans e') xr
theorem okDXD {P : Program} {w : World} {K : PySem.W.Frag} {mg : Str → Option Value} {base : Heap} {cl : Str → Option Addr} {x qual : Str} {st : Stmt} {f : Addr} {fd : FuncData} {N ps : List Str} {k j : Nat} {p : (Xn → Env → Prop) → DTS} {F : DSpX} {dvs : List V} (G : FunD K x qual (defArgs st) (defBody st) (defScope st) dvs [] f fd) (S : FnScope N ps (defScope st)) (hj : N.length = ps.length + j)
    (body : ∀ (cdv : Value) (A : Around) (outer : List PySem.Env) (s : Shared) (H : Hp) (E : XK), Room k (A.deeper (envOfC qual (defScope st) s.heap.objs.size f cdv)) →
      ∃ t, PSs (cxOf (L2.CX P w) P w K mg base N qual (defScope st) f cdv A outer s H E) (defBody st) t ∧ ∀ P0 Ex, SS (WxE w cl P0 (fun cls d _ H => E cls d H) Ex) t (p Ex))
    (h : ∀ args c Q Ex, F args c Q Ex → defX j p args c Q Ex) : FnOk P w K mg base (L2.CX P w) (k + 1) f fd ps (spX cl ps.length F) := by
  refine FunD.ok G S (fun vs H Q E h => spX_len h) fun cdv A outer s H vs Q E hr q => ?_
  obtain ⟨t, ht, hs⟩ := body cdv A outer s H E hr
  refine ⟨t, ht, ?_⟩
  obtain ⟨b, L, c, args, hn, z, a, q⟩ := q
  have q := h _ _ _ _ q
  refine (hs (fun _ => none) _).run _ _ _ _ L H _ _ (rep_start z a (by omega) ⟨(fun _ _ h => nomatch h), fun P O σ ε L' H' cls d x _ X xr q => ?_⟩) ?_ q
  · exact q cls d L' H' ⟨X.lh, fun a ha => ⟨(X.bo a ha).1, (X.bo a ha).2.1⟩⟩ X.ex xr
  · refine ⟨fun O σ ε L' H' X q => ?_, fun O σ ε L' H' v r X hr q => ?_, fun O σ ε L' H' X q => q.elim, fun O σ ε L' H' X q => q.elim⟩
    · exact q .non L' H' ⟨X.lh, fun a ha => ⟨(X.bo a ha).1, (X.bo a ha).2.1⟩⟩ X.ex DV.non
    · exact q v L' H' ⟨X.lh, fun a ha => ⟨(X.bo a ha).1, (X.bo a ha).2.1⟩⟩ X.ex hr
end Lp
namespace Lp
open PySem PySem.Spec PyProof.Rows L2
structure CirI (P : Program) (w : World) (K : PySem.W.Frag) (mg : Str → Option Value) (base : Heap) (C fI : Addr) (fd : FuncData) : Prop where
  mkr : Mk K C fI
  ok : FnOk P w K mg base CX0 1 fI fd ["self", "state"] (spCI C)
  g : mg "Circle" = some (.ref C)
  bd : Binds K fd ["self", "state"] []
structure CirM (P : Program) (w : World) (K : PySem.W.Frag) (mg : Str → Option Value) (base : Heap) (cl : Str → Option Addr) (C : Addr) (nm : Str) (k : Nat) (ps : List Str) (F : DSpX) (f : Addr) (fd : FuncData) : Prop where
  ok : FnOk P w K mg base (L2.CX P w) k f fd ps (spX cl ps.length F)
  mt : Meth K C nm f
  bd : Binds K fd ps []
  T : CirT K C
structure CirP (P : Program) (w : World) (K : PySem.W.Frag) (mg : Str → Option Value) (base : Heap) (C : Addr) (nm : Str) (F : DSp) (f : Addr) (fd : FuncData) : Prop where
  ok : FnOk P w K mg base CX0 1 f fd ["self"] (spD 1 F)
  mt : Meth K C nm f
  bd : Binds K fd ["self"] []
  T : CirT K C
/-- a def with defaults, as it stands behind the top -/
def FunDX (K : PySem.W.Frag) (x qual : Str) (st : Stmt) (dvs : List V) (f : Addr) (fd : FuncData) : Prop := FunD K x qual (defArgs st) (defBody st) (defScope st) dvs [] f fd
theorem fund_mk {K : PySem.W.Frag} {x qual : Str} {st : Stmt} {f T : Addr} {oc : Value} {od an : Option Addr} {sl : Array (Option Value)} {kV dc pm cd ct : Value} {o : Obj} {n : Nat}
    (l : K.lookup f = some ⟨oc, od, .func (PySem.W.fnOf x qual (defArgs st) (defBody st) (defScope st) (.ref T) kV dc pm an cd ct), sl⟩) (c : PySem.W.codeIn K cd qual = true) (k : PySem.W.keepIn K (.ref f) = true) (t : K.lookup T = some o) (d : o.data = .seq [Value.none].toArray n) :
    ∃ fd, FunDX K x qual st [.non] f fd := ⟨_, ⟨_, _, _, _, _, _, _, _, _, _, rfl, l, c, .inr ⟨(fun h => nomatch h), T, o, [.none], n, rfl, t, d, .cons rfl .nil⟩, .inl rfl⟩, k⟩
structure DxD (K : PySem.W.Frag) (x : Str) (st : Stmt) (f : Addr) : Prop where
  a : PySem.W.nsIn K mainGlobals x = some (some (.ref f))
  ex : ∃ fd, FunDX K x x st [.non] f fd
end Lp
namespace Lp
open PySem PySem.Spec PyProof.Rows L2
theorem args_to {b : Option Addr} {L L' : Hp} (s : Same L L') : ∀ {vs : List V} {xs : List SV}, ArgsR b L vs xs → ArgsR b L' vs xs
  | _, _, .nil => .nil
  | _, _, .cons (x := x) a r => .cons (by
    cases x with
    | sh d => exact DV.to a s
    | bx => exact a
    | raw u => exact a
    | dsh xs => exact DVd.to s a
    | gen g => exact g.mono s a
    | _ => exact a.elim) (args_to s r)
theorem args_cons {b : Option Addr} {L : Hp} {v : V} {vs : List V} {x : SV} {xs : List SV} (h : ArgsR b L (v :: vs) (x :: xs)) : ArgR b L v x ∧ ArgsR b L vs xs := by
  cases h with
  | cons a r => exact ⟨a, r⟩
theorem args_cons2 {b : Option Addr} {L : Hp} {v : V} {vs : List V} {xs : List SV} (h : ArgsR b L (v :: vs) xs) : ∃ y ys, xs = y :: ys ∧ ArgR b L v y ∧ ArgsR b L vs ys := by
  cases h with
  | cons a r => exact ⟨_, _, rfl, a, r⟩
end Lp
namespace Lp
open PySem PySem.Spec PyProof.Rows L2
def fnG (vs : List V) : Gn := ⟨fun L v => ∃ a, v = .ref a ∧ L a = some (.lst vs), fun s ⟨a, h1, h2⟩ => ⟨a, h1, s _ _ h2⟩⟩
def dFnL (vs : List V) (ε : Env) (Q : R → Env → Prop) : Prop := Q (.gen (fnG vs)) ε
section
variable {X : Cx} {CX : CXT} {p p1 p2 pos : Pos} {e b : Expr} {as : List Expr} {tb : TE} {t : TA} {fs : List (Addr × Sp)} {K : PySem.W.Frag} {x : Str} {i : Nat}
end
def dPickN (i : Nat) (vs : List V) (Fs : List DSpX) (Ex : Xn → Env → Prop) (g : DTE) (f : DTA) (ε : Env) (Q : R → Env → Prop) : Prop := ε.s[i]? = some (.gen (fnG vs)) ∧ g ε fun y ε1 => match y.dat with
  | some (.int k) => ∃ F, atI Fs k = some F ∧ dCallX F Ex f ε1 Q
  | _ => False
section
variable {w : World} {cl : Str → Option Addr} {P0 : Hp} {W : WX} {Ex : Xn → Env → Prop} {n : Nat} {K : PySem.W.Frag}
end
end Lp
namespace Lp
open PySem PySem.Spec PyProof.Rows L2
section
variable (g : Gn) (rs : List R)
theorem ra_gen : R.arg (.gen g) = some (.gen g) := rfl
theorem hb_gen : hasBr (.gen g :: rs) = hasBr rs := rfl
theorem rp_gen : R.pub (.gen g) = .gen g := rfl
theorem va_gen (o : Bool) : val o (.gen g) = some (.gen g) := rfl
theorem rr_gen : R.ret (.gen g) = some (.gen g) := rfl
end
end Lp
namespace Lp
open PySem PySem.Spec PyProof.Rows L2
theorem ckd_mk {K : PySem.W.Frag} {x m : Str} {D f : Addr} (a : PySem.W.nsIn K mainGlobals x = some (some (.ref f))) (b : PySem.W.nsIn K D m = some (some (.ref f))) : ∃ f, PySem.W.nsIn K mainGlobals x = some (some (.ref f)) ∧ PySem.W.nsIn K D m = some (some (.ref f)) := ⟨f, a, b⟩
theorem dxd_mk {K : PySem.W.Frag} {x : Str} {st : Stmt} {f T : Addr} {oc : Value} {od an : Option Addr} {sl : Array (Option Value)} {kV dc pm cd ct : Value} {o : Obj} {n : Nat} (a : PySem.W.nsIn K mainGlobals x = some (some (.ref f)))
    (l : K.lookup f = some ⟨oc, od, .func (PySem.W.fnOf x x (defArgs st) (defBody st) (defScope st) (.ref T) kV dc pm an cd ct), sl⟩) (c : PySem.W.codeIn K cd x = true) (k : PySem.W.keepIn K (.ref f) = true) (t : K.lookup T = some o) (d : o.data = .seq [Value.none].toArray n) : ∃ f, DxD K x st f :=
  ⟨f, a, fund_mk l c k t d⟩
end Lp
namespace Lp
open PySem PySem.Spec PyProof.Rows L2
end Lp

namespace Lp
open PySem PySem.Spec PyProof.Rows L2
section
variable {X : Cx}
end
section
variable {w : Wx} {K : PySem.W.Frag} {ta te : TE} {f g : DTE}
def dCount (f g : DTE) (ε : Env) (Q : R → Env → Prop) : Prop := f ε fun x ε1 => match x.dat.bind PyData.its with
  | some ds => g ε1 fun y ε2 => match y.dat, intsD ds with
    | some (.int k), some ns => Q (.sh (.int (ns.count k : Nat))) ε2
    | _, _ => False
  | none => False
end
section
variable {X : Cx} {K : PySem.W.Frag}
end
section
variable {X : Cx}
def rSetIT (K : PySem.W.Frag) (w : World) : List V → Hp → VK → Prop := fun vs H Q => ∃ (l : Addr) (ns : List Int), vs = [V.ref l] ∧ SqT K H l (ns.map V.int) ∧ ns.length ≤ 1000 ∧ ∀ a n, H a = none → n ≤ ns.length → Q (.ref a) (upd H a (SetO w a (fun j => decide (j ∈ ns)) n))
theorem cr_setIT (hc : X.calm = true) : CallR X (.type "set") (rSetIT X.K X.w) := by
  rintro pins s σ H vs us Q I r ⟨l, ns, rfl, hl, few, q⟩
  rw [Vals.ref1 r]
  obtain ⟨its, rv, pl, hz⟩ := I.tuple hl
  have hn : H s.heap.objs.size = none := I.hok.fresh (Nat.le_refl _)
  refine call_set_tupI (P := X.prog) (w := X.w) ns (I.ok.hd hc) pl (by simpa using intsAre_of rv) (by unfold scanBound; omega) fun h' tk c R hcn keep => ?_
  exact ⟨.ref s.heap.objs.size, upd H s.heap.objs.size (SetO X.w s.heap.objs.size (fun j => decide (j ∈ ns)) c), I.laid (t' := tk) keep (Nat.le_refl _) (setO_new R), rfl, q _ _ hn hcn⟩
def rSetIA (K : PySem.W.Frag) (w : World) : List V → Hp → VK → Prop := fun vs H Q => rSetI K w vs H Q ∨ rSetIT K w vs H Q
theorem setIAK {K : PySem.W.Frag} {w : World} (e : X.K = K) (ew : X.w = w) (hc : X.calm = true) : CallR X (.type "set") (rSetIA K w) := by
  subst e ew
  rintro pins s σ H vs us Q I r (h | h)
  · exact cr_setI hc pins s σ H vs us Q I r h
  · exact cr_setIT hc pins s σ H vs us Q I r h
end
section
variable {w : Wx} {K : PySem.W.Frag} {te : TE} {f : DTE}
def dSortSetA (f : DTE) (ε : Env) (Q : R → Env → Prop) : Prop := f ε fun r ε1 => match r.dat.bind PyData.its with
  | some ds => match intsD ds with
    | some ns => ns.length < 64 ∧ ∀ ms : List Int, ms.Pairwise (· < ·) → (∀ k, k ∈ ms ↔ k ∈ ns) → Q (.nw (dI ms)) ε1
    | none => False
  | none => False
theorem se_sortSetA (hf : SE w te f) : SE w (tCB (rSortedSet w) (tCons (tCB (rSetIA K w) (tCons te tNil)) tNil)) (dSortSetA f) := by
  constructor
  · intro ε A B h q
    refine hf.mono _ _ _ (fun r ε1 q => ?_) q
    split at q
    · split at q
      · exact ⟨q.1, fun ms h1 h2 => h _ _ (q.2 ms h1 h2)⟩
      · exact q.elim
    · exact q.elim
  · intro Z O σ ε L H Q X q
    refine hf.run Z O σ ε L H _ X (hf.mono _ _ _ (fun r ε1 q => ?_) q)
    intro v L1 H1 X1 e1 r1
    split at q
    · rename_i ds hds
      split at q
      · rename_i ns hn
        have few : ns.length ≤ 1000 := by have := q.1; omega
        have rest : ∀ b n, H1 b = none → n ≤ ns.length → rSortedSet w [.ref b] (upd H1 b (SetO w b (fun j => decide (j ∈ ns)) n)) Q := fun b n nb hb => by
          refine ⟨b, _, n, rfl, upd_same, by have := q.1; omega, fun ms c pw mem ln nc => ?_⟩
          have eb : Ext none L1 H1 L1 (upd H1 b (SetO w b (fun j => decide (j ∈ ns)) n)) := Ext.own nb
          have s2 : Same L1 (upd H1 b (SetO w b (fun j => decide (j ∈ ns)) n)) := same_own X1.lh (X1.lh.free nb)
          have ec : Ext none L1 (upd H1 b (SetO w b (fun j => decide (j ∈ ns)) n)) L1 (upd (upd H1 b (SetO w b (fun j => decide (j ∈ ns)) n)) c (.lst (ms.map V.int))) := Ext.own nc
          have X2 := X1.step eb s2
          have nc1 : H1 c = none := eb.free nc
          have X3 := X2.step ec (same_own s2 (X1.lh.free nc1))
          exact q.2 ms pw (fun k => by rw [mem k, decide_eq_true_eq]) _ L1 _ X3 ((e1.trans eb.any).trans ec.any) (VR.back (VR0.vr (r := .nw (dI ms)) ⟨c, _, rfl, nc, X1.lh.free nc1, upd_same, dvs_ints ms⟩ X2) (e1.trans eb.any))
        cases hx : r.dat with
        | none => rw [hx] at hds; cases hds
        | some d =>
          rw [hx] at hds
          cases d with
          | list es =>
            cases hds
            obtain ⟨a, ys, rfl, k1, k2⟩ := (r1.vl hx).lst X1.lh
            rw [intsD_is hn] at k2
            cases ints_dvs k2
            exact .inl ⟨a, ns, rfl, SqL.of k1, few, rest⟩
          | tuple es =>
            cases hds
            obtain ⟨a, ys, rfl, k1, k2⟩ := (r1.vl hx).tup
            rw [intsD_is hn] at k2
            cases ints_dvs k2
            exact .inr ⟨a, ns, rfl, (k1.to X1.lh).seq, few, rest⟩
          | _ => cases hds
      · exact q.elim
    · exact q.elim
end
end Lp

namespace PySem.W
open PySem PySem.Spec PySem.Calls PyProof.Rows
section
variable {M : Model} {K : Frag} {A : Around} {E : Value → Shared → Prop} {s : Shared} {α β : Type}
theorem forIn_walk {f : α → β → Sem (ForInStep β)} {b : β} {R : β → Shared → Prop} : ∀ cs : List α, (∀ c ∈ cs, ∀ R' : ForInStep β → Shared → Prop, R' (.yield b) s → wpAny M A (f c b) R' E s) → R b s → wpAny M A (forIn cs b f) R E s
  | [], _, r => by
    rw [List.forIn_nil]
    exact wpAny_pure r
  | c :: cs, st, r => by
    rw [List.forIn_cons]
    exact wpAny_bind (st c List.mem_cons_self _ (forIn_walk cs (fun d hd => st d (List.mem_cons_of_mem _ hd)) r))
theorem forIn_any {f : α → β → Sem (ForInStep β)} {i d : β} {v : α → Bool} {R : β → Shared → Prop} : ∀ cs : List α, (∀ c ∈ cs, ∀ R' : ForInStep β → Shared → Prop, R' (if v c = true then .done d else .yield i) s → wpAny M A (f c i) R' E s) → R (if cs.any v = true then d else i) s → wpAny M A (forIn cs i f) R E s
  | [], _, r => by
    rw [List.forIn_nil]
    exact wpAny_pure r
  | c :: cs, st, r => by
    rw [List.forIn_cons]
    refine wpAny_bind (st c List.mem_cons_self _ ?_)
    rw [List.any_cons] at r
    cases h : v c with
    | true =>
      rw [if_pos rfl]
      rw [h, Bool.true_or, if_pos rfl] at r
      exact wpAny_pure r
    | false =>
      rw [if_neg Bool.false_ne_true]
      rw [h, Bool.false_or] at r
      exact forIn_any cs (fun d hd => st d (List.mem_cons_of_mem _ hd)) r
theorem exmAny_all {K : Frag} {cls : Value} : ∀ {cs : List Value} {b : Bool}, exmAny K cls cs = some b → ∃ v : Value → Bool, (∀ c ∈ cs, exmOne K cls c = some (v c)) ∧ cs.any v = b
  | [], b, e => ⟨fun _ => false, (fun _ z => nomatch z), Option.some.inj e⟩
  | c :: cs, b, e => by
    refine ⟨fun c => (exmOne K cls c).getD false, ?_⟩
    have key : ∀ (cs : List Value) (b : Bool), exmAny K cls cs = some b → (∀ c ∈ cs, exmOne K cls c = some ((exmOne K cls c).getD false)) ∧ cs.any (fun c => (exmOne K cls c).getD false) = b := by
      intro cs
      induction cs with
      | nil => intro b e; exact ⟨(fun _ z => nomatch z), Option.some.inj e⟩
      | cons x xs ih =>
        intro b e
        obtain ⟨b1, d1, h1, h2, rfl⟩ := exmAny_cons e
        obtain ⟨i1, i2⟩ := ih d1 h2
        refine ⟨fun y hy => ?_, ?_⟩
        · rcases List.mem_cons.mp hy with rfl | hy
          · rw [h1]; rfl
          · exact i1 y hy
        · rw [List.any_cons, i2, h1]; rfl
    exact key _ _ e
theorem exm_tupN {cs : List Value} {cls : Value} {tp e : Addr} {b : Bool} {h : Heap} (X : K.In h) (LT : Looks M h (typeOf (.ref e)) cls) (hp : h.get? tp = some { cls := .type "tuple", data := .seq cs.toArray }) (hx : exmAny K cls cs = some b) :
    Looks M h (excMatches (.ref e) (.ref tp)) b := by
  intro A Q E s k₀ q
  obtain ⟨hh, g, d, tk, os⟩ := s
  have k : ∀ b o, h.get? b = some o → hh.get? b = some o := k₀
  have isT : Looks M h (isInstance (.ref tp) (.type "tuple")) true := ((Looks.ld hp).andThen .now).andThen (Looks.of_pure isSubtype_tuple_tuple)
  obtain ⟨v, hv, rfl⟩ := exmAny_all hx
  have isT := isT.keeps k
  have LT := LT.keeps k
  have hp' := k _ _ hp
  unfold excMatches
  refine wpAny_bind (isT.at ?_)
  dsimp only
  rw [if_pos rfl]
  first
    | refine wpAny_bind (wpAny_seqItems hp' rfl ?_)
    | refine wpAny_bind (wpAny_bind (wpAny_seqItems hp' rfl (wpAny_pure ?_)))
  dsimp only [Option.getD_some, Option.getD]
  refine wpAny_bind (wpAny_pure ?_)
  refine wpAny_bind (forIn_walk cs (fun c hc R' hR => ?_) ?_)
  · have e1 := (exm_cls (M := M) X (hv c hc)).1.keeps k
    refine wpAny_bind (e1.at ?_)
    simp only [Bool.not_true, Bool.false_eq_true, if_false]
    exact wpAny_pure hR
  refine wpAny_bind (LT.at ?_)
  refine wpAny_bind (forIn_any (v := v) (d := (some true, ())) cs (fun c hc R' hR => ?_) ?_)
  · have s1 := (exm_cls (M := M) X (hv c hc)).2.keeps k
    refine wpAny_bind (s1.at ?_)
    cases z : v c with
    | true =>
      rw [z, if_pos rfl] at hR
      simp only [if_true]
      exact wpAny_pure hR
    | false =>
      rw [z, if_neg Bool.false_ne_true] at hR
      simp only [Bool.false_eq_true, if_false]
      exact wpAny_pure hR
  cases z : cs.any v with
  | true =>
    rw [z] at q
    simp only [if_true]
    exact wpAny_pure q
  | false =>
    rw [z] at q
    simp only [Bool.false_eq_true, if_false]
    exact wpAny_pure q
end
end PySem.W
namespace Lp
open PySem PySem.Spec PyProof.Rows L2
section
variable {X : Cx}
theorem tst_6 {x1 x2 x3 x4 x5 x6 : Str} {c1 c2 c3 c4 c5 c6 : Value} {p1 p2 p3 p4 p5 p6 tpos : Pos} {kk : Nat} (n1 : Names X x1 c1) (n2 : Names X x2 c2) (n3 : Names X x3 c3) (n4 : Names X x4 c4) (n5 : Names X x5 c5) (n6 : Names X x6 c6) : TstOk X (.Tuple [.Name x1 p1, .Name x2 p2, .Name x3 p3, .Name x4 p4, .Name x5 p5, .Name x6 p6] kk tpos) [c1, c2, c3, c4, c5, c6] := by
  intro a pn σ H s cls b Q E S LT he q
  refine wpAny_Tuple ?_
  refine wpAny_items_cons (ld_name S n1 ?_)
  refine wpAny_items_cons (ld_name S n2 ?_)
  refine wpAny_items_cons (ld_name S n3 ?_)
  refine wpAny_items_cons (ld_name S n4 ?_)
  refine wpAny_items_cons (ld_name S n5 ?_)
  refine wpAny_items_cons (ld_name S n6 ?_)
  refine wpAny_items_nil ⟨by size_fits, ?_⟩
  have kp : ∀ q o, s.heap.get? q = some o → (s.heap.push { cls := .type "tuple", data := .seq [c1, c2, c3, c4, c5, c6].toArray }).get? q = some o := fun _ _ z => Heap.get?_push_of_some _ z
  exact (PySem.W.exm_tupN (S.kIn.keeps kp) (LT.keeps kp) (Heap.get?_push_size s.heap rfl) he).here (q _ kp)
end
end Lp

namespace Lp
open PySem PySem.Spec PyProof.Rows L2
local macro_rules | `(tactic| rfl') => `(tactic| try dsimp only [dVar_, gv_sh, gv_ow, gv_bx, gv_raw, gv_exn, gv_st, dC, dRaw, dOp, dUn, dTest, dTruth, dAnd, dOr, dNot, dYes, dIf, dAndV, dOrV, dNotV, dNotT, dChain, dNil, dCons, dTup, dLst, dats, dCB, dNoP, dPart, dSl, dNext, dBreak, dCont, dNever, dDrop, dRet, dRetN, dIfS, dSetG, dPar, dPar3, dAppend, dAppPop, dSetIx, dExt, dAug, dSet0, dSAdd, dSNotIn, dIter_, gi_l, gi_t, gi_b, dRng1, dRng2, dName, dGNil, dGCons, dGTup, dAsg, dFor, dWhile, dCall, dCallR, dArgs_, ga_f, ga_t, argsOf, dLc, wipeE, dListRg, dIndex, dSortSet, dSortSc, dEnum, dEnA, dZip, dIsi, dIsi2, isaT, φI, φB, φC, φNeg, add_i, add_l, add_t, mul_i, mul_l, φIx, sl_l, sl_t, eq_i, eq_s, eq_l, eq_t, eq_b, eq_n, φIsN, isN_n, isN_b, isN_i, isN_s, isN_l, isN_t, φLen, φList, φTuple, φAbs, φInt, φMax, φIsB, φIsNB, its_l, its_t, rd_sh, rd_nw, rd_br, rp_sh, rp_nw, rp_br, rp_bx, rp_raw, rp_sr, rr_sh, rr_nw, rr_br, ra_sh, ra_br, ra_bx, ra_raw, va_sh, va_nt, va_nf, va_raw, hb_n, hb_sh, hb_bx, hb_raw, hb_br, sh_n, sh_c, tr_n, tr_b, tr_i, tr_l, tr_t, ty_n, ty_b, ty_i, ty_s, ty_l, ty_t, if_ff, if_tt, Env.set, List.getElem?_cons_succ, List.getElem?_cons_zero, List.set_cons_succ, List.set_cons_zero, List.reverse_cons, List.reverse_nil, List.nil_append, List.cons_append, Option.bind_some, ite_true, ite_false, dCallX, dArgsX_, gx_s, dRaise, dIsX, dAttr, dIsNE, dCount, dSortSetA, dPickX, dMethX, dMeth, dMkCir, dFnL, dPickN, gv_gen, ra_gen, hb_gen, rp_gen, va_gen, rr_gen, dCallV, dCallVX])
abbrev xPerN (p : Int) : Xn := ⟨"NoPerson", [("person", .int p)]⟩
abbrev In98 (xs : List PyData) (p : Int) : Prop := 0 ≤ p ∧ p < (xs.length : Int)
/-- a person who is not there -/
def qP (k : Nat) : DSpX := fun args c Q E => ∃ (xs : List PyData) (p : Int) (rest : List SV), args = .sh (.tuple xs) :: .sh (.int p) :: rest ∧ rest.length = k ∧ ¬ In98 xs p ∧ E (xPerN p) c
theorem monx_qP (k : Nat) : MonX (qP k) := fun args c A B C D h g ⟨xs, p, rest, e, h1, h2, q⟩ => ⟨xs, p, rest, e, h1, h2, g _ _ q⟩
/-- a word in which somebody is not there: p the first -/
def qW (k : Nat) : DSpX := fun args c Q E => ∃ (xs : List PyData) (a b : List Int) (p : Int) (rest : List SV), args = .sh (.tuple xs) :: .sh (.list (dI (a ++ p :: b))) :: rest ∧ rest.length = k ∧ (∀ x ∈ a, In98 xs x) ∧ ¬ In98 xs p ∧ E (xPerN p) c
theorem monx_qW (k : Nat) : MonX (qW k) := fun args c A B C D h g ⟨xs, a, b, p, rest, e, h1, h2, h3, q⟩ => ⟨xs, a, b, p, rest, e, h1, h2, h3, g _ _ q⟩
/-- check_person, raising: state, person -/
def bx_check_personN [Fns] (Ex : Xn → Env → Prop) : DTS := (dIfS (dNot (dTest (dChain (φB fun i j => decide (i ≤ j)) (φB fun i j => decide (i < j)) (dC (.int 0)) (dVar 1) (dCB φLen (dCons (dVar 0) dNil))))) (dRaise "NoPerson" "person" (dVar 1) Ex) dNext)
abbrev kx_check_personN : Nat := 0
def q_check_personN : DSpX := fun args c Q E => ∃ (xs : List PyData) (p : Int), args = [.sh (.tuple xs), .sh (.int p)] ∧ (In98 xs p → Q (.sh .none) c) ∧ (¬ In98 xs p → E (xPerN p) c)
theorem monx_check_personN : MonX q_check_personN := fun args c A B C D h g ⟨xs, p, e, h1, h2⟩ => ⟨xs, p, e, fun z => h _ _ (h1 z), fun z => g _ _ (h2 z)⟩
theorem mx_check_personN [Fns] : ∀ args c Q Ex, q_check_personN args c Q Ex → defX kx_check_personN bx_check_personN args c Q Ex := by
  rintro _ c Q Ex ⟨xs, p, rfl, q1, q2⟩
  show bx_check_personN _ _ ⟨[.sh (.tuple xs), .sh (.int p)], c⟩
  unfold bx_check_personN
  rfl'
  by_cases h0 : 0 ≤ p
  · refine it_t h0 ?_
    by_cases h1 : p < (xs.length : Int)
    · rw [decide_eq_true h1]
      exact q1 ⟨h0, h1⟩
    · rw [decide_eq_false h1]
      exact q2 fun z => h1 z.2
  · refine it_f h0 ?_
    exact q2 fun z => h0 z.1
/-- check_word, raising: state, word, person -/
def bx_check_wordN [Fns] (Ex : Xn → Env → Prop) : DTS := (dFor (dIter (dVar 1)) (dName 2) (dDrop (dCallX q_check_personN Ex (dCons (dVar 0) (dCons (dVar 2) dNil)))))
abbrev kx_check_wordN : Nat := 1
def q_check_wordN : DSpX := fun args c Q E => ∃ (xs : List PyData) (ws : List Int), args = [.sh (.tuple xs), .sh (.list (dI ws))] ∧ ((∀ x ∈ ws, In98 xs x) → Q (.sh .none) c) ∧ ∀ a p b, ws = a ++ p :: b → (∀ x ∈ a, In98 xs x) → ¬ In98 xs p → E (xPerN p) c
theorem monx_check_wordN : MonX q_check_wordN := fun args c A B C D h g ⟨xs, ws, e, h1, h2⟩ => ⟨xs, ws, e, fun z => h _ _ (h1 z), fun a p b z1 z2 z3 => g _ _ (h2 a p b z1 z2 z3)⟩
theorem cw98 {xs : List PyData} {ws0 : SV} {c : Nat} {Δ : DEnds} {Ex : Xn → Env → Prop} : ∀ (ws : List Int) (x2 : SV), ((∀ x ∈ ws, In98 xs x) → ∀ x2, Δ.nx ⟨[.sh (.tuple xs), ws0, x2], c⟩) → (∀ a p b, ws = a ++ p :: b → (∀ x ∈ a, In98 xs x) → ¬ In98 xs p → ∀ x2, Ex (xPerN p) ⟨[.sh (.tuple xs), ws0, x2], c⟩) →
    forD (dName 2) (dDrop (dCallX q_check_personN Ex (dCons (dVar 0) (dCons (dVar 2) dNil)))) Δ (dI ws) ⟨[.sh (.tuple xs), ws0, x2], c⟩
  | [], x2, q1, _ => q1 (fun _ h => nomatch h) x2
  | w :: ws, x2, q1, q2 => by
    show forD _ _ _ (.int w :: dI ws) _
    refine for_cons ?_
    rfl'
    refine ⟨rfl, xs, w, rfl, fun z => ?_, fun z => q2 [] w ws rfl (fun _ h => nomatch h) z _⟩
    refine cw98 ws _ (fun h x2 => q1 (fun x hx => ?_) x2) fun a p b e h1 h2 x2 => q2 (w :: a) p b (by rw [e]; rfl) (fun x hx => ?_) h2 x2
    · rcases List.mem_cons.mp hx with rfl | hx
      · exact z
      · exact h x hx
    · rcases List.mem_cons.mp hx with rfl | hx
      · exact z
      · exact h1 x hx
theorem mx_check_wordN [Fns] : ∀ args c Q Ex, q_check_wordN args c Q Ex → defX kx_check_wordN bx_check_wordN args c Q Ex := by
  rintro _ c Q Ex ⟨xs, ws, rfl, q1, q2⟩
  show bx_check_wordN _ _ ⟨[.sh (.tuple xs), .sh (.list (dI ws)), .un], c⟩
  unfold bx_check_wordN
  rfl'
  exact ⟨rfl, cw98 ws _ (fun h _ => q1 h) fun a p b e h1 h2 _ => q2 a p b e h1 h2⟩
/-- check_size, raising: state, other -/
def bx_check_sizeN [Fns] (Ex : Xn → Env → Prop) : DTS := (dIfS (dTest (dOp (φEq true) (dCB φLen (dCons (dVar 1) dNil)) (dCB φLen (dCons (dVar 0) dNil)))) (dRaise "OtherSize" "size" (dCB φLen (dCons (dVar 1) dNil)) Ex) dNext)
abbrev kx_check_sizeN : Nat := 0
def q_check_sizeN : DSpX := fun args c Q E => ∃ (xs ys : List PyData), args = [.sh (.tuple xs), .sh (.tuple ys)] ∧ ys.length = xs.length ∧ Q (.sh .none) c
theorem monx_check_sizeN : MonX q_check_sizeN := fun args c A B C D h g ⟨xs, ys, e, h1, q⟩ => ⟨xs, ys, e, h1, h _ _ q⟩
theorem mx_check_sizeN [Fns] : ∀ args c Q Ex, q_check_sizeN args c Q Ex → defX kx_check_sizeN bx_check_sizeN args c Q Ex := by
  rintro _ c Q Ex ⟨xs, ys, rfl, h, q⟩
  show bx_check_sizeN _ _ ⟨[.sh (.tuple xs), .sh (.tuple ys)], c⟩
  unfold bx_check_sizeN
  rfl'
  exact in_f (by rw [h]) q
/-- number_without, raising: number, person -/
def bx_number_withoutN [Fns] (Ex : Xn → Env → Prop) : DTS := (dRet (dIf (dTest (dOp (φB fun i j => decide (j < i)) (dVar 0) (dVar 1))) (dOp (φI fun i j => i - j) (dVar 0) (dC (.int 1))) (dVar 0)))
abbrev kx_number_withoutN : Nat := 0
def q_number_withoutN : DSpX := fun _ _ _ _ => False
theorem monx_number_withoutN : MonX q_number_withoutN := fun args c A B C D h g q => q
theorem mx_number_withoutN [Fns] : ∀ args c Q Ex, q_number_withoutN args c Q Ex → defX kx_number_withoutN bx_number_withoutN args c Q Ex := fun _ _ _ _ q => q.elim
/-- the first who is nobody -/
theorem first98 {xs : List PyData} {w : Int} (hw : ¬ In98 xs w) : ∀ {a b a' b' : List Int} {p : Int}, a ++ w :: b = a' ++ p :: b' → (∀ x ∈ a, In98 xs x) → (∀ x ∈ a', In98 xs x) → ¬ In98 xs p → p = w
  | [], b, [], b', p, e, _, _, _ => by cases e; rfl
  | [], b, x :: a', b', p, e, _, l, _ => by
    rw [List.nil_append, List.cons_append] at e
    cases e
    exact absurd (l w List.mem_cons_self) hw
  | x :: a, b, [], b', p, e, l, _, hp => by
    rw [List.nil_append, List.cons_append] at e
    cases e
    exact absurd (l _ List.mem_cons_self) hp
  | x :: a, b, y :: a', b', p, e, l, l', hp => by
    rw [List.cons_append, List.cons_append] at e
    exact first98 hw (List.cons.inj e).2 (fun z hz => l z (List.mem_cons_of_mem _ hz)) (fun z hz => l' z (List.mem_cons_of_mem _ hz)) hp
/-- way, raising: state, person -/
def bx_wayN [Fns] (Ex : Xn → Env → Prop) : DTS := (dSeq (dDrop (dCallX q_check_personN Ex (dCons (dVar 0) (dCons (dVar 1) dNil))))
  dNever)
abbrev kx_wayN : Nat := 0
abbrev q_wayN : DSpX := qP 0
theorem monx_wayN : MonX q_wayN := monx_qP 0
theorem mx_wayN [Fns] : ∀ args c Q Ex, q_wayN args c Q Ex → defX kx_wayN bx_wayN args c Q Ex := by
  rintro _ c Q Ex ⟨xs, p, rest, rfl, hk, hp, q⟩
  obtain rfl : rest = [] := List.length_eq_zero_iff.mp hk
  show bx_wayN _ _ ⟨[.sh (.tuple xs), .sh (.int p)], c⟩
  unfold bx_wayN
  refine sq_ ?_
  rfl'
  exact ⟨rfl, xs, p, rfl, fun z => absurd z hp, fun _ => q⟩
/-- ring_of, raising: state, person, route, members -/
def bx_ring_ofN [Fns] (Ex : Xn → Env → Prop) : DTS := (dSeq (dDrop (dCallX q_check_personN Ex (dCons (dVar 0) (dCons (dVar 1) dNil))))
  dNever)
abbrev kx_ring_ofN : Nat := 2
abbrev q_ring_ofN : DSpX := qP 0
theorem monx_ring_ofN : MonX q_ring_ofN := monx_qP 0
theorem mx_ring_ofN [Fns] : ∀ args c Q Ex, q_ring_ofN args c Q Ex → defX kx_ring_ofN bx_ring_ofN args c Q Ex := by
  rintro _ c Q Ex ⟨xs, p, rest, rfl, hk, hp, q⟩
  obtain rfl : rest = [] := List.length_eq_zero_iff.mp hk
  show bx_ring_ofN _ _ ⟨[.sh (.tuple xs), .sh (.int p), .un, .un], c⟩
  unfold bx_ring_ofN
  refine sq_ ?_
  rfl'
  exact ⟨rfl, xs, p, rfl, fun z => absurd z hp, fun _ => q⟩
/-- height, raising: state, person -/
def bx_heightN [Fns] (Ex : Xn → Env → Prop) : DTS := (dSeq (dDrop (dCallX q_check_personN Ex (dCons (dVar 0) (dCons (dVar 1) dNil))))
  dNever)
abbrev kx_heightN : Nat := 0
abbrev q_heightN : DSpX := qP 0
theorem monx_heightN : MonX q_heightN := monx_qP 0
theorem mx_heightN [Fns] : ∀ args c Q Ex, q_heightN args c Q Ex → defX kx_heightN bx_heightN args c Q Ex := by
  rintro _ c Q Ex ⟨xs, p, rest, rfl, hk, hp, q⟩
  obtain rfl : rest = [] := List.length_eq_zero_iff.mp hk
  show bx_heightN _ _ ⟨[.sh (.tuple xs), .sh (.int p)], c⟩
  unfold bx_heightN
  refine sq_ ?_
  rfl'
  exact ⟨rfl, xs, p, rfl, fun z => absurd z hp, fun _ => q⟩
/-- bypassed, raising: state, person, others, other, target, beyond -/
def bx_bypassedN [Fns] (Ex : Xn → Env → Prop) : DTS := (dSeq (dDrop (dCallX q_check_personN Ex (dCons (dVar 0) (dCons (dVar 1) dNil))))
  dNever)
abbrev kx_bypassedN : Nat := 4
abbrev q_bypassedN : DSpX := qP 0
theorem monx_bypassedN : MonX q_bypassedN := monx_qP 0
theorem mx_bypassedN [Fns] : ∀ args c Q Ex, q_bypassedN args c Q Ex → defX kx_bypassedN bx_bypassedN args c Q Ex := by
  rintro _ c Q Ex ⟨xs, p, rest, rfl, hk, hp, q⟩
  obtain rfl : rest = [] := List.length_eq_zero_iff.mp hk
  show bx_bypassedN _ _ ⟨[.sh (.tuple xs), .sh (.int p), .un, .un, .un, .un], c⟩
  unfold bx_bypassedN
  refine sq_ ?_
  rfl'
  exact ⟨rfl, xs, p, rfl, fun z => absurd z hp, fun _ => q⟩
/-- part_of, raising: state, person, group, members, member -/
def bx_part_ofN [Fns] (Ex : Xn → Env → Prop) : DTS := (dSeq (dDrop (dCallX q_check_personN Ex (dCons (dVar 0) (dCons (dVar 1) dNil))))
  dNever)
abbrev kx_part_ofN : Nat := 3
abbrev q_part_ofN : DSpX := qP 0
theorem monx_part_ofN : MonX q_part_ofN := monx_qP 0
theorem mx_part_ofN [Fns] : ∀ args c Q Ex, q_part_ofN args c Q Ex → defX kx_part_ofN bx_part_ofN args c Q Ex := by
  rintro _ c Q Ex ⟨xs, p, rest, rfl, hk, hp, q⟩
  obtain rfl : rest = [] := List.length_eq_zero_iff.mp hk
  show bx_part_ofN _ _ ⟨[.sh (.tuple xs), .sh (.int p), .un, .un, .un], c⟩
  unfold bx_part_ofN
  refine sq_ ?_
  rfl'
  exact ⟨rfl, xs, p, rfl, fun z => absurd z hp, fun _ => q⟩
/-- person_after, raising: state, person, steps, route, begin -/
def bx_person_afterN [Fns] (Ex : Xn → Env → Prop) : DTS := (dSeq (dDrop (dCallX q_check_personN Ex (dCons (dVar 0) (dCons (dVar 1) dNil))))
  dNever)
abbrev kx_person_afterN : Nat := 2
abbrev q_person_afterN : DSpX := qP 1
theorem monx_person_afterN : MonX q_person_afterN := monx_qP 1
theorem mx_person_afterN [Fns] : ∀ args c Q Ex, q_person_afterN args c Q Ex → defX kx_person_afterN bx_person_afterN args c Q Ex := by
  rintro _ c Q Ex ⟨xs, p, rest, rfl, hk, hp, q⟩
  obtain ⟨z, rfl⟩ := List.length_eq_one_iff.mp hk
  show bx_person_afterN _ _ ⟨[.sh (.tuple xs), .sh (.int p), z, .un, .un], c⟩
  unfold bx_person_afterN
  refine sq_ ?_
  rfl'
  exact ⟨rfl, xs, p, rfl, fun z => absurd z hp, fun _ => q⟩
/-- called_all, raising: state, word, pointers, person -/
def bx_called_allN [Fns] (Ex : Xn → Env → Prop) : DTS := (dSeq (dDrop (dCallX q_check_wordN Ex (dCons (dVar 0) (dCons (dVar 1) dNil))))
  dNever)
abbrev kx_called_allN : Nat := 2
abbrev q_called_allN : DSpX := qW 0
theorem monx_called_allN : MonX q_called_allN := monx_qW 0
theorem mx_called_allN [Fns] : ∀ args c Q Ex, q_called_allN args c Q Ex → defX kx_called_allN bx_called_allN args c Q Ex := by
  rintro _ c Q Ex ⟨xs, a, b, p, rest, rfl, hk, ha, hp, q⟩
  obtain rfl : rest = [] := List.length_eq_zero_iff.mp hk
  show bx_called_allN _ _ ⟨[.sh (.tuple xs), .sh (.list (dI (a ++ p :: b))), .un, .un], c⟩
  unfold bx_called_allN
  refine sq_ ?_
  rfl'
  exact ⟨rfl, xs, _, rfl, (fun h => absurd (h p (by simp)) hp), fun a' p' b' e h1 h2 => by rw [first98 hp e ha h1 h2]; exact q⟩
/-- states_along, raising: state, word, along, person -/
def bx_states_alongN [Fns] (Ex : Xn → Env → Prop) : DTS := (dSeq (dDrop (dCallX q_check_wordN Ex (dCons (dVar 0) (dCons (dVar 1) dNil))))
  dNever)
abbrev kx_states_alongN : Nat := 2
abbrev q_states_alongN : DSpX := qW 0
theorem monx_states_alongN : MonX q_states_alongN := monx_qW 0
theorem mx_states_alongN [Fns] : ∀ args c Q Ex, q_states_alongN args c Q Ex → defX kx_states_alongN bx_states_alongN args c Q Ex := by
  rintro _ c Q Ex ⟨xs, a, b, p, rest, rfl, hk, ha, hp, q⟩
  obtain rfl : rest = [] := List.length_eq_zero_iff.mp hk
  show bx_states_alongN _ _ ⟨[.sh (.tuple xs), .sh (.list (dI (a ++ p :: b))), .un, .un], c⟩
  unfold bx_states_alongN
  refine sq_ ?_
  rfl'
  exact ⟨rfl, xs, _, rfl, (fun h => absurd (h p (by simp)) hp), fun a' p' b' e h1 h2 => by rw [first98 hp e ha h1 h2]; exact q⟩
/-- check_roots, raising: state, roots, served, person, ring -/
def bx_check_rootsN [Fns] (Ex : Xn → Env → Prop) : DTS := (dSeq (dDrop (dCallX q_check_wordN Ex (dCons (dVar 0) (dCons (dVar 1) dNil))))
  dNever)
abbrev kx_check_rootsN : Nat := 3
abbrev q_check_rootsN : DSpX := qW 0
theorem monx_check_rootsN : MonX q_check_rootsN := monx_qW 0
theorem mx_check_rootsN [Fns] : ∀ args c Q Ex, q_check_rootsN args c Q Ex → defX kx_check_rootsN bx_check_rootsN args c Q Ex := by
  rintro _ c Q Ex ⟨xs, a, b, p, rest, rfl, hk, ha, hp, q⟩
  obtain rfl : rest = [] := List.length_eq_zero_iff.mp hk
  show bx_check_rootsN _ _ ⟨[.sh (.tuple xs), .sh (.list (dI (a ++ p :: b))), .un, .un, .un], c⟩
  unfold bx_check_rootsN
  refine sq_ ?_
  rfl'
  exact ⟨rfl, xs, _, rfl, (fun h => absurd (h p (by simp)) hp), fun a' p' b' e h1 h2 => by rw [first98 hp e ha h1 h2]; exact q⟩
/-- idle_calls, raising: state, word, along, at -/
def bx_idle_callsN [Fns] (Ex : Xn → Env → Prop) : DTS := (dSeq (dSetG false 2 (dCallX q_states_alongN Ex (dCons (dVar 0) (dCons (dVar 1) dNil))))
  dNever)
abbrev kx_idle_callsN : Nat := 2
abbrev q_idle_callsN : DSpX := qW 0
theorem monx_idle_callsN : MonX q_idle_callsN := monx_qW 0
theorem mx_idle_callsN [Fns] : ∀ args c Q Ex, q_idle_callsN args c Q Ex → defX kx_idle_callsN bx_idle_callsN args c Q Ex := by
  rintro _ c Q Ex ⟨xs, a, b, p, rest, rfl, hk, ha, hp, q⟩
  obtain rfl : rest = [] := List.length_eq_zero_iff.mp hk
  show bx_idle_callsN _ _ ⟨[.sh (.tuple xs), .sh (.list (dI (a ++ p :: b))), .un, .un], c⟩
  unfold bx_idle_callsN
  refine sq_ ?_
  rfl'
  exact ⟨rfl, xs, a, b, p, [], rfl, rfl, ha, hp, q⟩
/-- called, raising: state, person -/
def bx_calledN [Fns] (Ex : Xn → Env → Prop) : DTS := (dRet (dCallX q_called_allN Ex (dCons (dVar 0) (dCons (dLst (dCons (dVar 1) dNil)) dNil))))
abbrev kx_calledN : Nat := 0
abbrev q_calledN : DSpX := qP 0
theorem monx_calledN : MonX q_calledN := monx_qP 0
theorem mx_calledN [Fns] : ∀ args c Q Ex, q_calledN args c Q Ex → defX kx_calledN bx_calledN args c Q Ex := by
  rintro _ c Q Ex ⟨xs, p, rest, rfl, hk, hp, q⟩
  obtain rfl : rest = [] := List.length_eq_zero_iff.mp hk
  show bx_calledN _ _ ⟨[.sh (.tuple xs), .sh (.int p)], c⟩
  unfold bx_calledN
  rfl'
  exact ⟨rfl, xs, [], [], p, [], rfl, rfl, (fun _ h => nomatch h), hp, q⟩
/-- rest_with, raising: state, roots, root_of, root, person -/
def bx_rest_withN [Fns] (Ex : Xn → Env → Prop) : DTS := (dSeq (dDrop (dCallX q_check_rootsN Ex (dCons (dVar 0) (dCons (dVar 1) dNil))))
  dNever)
abbrev kx_rest_withN : Nat := 3
abbrev q_rest_withN : DSpX := qW 0
theorem monx_rest_withN : MonX q_rest_withN := monx_qW 0
theorem mx_rest_withN [Fns] : ∀ args c Q Ex, q_rest_withN args c Q Ex → defX kx_rest_withN bx_rest_withN args c Q Ex := by
  rintro _ c Q Ex ⟨xs, a, b, p, rest, rfl, hk, ha, hp, q⟩
  obtain rfl : rest = [] := List.length_eq_zero_iff.mp hk
  show bx_rest_withN _ _ ⟨[.sh (.tuple xs), .sh (.list (dI (a ++ p :: b))), .un, .un, .un], c⟩
  unfold bx_rest_withN
  refine sq_ ?_
  rfl'
  exact ⟨rfl, xs, a, b, p, [], rfl, rfl, ha, hp, q⟩
/-- people_astray, raising: state, roots, rest, person -/
def bx_people_astrayN [Fns] (Ex : Xn → Env → Prop) : DTS := (dSeq (dSetG false 2 (dCallX q_rest_withN Ex (dCons (dVar 0) (dCons (dVar 1) dNil))))
  dNever)
abbrev kx_people_astrayN : Nat := 2
abbrev q_people_astrayN : DSpX := qW 0
theorem monx_people_astrayN : MonX q_people_astrayN := monx_qW 0
theorem mx_people_astrayN [Fns] : ∀ args c Q Ex, q_people_astrayN args c Q Ex → defX kx_people_astrayN bx_people_astrayN args c Q Ex := by
  rintro _ c Q Ex ⟨xs, a, b, p, rest, rfl, hk, ha, hp, q⟩
  obtain rfl : rest = [] := List.length_eq_zero_iff.mp hk
  show bx_people_astrayN _ _ ⟨[.sh (.tuple xs), .sh (.list (dI (a ++ p :: b))), .un, .un], c⟩
  unfold bx_people_astrayN
  refine sq_ ?_
  rfl'
  exact ⟨rfl, xs, a, b, p, [], rfl, rfl, ha, hp, q⟩
/-- fewest_to_rest, raising: state, roots -/
def bx_fewest_to_restN [Fns] (Ex : Xn → Env → Prop) : DTS := (dRet (dCB φLen (dCons (dCallX q_people_astrayN Ex (dCons (dVar 0) (dCons (dVar 1) dNil))) dNil)))
abbrev kx_fewest_to_restN : Nat := 0
abbrev q_fewest_to_restN : DSpX := qW 0
theorem monx_fewest_to_restN : MonX q_fewest_to_restN := monx_qW 0
theorem mx_fewest_to_restN [Fns] : ∀ args c Q Ex, q_fewest_to_restN args c Q Ex → defX kx_fewest_to_restN bx_fewest_to_restN args c Q Ex := by
  rintro _ c Q Ex ⟨xs, a, b, p, rest, rfl, hk, ha, hp, q⟩
  obtain rfl : rest = [] := List.length_eq_zero_iff.mp hk
  show bx_fewest_to_restN _ _ ⟨[.sh (.tuple xs), .sh (.list (dI (a ++ p :: b)))], c⟩
  unfold bx_fewest_to_restN
  rfl'
  exact ⟨rfl, xs, a, b, p, [], rfl, rfl, ha, hp, q⟩
/-- word_to_rest, raising: state, roots, rest, ordered, person, steps -/
def bx_word_to_restN [Fns] (Ex : Xn → Env → Prop) : DTS := (dSeq (dSetG false 2 (dCallX q_rest_withN Ex (dCons (dVar 0) (dCons (dVar 1) dNil))))
  dNever)
abbrev kx_word_to_restN : Nat := 4
abbrev q_word_to_restN : DSpX := qW 0
theorem monx_word_to_restN : MonX q_word_to_restN := monx_qW 0
theorem mx_word_to_restN [Fns] : ∀ args c Q Ex, q_word_to_restN args c Q Ex → defX kx_word_to_restN bx_word_to_restN args c Q Ex := by
  rintro _ c Q Ex ⟨xs, a, b, p, rest, rfl, hk, ha, hp, q⟩
  obtain rfl : rest = [] := List.length_eq_zero_iff.mp hk
  show bx_word_to_restN _ _ ⟨[.sh (.tuple xs), .sh (.list (dI (a ++ p :: b))), .un, .un, .un, .un], c⟩
  unfold bx_word_to_restN
  refine sq_ ?_
  rfl'
  exact ⟨rfl, xs, a, b, p, [], rfl, rfl, ha, hp, q⟩
/-- shows_fewest, raising: state, roots, value, astray, item -/
def bx_shows_fewestN [Fns] (Ex : Xn → Env → Prop) : DTS := (dSeq (dSetG false 3 (dCallX q_people_astrayN Ex (dCons (dVar 0) (dCons (dVar 1) dNil))))
  dNever)
abbrev kx_shows_fewestN : Nat := 2
abbrev q_shows_fewestN : DSpX := qW 1
theorem monx_shows_fewestN : MonX q_shows_fewestN := monx_qW 1
theorem mx_shows_fewestN [Fns] : ∀ args c Q Ex, q_shows_fewestN args c Q Ex → defX kx_shows_fewestN bx_shows_fewestN args c Q Ex := by
  rintro _ c Q Ex ⟨xs, a, b, p, rest, rfl, hk, ha, hp, q⟩
  obtain ⟨z, rfl⟩ := List.length_eq_one_iff.mp hk
  show bx_shows_fewestN _ _ ⟨[.sh (.tuple xs), .sh (.list (dI (a ++ p :: b))), z, .un, .un], c⟩
  unfold bx_shows_fewestN
  refine sq_ ?_
  rfl'
  exact ⟨rfl, xs, a, b, p, [], rfl, rfl, ha, hp, q⟩
/-- height: state, person -/
def b_heightN [Fns] : DTS := dNever
abbrev k_heightN : Nat := 0
def p_heightN : DSp := fun _ _ _ => False
theorem mon_heightN : MonF p_heightN := fun args c A B h q => q
theorem m_heightN [Fns] : ∀ args c Q, p_heightN args c Q → defF k_heightN b_heightN args c Q := fun _ _ _ q => q.elim
/-- is_settled: state, word, person -/
def b_is_settledN [Fns] : DTS := (dRet (dCB (φAll false) (dCons (dLc (dIter (dSortSetA (dVar 1))) (dName 2) dYes (dOrV (dOp (φEq false) (dOp φIx (dVar 0) (dVar 2)) (dVar 2)) (dOp (φEq false) (dCall p_heightN (dCons (dVar 0) (dCons (dVar 2) dNil))) (dC (.int 1)))) [2]) dNil)))
abbrev k_is_settledN : Nat := 1
def p_is_settledN : DSp := fun args c Q => ∃ d, args = [.sh d, .sh (.list [])] ∧ Q (.sh (.bool true)) c
theorem mon_is_settledN : MonF p_is_settledN := fun args c A B h ⟨d, e, q⟩ => ⟨d, e, h _ _ q⟩
theorem m_is_settledN [Fns] : ∀ args c Q, p_is_settledN args c Q → defF k_is_settledN b_is_settledN args c Q := by
  rintro _ c Q ⟨d, rfl, q⟩
  show b_is_settledN _ ⟨[.sh d, .sh (.list []), .un], c⟩
  unfold b_is_settledN
  rfl'
  refine ⟨(show 0 < 64 by decide), fun ms _ h => ?_⟩
  obtain rfl : ms = [] := List.eq_nil_iff_forall_not_mem.mpr fun k hk => by have := (h k).mp hk; cases this
  refine lc_all (α := Int) PyData.int PyData.int [] [] (fun _ h => nomatch h) (by decide) ?_
  rfl'
  exact q
/-- states_until_settled, raising: state, word, along -/
def bx_states_until_settledN [Fns] (Ex : Xn → Env → Prop) : DTS := (dSeq (dDrop (dCallX q_check_wordN Ex (dCons (dVar 0) (dCons (dVar 1) dNil))))
  (dSeq (dSetG true 2 (dLst (dCons (dCB φTuple (dCons (dVar 0) dNil)) dNil)))
  (dSeq (dWhile (dNot (dTruth (dCall p_is_settledN (dCons (dOp φIx (dVar 2) (dUn φNeg (dC (.int 1)))) (dCons (dVar 1) dNil))))) (dAppend 2 (dCallX q_called_allN Ex (dCons (dOp φIx (dVar 2) (dUn φNeg (dC (.int 1)))) (dCons (dVar 1) dNil)))))
  (dRet (dVar 2)))))
abbrev kx_states_until_settledN : Nat := 1
def q_states_until_settledN : DSpX := fun args c Q E => ∃ (xs : List PyData) (ws : List Int), args = [.sh (.tuple xs), .sh (.list (dI ws))] ∧ ((∃ a b p, ws = a ++ p :: b ∧ (∀ x ∈ a, In98 xs x) ∧ ¬ In98 xs p ∧ E (xPerN p) c) ∨ (ws = [] ∧ Q (.nw [.tuple xs]) c))
theorem monx_states_until_settledN : MonX q_states_until_settledN := fun args c A B C D h g ⟨xs, ws, e, q⟩ => ⟨xs, ws, e, by
  rcases q with ⟨a, b, p, e1, h1, h2, q⟩ | ⟨e1, q⟩
  · exact .inl ⟨a, b, p, e1, h1, h2, g _ _ q⟩
  · exact .inr ⟨e1, h _ _ q⟩⟩
theorem mx_states_until_settledN [Fns] : ∀ args c Q Ex, q_states_until_settledN args c Q Ex → defX kx_states_until_settledN bx_states_until_settledN args c Q Ex := by
  rintro _ c Q Ex ⟨xs, ws, rfl, q⟩
  show bx_states_until_settledN _ _ ⟨[.sh (.tuple xs), .sh (.list (dI ws)), .un], c⟩
  unfold bx_states_until_settledN
  refine sq_ ?_
  rfl'
  rcases q with ⟨a, b, p, rfl, ha, hp, q⟩ | ⟨rfl, q⟩
  · exact ⟨rfl, xs, _, rfl, (fun h => absurd (h p (by simp)) hp), fun a' p' b' e h1 h2 => by rw [first98 hp e ha h1 h2]; exact q⟩
  · refine ⟨rfl, xs, [], rfl, (fun _ => ?_), fun a' p' b' e _ _ => by cases a' <;> cases e⟩
    refine sq_ ?_
    rfl'
    refine sq_ ?_
    rfl'
    refine ⟨1, ?_⟩
    show dNot _ _ _
    rfl'
    refine ⟨_, rfl, .tuple xs, rfl, ?_⟩
    refine iteF ?_
    exact q
/-- settles, raising: state, word, along, period, person, own -/
def bx_settlesN [Fns] (Ex : Xn → Env → Prop) : DTS := (dSeq (dSetG false 2 (dCallX q_states_until_settledN Ex (dCons (dVar 0) (dCons (dVar 1) dNil))))
  dNever)
abbrev kx_settlesN : Nat := 4
abbrev q_settlesN : DSpX := qW 0
theorem monx_settlesN : MonX q_settlesN := monx_qW 0
theorem mx_settlesN [Fns] : ∀ args c Q Ex, q_settlesN args c Q Ex → defX kx_settlesN bx_settlesN args c Q Ex := by
  rintro _ c Q Ex ⟨xs, a, b, p, rest, rfl, hk, ha, hp, q⟩
  obtain rfl : rest = [] := List.length_eq_zero_iff.mp hk
  show bx_settlesN _ _ ⟨[.sh (.tuple xs), .sh (.list (dI (a ++ p :: b))), .un, .un, .un, .un], c⟩
  unfold bx_settlesN
  refine sq_ ?_
  rfl'
  exact ⟨rfl, xs, _, rfl, .inl ⟨a, b, p, rfl, ha, hp, q⟩⟩
/-- turning, raising: state, word, settled, person -/
def bx_turningN [Fns] (Ex : Xn → Env → Prop) : DTS := (dSeq (dSetG false 2 (dOp φIx (dCallX q_states_until_settledN Ex (dCons (dVar 0) (dCons (dVar 1) dNil))) (dUn φNeg (dC (.int 1)))))
  dNever)
abbrev kx_turningN : Nat := 2
abbrev q_turningN : DSpX := qW 0
theorem monx_turningN : MonX q_turningN := monx_qW 0
theorem mx_turningN [Fns] : ∀ args c Q Ex, q_turningN args c Q Ex → defX kx_turningN bx_turningN args c Q Ex := by
  rintro _ c Q Ex ⟨xs, a, b, p, rest, rfl, hk, ha, hp, q⟩
  obtain rfl : rest = [] := List.length_eq_zero_iff.mp hk
  show bx_turningN _ _ ⟨[.sh (.tuple xs), .sh (.list (dI (a ++ p :: b))), .un, .un], c⟩
  unfold bx_turningN
  refine sq_ ?_
  rfl'
  exact ⟨rfl, xs, _, rfl, .inl ⟨a, b, p, rfl, ha, hp, q⟩⟩
/-- repeated, raising: state, word, many, along, begin, person -/
def bx_repeatedN [Fns] (Ex : Xn → Env → Prop) : DTS := (dSeq (dSetG false 3 (dCallX q_states_until_settledN Ex (dCons (dVar 0) (dCons (dVar 1) dNil))))
  dNever)
abbrev kx_repeatedN : Nat := 3
abbrev q_repeatedN : DSpX := qW 1
theorem monx_repeatedN : MonX q_repeatedN := monx_qW 1
theorem mx_repeatedN [Fns] : ∀ args c Q Ex, q_repeatedN args c Q Ex → defX kx_repeatedN bx_repeatedN args c Q Ex := by
  rintro _ c Q Ex ⟨xs, a, b, p, rest, rfl, hk, ha, hp, q⟩
  obtain ⟨z, rfl⟩ := List.length_eq_one_iff.mp hk
  show bx_repeatedN _ _ ⟨[.sh (.tuple xs), .sh (.list (dI (a ++ p :: b))), z, .un, .un, .un], c⟩
  unfold bx_repeatedN
  refine sq_ ?_
  rfl'
  exact ⟨rfl, xs, _, rfl, .inl ⟨a, b, p, rfl, ha, hp, q⟩⟩
/-- first_time, raising: state, word, person, target, along, pointers, reached, more -/
def bx_first_timeN [Fns] (Ex : Xn → Env → Prop) : DTS := (dSeq (dSetG false 4 (dCallX q_states_until_settledN Ex (dCons (dVar 0) (dCons (dVar 1) dNil))))
  (dSeq (dDrop (dCallX q_check_personN Ex (dCons (dVar 0) (dCons (dVar 2) dNil))))
  (dSeq (dDrop (dCallX q_check_personN Ex (dCons (dVar 0) (dCons (dVar 3) dNil))))
  dNever)))
abbrev kx_first_timeN : Nat := 4
def q_first_timeN : DSpX := fun args c Q E => ∃ (xs : List PyData) (ws : List Int) (p t : Int), args = [.sh (.tuple xs), .sh (.list (dI ws)), .sh (.int p), .sh (.int t)] ∧ ((∃ a b z, ws = a ++ z :: b ∧ (∀ x ∈ a, In98 xs x) ∧ ¬ In98 xs z ∧ E (xPerN z) c) ∨ (ws = [] ∧ ¬ In98 xs p ∧ E (xPerN p) c) ∨ (ws = [] ∧ In98 xs p ∧ ¬ In98 xs t ∧ E (xPerN t) c))
theorem monx_first_timeN : MonX q_first_timeN := fun args c A B C D h g ⟨xs, ws, p, t, e, q⟩ => ⟨xs, ws, p, t, e, by
  rcases q with ⟨a, b, p, e1, h1, h2, q⟩ | ⟨e1, h1, q⟩ | ⟨e1, h1, h2, q⟩
  · exact .inl ⟨a, b, p, e1, h1, h2, g _ _ q⟩
  · exact .inr (.inl ⟨e1, h1, g _ _ q⟩)
  · exact .inr (.inr ⟨e1, h1, h2, g _ _ q⟩)⟩
theorem mx_first_timeN [Fns] : ∀ args c Q Ex, q_first_timeN args c Q Ex → defX kx_first_timeN bx_first_timeN args c Q Ex := by
  rintro _ c Q Ex ⟨xs, ws, p, t, rfl, q⟩
  show bx_first_timeN _ _ ⟨[.sh (.tuple xs), .sh (.list (dI ws)), .sh (.int p), .sh (.int t), .un, .un, .un, .un], c⟩
  unfold bx_first_timeN
  refine sq_ ?_
  rfl'
  rcases q with ⟨a, b, z, e1, h1, h2, q⟩ | ⟨e1, h1, q⟩ | ⟨e1, h1, h2, q⟩
  · exact ⟨rfl, xs, ws, rfl, .inl ⟨a, b, z, e1, h1, h2, q⟩⟩
  · refine ⟨rfl, xs, ws, rfl, .inr ⟨e1, ?_⟩⟩
    rfl'
    refine sq_ ?_
    rfl'
    exact ⟨rfl, xs, p, rfl, (fun z => absurd z h1), fun _ => q⟩
  · refine ⟨rfl, xs, ws, rfl, .inr ⟨e1, ?_⟩⟩
    rfl'
    refine sq_ ?_
    rfl'
    refine ⟨rfl, xs, p, rfl, (fun _ => ?_), fun z => absurd h1 z⟩
    refine sq_ ?_
    rfl'
    exact ⟨rfl, xs, t, rfl, (fun z => absurd z h2), fun _ => q⟩
/-- pointers_for, raising: state, wish, person, target -/
def bx_pointers_forN [Fns] (Ex : Xn → Env → Prop) : DTS := (dSeq (dDrop (dCallX q_check_sizeN Ex (dCons (dVar 0) (dCons (dVar 1) dNil))))
  (dSeq (dDrop (dCallX q_check_personN Ex (dCons (dVar 0) (dCons (dVar 2) dNil))))
  dNever))
abbrev kx_pointers_forN : Nat := 1
def q_pointers_forN : DSpX := fun args c Q E => ∃ (xs ys : List PyData) (p : Int), args = [.sh (.tuple xs), .sh (.tuple ys), .sh (.int p)] ∧ ys.length = xs.length ∧ ¬ In98 xs p ∧ E (xPerN p) c
theorem monx_pointers_forN : MonX q_pointers_forN := fun args c A B C D h g ⟨xs, ys, p, e, h1, h2, q⟩ => ⟨xs, ys, p, e, h1, h2, g _ _ q⟩
theorem mx_pointers_forN [Fns] : ∀ args c Q Ex, q_pointers_forN args c Q Ex → defX kx_pointers_forN bx_pointers_forN args c Q Ex := by
  rintro _ c Q Ex ⟨xs, ys, p, rfl, h1, h2, q⟩
  show bx_pointers_forN _ _ ⟨[.sh (.tuple xs), .sh (.tuple ys), .sh (.int p), .un], c⟩
  unfold bx_pointers_forN
  refine sq_ ?_
  rfl'
  refine ⟨rfl, xs, ys, rfl, h1, ?_⟩
  refine sq_ ?_
  rfl'
  exact ⟨rfl, xs, p, rfl, (fun z => absurd z h2), fun _ => q⟩
/-- call_deed, raising: state, person, after -/
def bx_call_deedN [Fns] (Ex : Xn → Env → Prop) : DTS := (dSeq (dSetG false 2 (dCallX q_calledN Ex (dCons (dVar 0) (dCons (dVar 1) dNil))))
  dNever)
abbrev kx_call_deedN : Nat := 1
abbrev q_call_deedN : DSpX := qP 0
theorem monx_call_deedN : MonX q_call_deedN := monx_qP 0
theorem mx_call_deedN [Fns] : ∀ args c Q Ex, q_call_deedN args c Q Ex → defX kx_call_deedN bx_call_deedN args c Q Ex := by
  rintro _ c Q Ex ⟨xs, p, rest, rfl, hk, hp, q⟩
  obtain rfl : rest = [] := List.length_eq_zero_iff.mp hk
  show bx_call_deedN _ _ ⟨[.sh (.tuple xs), .sh (.int p), .un], c⟩
  unfold bx_call_deedN
  refine sq_ ?_
  rfl'
  exact ⟨rfl, xs, p, [], rfl, rfl, hp, q⟩
/-- leave_deed, raising: state, person -/
def bx_leave_deedN [Fns] (Ex : Xn → Env → Prop) : DTS := (dRet (dTup (dCons (dCallX q_bypassedN Ex (dCons (dVar 0) (dCons (dVar 1) dNil))) (dCons (dCallX q_number_withoutN Ex (dCons (dOp φIx (dVar 0) (dVar 1)) (dCons (dVar 1) dNil))) dNil))))
abbrev kx_leave_deedN : Nat := 0
abbrev q_leave_deedN : DSpX := qP 0
theorem monx_leave_deedN : MonX q_leave_deedN := monx_qP 0
theorem mx_leave_deedN [Fns] : ∀ args c Q Ex, q_leave_deedN args c Q Ex → defX kx_leave_deedN bx_leave_deedN args c Q Ex := by
  rintro _ c Q Ex ⟨xs, p, rest, rfl, hk, hp, q⟩
  obtain rfl : rest = [] := List.length_eq_zero_iff.mp hk
  show bx_leave_deedN _ _ ⟨[.sh (.tuple xs), .sh (.int p)], c⟩
  unfold bx_leave_deedN
  rfl'
  exact ⟨rfl, xs, p, [], rfl, rfl, hp, q⟩
/-- come_deed, raising: state, target, number -/
def bx_come_deedN [Fns] (Ex : Xn → Env → Prop) : DTS := (dSeq (dSetG false 2 (dCB φLen (dCons (dVar 0) dNil)))
  (dSeq (dIfS (dTest (dOp (φIsN false) (dVar 1) (dC .none))) (dRet (dTup (dCons (dOp φAdd (dVar 0) (dTup (dCons (dVar 2) dNil))) (dCons (dVar 2) dNil)))) dNext)
  (dSeq (dDrop (dCallX q_check_personN Ex (dCons (dVar 0) (dCons (dVar 1) dNil))))
  dNever)))
abbrev kx_come_deedN : Nat := 1
abbrev q_come_deedN : DSpX := qP 0
theorem monx_come_deedN : MonX q_come_deedN := monx_qP 0
theorem mx_come_deedN [Fns] : ∀ args c Q Ex, q_come_deedN args c Q Ex → defX kx_come_deedN bx_come_deedN args c Q Ex := by
  rintro _ c Q Ex ⟨xs, p, rest, rfl, hk, hp, q⟩
  obtain rfl : rest = [] := List.length_eq_zero_iff.mp hk
  show bx_come_deedN _ _ ⟨[.sh (.tuple xs), .sh (.int p), .un], c⟩
  unfold bx_come_deedN
  refine sq_ ?_
  rfl'
  refine sq_ ?_
  rfl'
  refine if_f rfl ?_
  refine sq_ ?_
  rfl'
  exact ⟨rfl, xs, p, rfl, (fun z => absurd z hp), fun _ => q⟩
/-- run_deed, raising: state, word -/
def bx_run_deedN [Fns] (Ex : Xn → Env → Prop) : DTS := (dRet (dTup (dCons (dCallX q_called_allN Ex (dCons (dVar 0) (dCons (dVar 1) dNil))) (dCons (dOp (φI fun i j => i - j) (dCB φLen (dCons (dVar 1) dNil)) (dCB φLen (dCons (dCallX q_idle_callsN Ex (dCons (dVar 0) (dCons (dVar 1) dNil))) dNil))) dNil))))
abbrev kx_run_deedN : Nat := 0
abbrev q_run_deedN : DSpX := qW 0
theorem monx_run_deedN : MonX q_run_deedN := monx_qW 0
theorem mx_run_deedN [Fns] : ∀ args c Q Ex, q_run_deedN args c Q Ex → defX kx_run_deedN bx_run_deedN args c Q Ex := by
  rintro _ c Q Ex ⟨xs, a, b, p, rest, rfl, hk, ha, hp, q⟩
  obtain rfl : rest = [] := List.length_eq_zero_iff.mp hk
  show bx_run_deedN _ _ ⟨[.sh (.tuple xs), .sh (.list (dI (a ++ p :: b)))], c⟩
  unfold bx_run_deedN
  rfl'
  exact ⟨rfl, xs, a, b, p, [], rfl, rfl, ha, hp, q⟩
/-- repeat_deed, raising: state, word, many, after -/
def bx_repeat_deedN [Fns] (Ex : Xn → Env → Prop) : DTS := (dSeq (dSetG false 3 (dCallX q_repeatedN Ex (dCons (dVar 0) (dCons (dVar 1) (dCons (dVar 2) dNil)))))
  dNever)
abbrev kx_repeat_deedN : Nat := 1
def q_repeat_deedN : DSpX := fun args c Q E => ∃ (xs : List PyData) (a b : List Int) (p m : Int), args = [.sh (.tuple xs), .sh (.list (dI (a ++ p :: b))), .sh (.int m)] ∧ (∀ x ∈ a, In98 xs x) ∧ ¬ In98 xs p ∧ E (xPerN p) c
theorem monx_repeat_deedN : MonX q_repeat_deedN := fun args c A B C D h g ⟨xs, a, b, p, m, e, h1, h2, q⟩ => ⟨xs, a, b, p, m, e, h1, h2, g _ _ q⟩
theorem mx_repeat_deedN [Fns] : ∀ args c Q Ex, q_repeat_deedN args c Q Ex → defX kx_repeat_deedN bx_repeat_deedN args c Q Ex := by
  rintro _ c Q Ex ⟨xs, a, b, p, m, rfl, ha, hp, q⟩
  show bx_repeat_deedN _ _ ⟨[.sh (.tuple xs), .sh (.list (dI (a ++ p :: b))), .sh (.int m), .un], c⟩
  unfold bx_repeat_deedN
  refine sq_ ?_
  rfl'
  exact ⟨rfl, xs, a, b, p, [.sh (.int m)], rfl, rfl, ha, hp, q⟩
theorem mul98_ {a : List PyData} {k : Int} {Q : R → Prop} (h : a ≠ [] ∧ 1 ≤ k ∧ k ≤ 1000 ∧ a.length ≤ 1000) (q : Q (.sh (.tuple (List.replicate k.toNat a).flatten))) : φMulT (.tuple a) (.int k) Q := ⟨h, q⟩
/-- _law_person, raising: _law_door, _law_start, _law_odd -/
def bx_law_person [Fns] (Ex : Xn → Env → Prop) : DTS := (dSeq (dIfS (dTest (dOp (φB fun i j => decide (i < j)) (dVar 0) (dC (.int 6)))) (dRet (dPickX [q_wayN, q_ring_ofN, q_heightN, q_calledN, q_bypassedN, q_part_ofN] Ex (dVar 0) (dCons (dVar 1) (dCons (dVar 2) dNil)))) dNext)
  (dSeq (dIfS (dTest (dOp (φB fun i j => decide (i < j)) (dVar 0) (dC (.int 8)))) (dRet (dIf (dTest (dOp (φEq false) (dVar 0) (dC (.int 6)))) (dCallX q_person_afterN Ex (dCons (dVar 1) (dCons (dVar 2) (dCons (dC (.int 0)) dNil)))) (dCallX q_pointers_forN Ex (dCons (dVar 1) (dCons (dOp φMulT (dTup (dCons (dC .none) dNil)) (dCB φLen (dCons (dVar 1) dNil))) (dCons (dVar 2) dNil)))))) dNext)
  (dRet (dIf (dTest (dOp (φEq false) (dVar 0) (dC (.int 8)))) (dCallX q_first_timeN Ex (dCons (dVar 1) (dCons (dLst dNil) (dCons (dVar 2) (dCons (dUn φNeg (dC (.int 9))) dNil))))) (dCallX q_first_timeN Ex (dCons (dVar 1) (dCons (dLst dNil) (dCons (dC (.int 0)) (dCons (dVar 2) dNil)))))))))
abbrev kx_law_person : Nat := 0
def q_law_person : DSpX := fun args c Q E => ∃ (k : Int) (xs : List PyData) (p : Int), args = [.sh (.int k), .sh (.tuple xs), .sh (.int p)] ∧ 0 ≤ k ∧ k < 10 ∧ 1 ≤ xs.length ∧ xs.length ≤ 1000 ∧ ¬ In98 xs p ∧ E (xPerN p) c
theorem monx_law_person : MonX q_law_person := fun args c A B C D h g ⟨k, xs, p, e, h1, h2, h3, h4, h5, q⟩ => ⟨k, xs, p, e, h1, h2, h3, h4, h5, g _ _ q⟩
theorem mx_law_person [Fns] : ∀ args c Q Ex, q_law_person args c Q Ex → defX kx_law_person bx_law_person args c Q Ex := by
  rintro _ c Q Ex ⟨k, xs, p, rfl, k0, k1, l1, l2, hp, q⟩
  show bx_law_person _ _ ⟨[.sh (.int k), .sh (.tuple xs), .sh (.int p)], c⟩
  unfold bx_law_person
  refine sq_ ?_
  rfl'
  refine it_2 (fun e => ?_) fun e1 => ?_
  · rcases (by omega : k = 0 ∨ k = 1 ∨ k = 2 ∨ k = 3 ∨ k = 4 ∨ k = 5) with rfl | rfl | rfl | rfl | rfl | rfl <;> exact ⟨_, rfl, rfl, xs, p, [], rfl, rfl, hp, q⟩
  refine sq_ ?_
  rfl'
  refine it_2 (fun e => ?_) fun e2 => ?_
  · refine it_2 (fun e => ?_) fun e2 => ?_
    · exact ⟨rfl, xs, p, [.sh (.int 0)], rfl, rfl, hp, q⟩
    · refine mul98_ ⟨by simp, by omega, by omega, by simp⟩ ?_
      rfl'
      refine ⟨rfl, xs, _, p, rfl, ?_, hp, q⟩
      simp
  rfl'
  have h0 : In98 xs 0 := ⟨by decide, by omega⟩
  refine it_2 (fun e => ?_) fun e3 => ?_
  · exact ⟨rfl, xs, [], p, -9, rfl, .inr (.inl ⟨rfl, hp, q⟩)⟩
  · exact ⟨rfl, xs, [], 0, p, rfl, .inr (.inr ⟨rfl, h0, hp, q⟩)⟩
/-- _law_row, raising: _law_door, _law_start, _law_row_here -/
def bx_law_row [Fns] (Ex : Xn → Env → Prop) : DTS := (dSeq (dIfS (dTest (dOp (φB fun i j => decide (i < j)) (dVar 0) (dC (.int 5)))) (dRet (dPickX [q_called_allN, q_states_alongN, q_idle_callsN, q_settlesN, q_turningN] Ex (dVar 0) (dCons (dVar 1) (dCons (dVar 2) dNil)))) dNext)
  (dSeq (dIfS (dTest (dOp (φB fun i j => decide (i < j)) (dVar 0) (dC (.int 8)))) (dRet (dPickX [q_rest_withN, q_fewest_to_restN, q_word_to_restN] Ex (dOp (φI fun i j => i - j) (dVar 0) (dC (.int 5))) (dCons (dVar 1) (dCons (dVar 2) dNil)))) dNext)
  (dSeq (dIfS (dTest (dOp (φEq false) (dVar 0) (dC (.int 8)))) (dRet (dCallX q_shows_fewestN Ex (dCons (dVar 1) (dCons (dVar 2) (dCons (dLst dNil) dNil))))) dNext)
  (dRet (dIf (dTest (dOp (φEq false) (dVar 0) (dC (.int 9)))) (dCallX q_repeatedN Ex (dCons (dVar 1) (dCons (dVar 2) (dCons (dC (.int 0)) dNil)))) (dCallX q_first_timeN Ex (dCons (dVar 1) (dCons (dVar 2) (dCons (dUn φNeg (dC (.int 8))) (dCons (dUn φNeg (dC (.int 9))) dNil))))))))))
abbrev kx_law_row : Nat := 0
def q_law_row : DSpX := fun args c Q E => ∃ (k : Int) (xs : List PyData) (a b : List Int) (p : Int), args = [.sh (.int k), .sh (.tuple xs), .sh (.list (dI (a ++ p :: b)))] ∧ 0 ≤ k ∧ k < 11 ∧ (∀ x ∈ a, In98 xs x) ∧ ¬ In98 xs p ∧ E (xPerN p) c
theorem monx_law_row : MonX q_law_row := fun args c A B C D h g ⟨k, xs, a, b, p, e, h1, h2, h3, h4, q⟩ => ⟨k, xs, a, b, p, e, h1, h2, h3, h4, g _ _ q⟩
theorem mx_law_row [Fns] : ∀ args c Q Ex, q_law_row args c Q Ex → defX kx_law_row bx_law_row args c Q Ex := by
  rintro _ c Q Ex ⟨k, xs, a, b, p, rfl, k0, k1, ha, hp, q⟩
  show bx_law_row _ _ ⟨[.sh (.int k), .sh (.tuple xs), .sh (.list (dI (a ++ p :: b)))], c⟩
  unfold bx_law_row
  refine sq_ ?_
  rfl'
  refine it_2 (fun e => ?_) fun e1 => ?_
  · rcases (by omega : k = 0 ∨ k = 1 ∨ k = 2 ∨ k = 3 ∨ k = 4) with rfl | rfl | rfl | rfl | rfl <;> exact ⟨_, rfl, rfl, xs, a, b, p, [], rfl, rfl, ha, hp, q⟩
  refine sq_ ?_
  rfl'
  refine it_2 (fun e => ?_) fun e2 => ?_
  · rcases (by omega : k = 5 ∨ k = 6 ∨ k = 7) with rfl | rfl | rfl <;> exact ⟨_, rfl, rfl, xs, a, b, p, [], rfl, rfl, ha, hp, q⟩
  refine sq_ ?_
  rfl'
  refine it_2 (fun e => ?_) fun e3 => ?_
  · exact ⟨rfl, xs, a, b, p, [_], rfl, rfl, ha, hp, q⟩
  rfl'
  refine it_2 (fun e => ?_) fun e3 => ?_
  · exact ⟨rfl, xs, a, b, p, [_], rfl, rfl, ha, hp, q⟩
  · exact ⟨rfl, xs, _, -8, -9, rfl, .inl ⟨a, b, p, rfl, ha, hp, q⟩⟩
/-- _law_hall, raising: _law_door, _law_hall_here, _law_odd, _law_row_here -/
def bx_law_hall [Fns] (Ex : Xn → Env → Prop) : DTS := (dSeq (dIfS (dTest (dOp (φEq false) (dVar 0) (dC (.int 0)))) (dRet (dMethX (q_ci q_call_deedN) Ex (dVar 1) (dCons (dVar 2) dNil))) dNext)
  (dSeq (dIfS (dTest (dOp (φB fun i j => decide (i < j)) (dVar 0) (dC (.int 3)))) (dRet (dIf (dTest (dOp (φEq false) (dVar 0) (dC (.int 1)))) (dMethX (q_ci q_leave_deedN) Ex (dVar 1) (dCons (dVar 2) dNil)) (dMethX (q_ci q_come_deedN) Ex (dVar 1) (dCons (dVar 2) dNil)))) dNext)
  (dRet (dIf (dTest (dOp (φEq false) (dVar 0) (dC (.int 3)))) (dMethX (q_ci q_run_deedN) Ex (dVar 1) (dCons (dVar 3) dNil)) (dMethX (q_ci q_repeat_deedN) Ex (dVar 1) (dCons (dVar 3) (dCons (dC (.int 2)) dNil)))))))
abbrev kx_law_hall : Nat := 0
def q_law_hall [Fns] : DSpX := fun args c Q E => ∃ (k : Int) (xs : List PyData) (a b : List Int) (p u : Int), args = [.sh (.int k), .gen (cirG (.tuple xs)), .sh (.int u), .sh (.list (dI (a ++ p :: b)))] ∧ 0 ≤ k ∧ k < 5 ∧ (∀ x ∈ a, In98 xs x) ∧ ¬ In98 xs p ∧ ¬ In98 xs u ∧ E (xPerN (if k < 3 then u else p)) c
theorem monx_law_hall [Fns] : MonX q_law_hall := fun args c A B C D h g ⟨k, xs, a, b, p, u, e, h1, h2, h3, h4, h5, q⟩ => ⟨k, xs, a, b, p, u, e, h1, h2, h3, h4, h5, g _ _ q⟩
theorem mx_law_hall [Fns] : ∀ args c Q Ex, q_law_hall args c Q Ex → defX kx_law_hall bx_law_hall args c Q Ex := by
  rintro _ c Q Ex ⟨k, xs, a, b, p, u, rfl, k0, k1, ha, hp, hu, q⟩
  show bx_law_hall _ _ ⟨[.sh (.int k), .gen (cirG (.tuple xs)), .sh (.int u), .sh (.list (dI (a ++ p :: b)))], c⟩
  unfold bx_law_hall
  rcases (by omega : k = 0 ∨ k = 1 ∨ k = 2 ∨ k = 3 ∨ k = 4) with rfl | rfl | rfl | rfl | rfl
  · refine sq_ ?_
    rfl'
    refine if_t rfl ?_
    exact ⟨⟨_, rfl⟩, rfl, _, _, rfl, xs, u, [], rfl, rfl, hu, q⟩
  · refine sq_ ?_
    rfl'
    refine if_f (by decide) ?_
    refine sq_ ?_
    rfl'
    refine if_t rfl ?_
    refine if_t rfl ?_
    exact ⟨⟨_, rfl⟩, rfl, _, _, rfl, xs, u, [], rfl, rfl, hu, q⟩
  · refine sq_ ?_
    rfl'
    refine if_f (by decide) ?_
    refine sq_ ?_
    rfl'
    refine if_t rfl ?_
    refine if_f (by decide) ?_
    exact ⟨⟨_, rfl⟩, rfl, _, _, rfl, xs, u, [], rfl, rfl, hu, q⟩
  · refine sq_ ?_
    rfl'
    refine if_f (by decide) ?_
    refine sq_ ?_
    rfl'
    refine if_f (by decide) ?_
    rfl'
    refine if_t rfl ?_
    exact ⟨⟨_, rfl⟩, rfl, _, _, rfl, xs, a, b, p, [], rfl, rfl, ha, hp, q⟩
  · refine sq_ ?_
    rfl'
    refine if_f (by decide) ?_
    refine sq_ ?_
    rfl'
    refine if_f (by decide) ?_
    rfl'
    refine if_f (by decide) ?_
    exact ⟨⟨_, rfl⟩, rfl, _, _, rfl, xs, a, b, p, 2, rfl, ha, hp, q⟩
/-- _law_refused: _law_kind, _law_door, _law_start, _law_thing, _law_row_here, _law_caught, error -/
def b_law_refused_9 [Fns] : DTS := (dSeq (dSetG false 5 (dC .none))
  (dSeq (dTry 6 5 ["IsRoot", "MissingRoot", "NoNumber", "NoPerson", "NoRoot", "OtherSize"] (fun Ex1 => (dIfS (dTest (dOp (φEq false) (dVar 0) (dC (.int 0)))) (dDrop (dCallX q_law_person Ex1 (dCons (dVar 1) (dCons (dVar 2) (dCons (dVar 3) dNil))))) (dIfS (dTest (dOp (φEq false) (dVar 0) (dC (.int 1)))) (dDrop (dCallX q_law_row Ex1 (dCons (dVar 1) (dCons (dVar 2) (dCons (dVar 4) dNil))))) (dDrop (dCallX q_law_hall Ex1 (dCons (dVar 1) (dCons (dVar 3) (dCons (dUn φNeg (dC (.int 7))) (dCons (dVar 4) dNil))))))))))
  (dSeq (dIfS (dOr (dNot (dTruth (dIsX ["NoPerson"] (dVar 5)))) (dTruth (dIsX ["IsRoot", "MissingRoot", "NoNumber", "NoRoot", "OtherSize"] (dVar 5)))) (dRet (dC .none)) dNext)
  (dRet (dIf (dTruth (dIsX ["LookupError"] (dVar 5))) (dAttr "person" (dVar 5)) (dC .none))))))
abbrev k_law_refused_9 : Nat := 2
def p_law_refused_9 [Fns] : DSp := fun args c Q =>
  (∃ (k : Int) (xs : List PyData) (p : Int) (d : PyData), args = [.sh (.int 0), .sh (.int k), .sh (.tuple xs), .sh (.int p), .sh d] ∧ 0 ≤ k ∧ k < 10 ∧ 1 ≤ xs.length ∧ xs.length ≤ 1000 ∧ ¬ In98 xs p ∧ Q (.sh (.int p)) c) ∨
  (∃ (k : Int) (xs : List PyData) (a b : List Int) (p : Int) (d : PyData), args = [.sh (.int 1), .sh (.int k), .sh (.tuple xs), .sh d, .sh (.list (dI (a ++ p :: b)))] ∧ 0 ≤ k ∧ k < 11 ∧ (∀ x ∈ a, In98 xs x) ∧ ¬ In98 xs p ∧ Q (.sh (.int p)) c) ∨
  (∃ (k : Int) (xs : List PyData) (a b : List Int) (p : Int) (d : PyData), args = [.sh (.int 2), .sh (.int k), .sh d, .gen (cirG (.tuple xs)), .sh (.list (dI (a ++ p :: b)))] ∧ 0 ≤ k ∧ k < 5 ∧ (∀ x ∈ a, In98 xs x) ∧ ¬ In98 xs p ∧ Q (.sh (.int (if k < 3 then -7 else p))) c)
theorem mon_law_refused_9 [Fns] : MonF p_law_refused_9 := fun args c A B h q => by
  rcases q with ⟨k, xs, p, d, e, h1, h2, h3, h4, h5, q⟩ | ⟨k, xs, a, b, p, d, e, h1, h2, h3, h4, q⟩ | ⟨k, xs, a, b, p, d, e, h1, h2, h3, h4, q⟩
  · exact .inl ⟨k, xs, p, d, e, h1, h2, h3, h4, h5, h _ _ q⟩
  · exact .inr (.inl ⟨k, xs, a, b, p, d, e, h1, h2, h3, h4, h _ _ q⟩)
  · exact .inr (.inr ⟨k, xs, a, b, p, d, e, h1, h2, h3, h4, h _ _ q⟩)
theorem m_law_refused_9 [Fns] : ∀ args c Q, p_law_refused_9 args c Q → defF k_law_refused_9 b_law_refused_9 args c Q := by
  have f1 : ([Str.ofString "NoPerson"].any (subX (Str.ofString "NoPerson"))) = true := by decide
  have f2 : ([Str.ofString "IsRoot", Str.ofString "MissingRoot", Str.ofString "NoNumber", Str.ofString "NoRoot", Str.ofString "OtherSize"].any (subX (Str.ofString "NoPerson"))) = false := by decide
  have f3 : ([Str.ofString "LookupError"].any (subX (Str.ofString "NoPerson"))) = true := by decide
  intro args c Q hp
  rcases hp with ⟨k, xs, p, d, rfl, h1, h2, h3, h4, h5, q⟩ | ⟨k, xs, a, b, p, d, rfl, h1, h2, h3, h4, q⟩ | ⟨k, xs, a, b, p, d, rfl, h1, h2, h3, h4, q⟩
  · show b_law_refused_9 _ ⟨[.sh (.int 0), .sh (.int k), .sh (.tuple xs), .sh (.int p), .sh d, .un, .un], c⟩
    unfold b_law_refused_9
    refine sq_ ?_
    rfl'
    refine sq_ ?_
    refine ⟨_, fun x ε' h => h, ?_⟩
    rfl'
    refine it_t rfl ?_
    refine ⟨rfl, k, xs, p, rfl, h1, h2, h3, h4, h5, rfl, by simp, ?_⟩
    refine sq_ ?_
    rfl'
    rw [f1, f2, f3]
    refine if_f (by decide) ?_
    refine if_f (by decide) ?_
    exact if_t rfl ⟨_, rfl, q⟩
  · show b_law_refused_9 _ ⟨[.sh (.int 1), .sh (.int k), .sh (.tuple xs), .sh d, .sh (.list (dI (a ++ p :: b))), .un, .un], c⟩
    unfold b_law_refused_9
    refine sq_ ?_
    rfl'
    refine sq_ ?_
    refine ⟨_, fun x ε' h => h, ?_⟩
    rfl'
    refine it_f (by decide) ?_
    refine it_t rfl ?_
    refine ⟨rfl, k, xs, a, b, p, rfl, h1, h2, h3, h4, rfl, by simp, ?_⟩
    refine sq_ ?_
    rfl'
    rw [f1, f2, f3]
    refine if_f (by decide) ?_
    refine if_f (by decide) ?_
    exact if_t rfl ⟨_, rfl, q⟩
  · show b_law_refused_9 _ ⟨[.sh (.int 2), .sh (.int k), .sh d, .gen (cirG (.tuple xs)), .sh (.list (dI (a ++ p :: b))), .un, .un], c⟩
    unfold b_law_refused_9
    refine sq_ ?_
    rfl'
    refine sq_ ?_
    refine ⟨_, fun x ε' h => h, ?_⟩
    rfl'
    refine it_f (by decide) ?_
    refine it_f (by decide) ?_
    refine ⟨rfl, k, xs, a, b, p, -7, rfl, h1, h2, h3, h4, (fun z => absurd z.1 (by decide)), rfl, by simp, ?_⟩
    refine sq_ ?_
    rfl'
    rw [f1, f2, f3]
    refine if_f (by decide) ?_
    refine if_f (by decide) ?_
    exact if_t rfl ⟨_, rfl, q⟩
theorem c_same98 {k : Nat} {a : PyData} {c : Nat} {Q : R → Nat → Prop} (h : dep k a = true) (q : Q (.sh (.bool true)) c) : p_law_same_3 k [.sh a, .sh a] c Q := ⟨a, a, rfl, rfl, h, q⟩
abbrev k98_in [Fns] : DTS := (dSeq (dSetG true 4 (dOp φAdd (dLc (dRng1 (dCons (dCall p_law_take (dCons (dVar 0) (dCons (dC (.int 4)) dNil))) dNil)) (dName 5) dYes (dCall p_law_take (dCons (dVar 0) (dCons (dVar 1) dNil))) [5]) (dLst (dCons (dVar 3) (dCons (dUn φNeg (dC (.int 77))) dNil)))))
  (dSeq (dAppend 4 (dCall p_law_take (dCons (dVar 0) (dCons (dVar 1) dNil))))
  (dSeq (dIfS (dNot (dTruth (dCall (p_law_same_3 3) (dCons (dLc (dRng1 (dCons (dC (.int 10)) dNil)) (dName 6) dYes (dCall p_law_refused_9 (dCons (dC (.int 0)) (dCons (dVar 6) (dCons (dVar 2) (dCons (dVar 3) (dCons (dLst dNil) dNil)))))) [6]) (dCons (dOp φMul (dLst (dCons (dVar 3) dNil)) (dC (.int 10))) dNil))))) (dRet (dC (.bool false))) dNext)
  (dSeq (dIfS (dNot (dTruth (dCall (p_law_same_3 3) (dCons (dLc (dRng1 (dCons (dC (.int 11)) dNil)) (dName 6) dYes (dCall p_law_refused_9 (dCons (dC (.int 1)) (dCons (dVar 6) (dCons (dVar 2) (dCons (dC (.int 0)) (dCons (dVar 4) dNil)))))) [6]) (dCons (dOp φMul (dLst (dCons (dVar 3) dNil)) (dC (.int 11))) dNil))))) (dRet (dC (.bool false))) dNext)
  (dSeq (dSetG false 7 (dMkCir (dVar 2)))
  (dSeq (dSetG false 8 (dLc (dRng1 (dCons (dC (.int 5)) dNil)) (dName 6) dYes (dCall p_law_refused_9 (dCons (dC (.int 2)) (dCons (dVar 6) (dCons (dVar 2) (dCons (dVar 7) (dCons (dVar 4) dNil)))))) [6]))
  (dIfS (dOr (dNot (dTruth (dCall (p_law_same_3 3) (dCons (dVar 8) (dCons (dOp φAdd (dOp φMul (dLst (dCons (dUn φNeg (dC (.int 7))) dNil)) (dC (.int 3))) (dOp φMul (dLst (dCons (dVar 3) dNil)) (dC (.int 2)))) dNil))))) (dOr (dTest (dOp (φEq true) (dMeth p_ci_state (dVar 7)) (dVar 2))) (dTest (dOp (φEq true) (dMeth p_ci_deeds (dVar 7)) (dC (.int 0)))))) (dRet (dC (.bool false))) dNext)))))))
theorem k98_turn [Fns] {ns : List Int} (hs : Stt ns) (h1 : 1 ≤ ns.length) (h8 : ns.length ≤ 8) {p : Int} (hp : ¬ In98 (dI ns) p) {Δ : DEnds} {c : Nat} {x4 x5 x6 x7 x8 : SV} (hc : c ≤ 800000000) (q : ∀ c' x4 x5 x6 x7 x8, c' ≤ c + 100 → Δ.nx ⟨[.bx, .sh (.int (ns.length : Int)), .sh (.tuple (dI ns)), .sh (.int p), x4, x5, x6, x7, x8], c'⟩) :
    k98_in Δ ⟨[.bx, .sh (.int (ns.length : Int)), .sh (.tuple (dI ns)), .sh (.int p), x4, x5, x6, x7, x8], c⟩ := by
  refine sq_ ?_
  rfl'
  refine c_take (by decide) (by decide) (by omega) fun r c1 r0 r1 hc1 => ?_
  rfl'
  refine ⟨⟨by omega, by omega⟩, ?_⟩
  rw [rg0]
  refine lc_draw (α := Nat) (β := Int) (N := 3) (fun i : Nat => PyData.int (i : Nat)) PyData.int (fun _ y => 0 ≤ y ∧ y < (ns.length : Int)) (List.range r.toNat) [] c1 (fun y hy m hm K hK => ?_) (by rw [List.length_range]; show 0 + _ ≤ _; omega) (fun ys m hys hm => ?_)
  · rw [List.length_range] at hm
    rfl'
    refine c_take (by omega) (by omega) (by omega) fun w c2 w0 w1 hc2 => ?_
    exact hK _ _ w rfl ⟨w0, w1⟩ hc2
  rw [List.length_range] at hm
  have hl := hys.len
  rw [List.length_range] at hl
  have ha : ∀ y ∈ ys, In98 (dI ns) y := fun y hy => by
    obtain ⟨_, _, h⟩ := hys.mem y hy
    exact ⟨h.1, by rw [dI_len]; exact h.2⟩
  rw [List.nil_append]
  rfl'
  refine ⟨(show _ + 2 ≤ 16777216 by rw [List.length_map]; omega), ?_⟩
  refine sq_ ?_
  rfl'
  refine c_take (by omega) (by omega) (by omega) fun z c3 z0 z1 hc3 => ?_
  rfl'
  refine ⟨(show _ < 16777216 by rw [List.length_append, List.length_map]; show _ + 2 < _; omega), ?_⟩
  have e : (List.map PyData.int ys ++ [PyData.int p, PyData.int (-77)]) ++ [PyData.int z] = dI (ys ++ p :: [-77, z]) := by unfold dI; simp
  rw [e]
  refine sq_ ?_
  rfl'
  refine ⟨⟨by decide, by decide⟩, ?_⟩
  have l1 : 1 ≤ (dI ns).length := by rw [dI_len]; exact h1
  have l2 : (dI ns).length ≤ 1000 := by rw [dI_len]; omega
  refine lc_all (α := Int) PyData.int (fun _ => PyData.int p) [0, 1, 2, 3, 4, 5, 6, 7, 8, 9] [] (fun k hk K hK => ?_) (by decide) ?_
  · rfl'
    have hk2 : 0 ≤ k ∧ k < 10 := (show ∀ k ∈ ([0, 1, 2, 3, 4, 5, 6, 7, 8, 9] : List Int), 0 ≤ k ∧ k < 10 by decide) k hk
    refine .inl ⟨k, dI ns, p, .list [], rfl, hk2.1, hk2.2, l1, l2, hp, ?_⟩
    exact hK _ _ rfl rfl
  rfl'
  refine ⟨⟨by decide, by decide, (show 1 * 10 ≤ 16777216 by decide)⟩, ?_⟩
  refine c_same98 (show dep 3 (.list [.int p, .int p, .int p, .int p, .int p, .int p, .int p, .int p, .int p, .int p]) = true from rfl) ?_
  rfl'
  refine if_f rfl ?_
  refine sq_ ?_
  rfl'
  refine ⟨⟨by decide, by decide⟩, ?_⟩
  refine lc_all (α := Int) PyData.int (fun _ => PyData.int p) [0, 1, 2, 3, 4, 5, 6, 7, 8, 9, 10] [] (fun k hk K hK => ?_) (by decide) ?_
  · rfl'
    have hk2 : 0 ≤ k ∧ k < 11 := (show ∀ k ∈ ([0, 1, 2, 3, 4, 5, 6, 7, 8, 9, 10] : List Int), 0 ≤ k ∧ k < 11 by decide) k hk
    refine .inr (.inl ⟨k, dI ns, ys, [-77, z], p, .int 0, rfl, hk2.1, hk2.2, ha, hp, ?_⟩)
    exact ⟨rfl, hK _ _ rfl rfl⟩
  rfl'
  refine ⟨⟨by decide, by decide, (show 1 * 11 ≤ 16777216 by decide)⟩, ?_⟩
  refine c_same98 (show dep 3 (.list [.int p, .int p, .int p, .int p, .int p, .int p, .int p, .int p, .int p, .int p, .int p]) = true from rfl) ?_
  rfl'
  refine if_f rfl ?_
  refine sq_ ?_
  rfl'
  refine sq_ ?_
  rfl'
  refine ⟨⟨by decide, by decide⟩, ?_⟩
  refine lc_all (α := Int) PyData.int (fun k => PyData.int (if k < 3 then -7 else p)) [0, 1, 2, 3, 4] [] (fun k hk K hK => ?_) (by decide) ?_
  · rfl'
    have hk2 : 0 ≤ k ∧ k < 5 := (show ∀ k ∈ ([0, 1, 2, 3, 4] : List Int), 0 ≤ k ∧ k < 5 by decide) k hk
    refine .inr (.inr ⟨k, dI ns, ys, [-77, z], p, _, rfl, hk2.1, hk2.2, ha, hp, ?_⟩)
    exact ⟨rfl, hK _ _ rfl rfl⟩
  rfl'
  refine ⟨by decide, ⟨by decide, by decide, (show 1 * 2 ≤ 16777216 by decide)⟩, (show 3 + 2 ≤ 16777216 by decide), ?_⟩
  show p_law_same_3 3 [.sh (.list [.int (-7), .int (-7), .int (-7), .int p, .int p]), .sh (.list [.int (-7), .int (-7), .int (-7), .int p, .int p])] _ _
  refine c_same98 (show dep 3 (.list [.int (-7), .int (-7), .int (-7), .int p, .int p]) = true from rfl) ?_
  rfl'
  refine if_f rfl ?_
  refine ⟨⟨_, rfl⟩, _, rfl, ?_⟩
  rfl'
  refine ⟨⟨shT _, shT _⟩, ?_⟩
  rw [eqvT]
  refine in_f rfl ?_
  refine ⟨⟨_, rfl⟩, _, rfl, ?_⟩
  rfl'
  exact q _ _ _ _ _ _ (by omega)
/-- _law_right: _law_source, _law_size, _law_start, _law_odd, _law_row_here, _law_turn, _law_door, _law_hall_here, _law_found -/
def b_k98_law_right [Fns] : DTS := (dSeq (dSetG false 1 (dOp φAdd (dC (.int 1)) (dCall p_law_take (dCons (dVar 0) (dCons (dC (.int 8)) dNil)))))
  (dSeq (dSetG false 2 (dCall p_law_random_state (dCons (dVar 0) (dCons (dVar 1) dNil))))
  (dSeq (dFor (dIter (dTup (dCons (dUn φNeg (dC (.int 1))) (dCons (dVar 1) (dCons (dOp φAdd (dVar 1) (dC (.int 5))) (dCons (dOp (φC CPow fun i j => i ^ j.toNat) (dC (.int 10)) (dC (.int 9))) (dCons (dOp (φI fun i j => i - j) (dC (.int 0)) (dVar 1)) dNil))))))) (dName 3) (dSeq (dSetG true 4 (dOp φAdd (dLc (dRng1 (dCons (dCall p_law_take (dCons (dVar 0) (dCons (dC (.int 4)) dNil))) dNil)) (dName 5) dYes (dCall p_law_take (dCons (dVar 0) (dCons (dVar 1) dNil))) [5]) (dLst (dCons (dVar 3) (dCons (dUn φNeg (dC (.int 77))) dNil)))))
  (dSeq (dAppend 4 (dCall p_law_take (dCons (dVar 0) (dCons (dVar 1) dNil))))
  (dSeq (dIfS (dNot (dTruth (dCall (p_law_same_3 3) (dCons (dLc (dRng1 (dCons (dC (.int 10)) dNil)) (dName 6) dYes (dCall p_law_refused_9 (dCons (dC (.int 0)) (dCons (dVar 6) (dCons (dVar 2) (dCons (dVar 3) (dCons (dLst dNil) dNil)))))) [6]) (dCons (dOp φMul (dLst (dCons (dVar 3) dNil)) (dC (.int 10))) dNil))))) (dRet (dC (.bool false))) dNext)
  (dSeq (dIfS (dNot (dTruth (dCall (p_law_same_3 3) (dCons (dLc (dRng1 (dCons (dC (.int 11)) dNil)) (dName 6) dYes (dCall p_law_refused_9 (dCons (dC (.int 1)) (dCons (dVar 6) (dCons (dVar 2) (dCons (dC (.int 0)) (dCons (dVar 4) dNil)))))) [6]) (dCons (dOp φMul (dLst (dCons (dVar 3) dNil)) (dC (.int 11))) dNil))))) (dRet (dC (.bool false))) dNext)
  (dSeq (dSetG false 7 (dMkCir (dVar 2)))
  (dSeq (dSetG false 8 (dLc (dRng1 (dCons (dC (.int 5)) dNil)) (dName 6) dYes (dCall p_law_refused_9 (dCons (dC (.int 2)) (dCons (dVar 6) (dCons (dVar 2) (dCons (dVar 7) (dCons (dVar 4) dNil)))))) [6]))
  (dIfS (dOr (dNot (dTruth (dCall (p_law_same_3 3) (dCons (dVar 8) (dCons (dOp φAdd (dOp φMul (dLst (dCons (dUn φNeg (dC (.int 7))) dNil)) (dC (.int 3))) (dOp φMul (dLst (dCons (dVar 3) dNil)) (dC (.int 2)))) dNil))))) (dOr (dTest (dOp (φEq true) (dMeth p_ci_state (dVar 7)) (dVar 2))) (dTest (dOp (φEq true) (dMeth p_ci_deeds (dVar 7)) (dC (.int 0)))))) (dRet (dC (.bool false))) dNext))))))))
  (dRet (dC (.bool true))))))
abbrev k_k98_law_right : Nat := 8
def p_k98_law_right : DSp := fun args c Q => args = [.bx] ∧ c ≤ 3000000 ∧ ∀ c', c' ≤ c + 1000000 → Q (.sh (.bool true)) c'
theorem k98_turns [Fns] {ns : List Int} (hs : Stt ns) (h1 : 1 ≤ ns.length) (h8 : ns.length ≤ 8) {Δ : DEnds} : ∀ (ps : List Int) (c : Nat) (x3 x4 x5 x6 x7 x8 : SV), (∀ p ∈ ps, ¬ In98 (dI ns) p) → c + 100 * ps.length ≤ 800000000 → (∀ c' x3 x4 x5 x6 x7 x8, c' ≤ c + 100 * ps.length → Δ.nx ⟨[.bx, .sh (.int (ns.length : Int)), .sh (.tuple (dI ns)), x3, x4, x5, x6, x7, x8], c'⟩) →
    forD (dName 3) k98_in Δ (dI ps) ⟨[.bx, .sh (.int (ns.length : Int)), .sh (.tuple (dI ns)), x3, x4, x5, x6, x7, x8], c⟩
  | [], c, x3, x4, x5, x6, x7, x8, _, _, q => q c _ _ _ _ _ _ (by omega)
  | p :: ps, c, x3, x4, x5, x6, x7, x8, hp, hc, q => by
    rw [List.length_cons] at hc q
    show forD _ _ _ (.int p :: dI ps) _
    refine for_cons ?_
    show k98_in _ ⟨[.bx, .sh (.int (ns.length : Int)), .sh (.tuple (dI ns)), .sh (.int p), x4, x5, x6, x7, x8], c⟩
    refine k98_turn hs h1 h8 (hp p List.mem_cons_self) (by omega) fun c' x4 x5 x6 x7 x8 hc' => ?_
    refine k98_turns hs h1 h8 ps c' _ _ _ _ _ _ (fun z hz => hp z (List.mem_cons_of_mem _ hz)) (by omega) fun c2 x3 x4 x5 x6 x7 x8 h2 => q c2 _ _ _ _ _ _ (by omega)
theorem m_k98_law_right [Fns] : ∀ args c Q, p_k98_law_right args c Q → defF k_k98_law_right b_k98_law_right args c Q := by
  rintro _ c Q ⟨rfl, hc, q⟩
  show b_k98_law_right _ ⟨[.bx, .un, .un, .un, .un, .un, .un, .un, .un], c⟩
  unfold b_k98_law_right
  refine sq_ ?_
  rfl'
  refine c_take (by decide) (by decide) (by omega) fun r c1 r0 r1 hc1 => ?_
  rfl'
  refine sq_ ?_
  rfl'
  refine ⟨_, rfl, by omega, by omega, by omega, fun ns c2 hs hl hc2 => ?_⟩
  rfl'
  refine sq_ ?_
  rfl'
  rw [← hl]
  have i0 : ∀ p : Int, (p < 0 ∨ (ns.length : Int) ≤ p) → ¬ In98 (dI ns) p := fun p h z => by
    have := z.2
    have h0 := z.1
    rw [dI_len] at this
    omega
  have pw : (10 : Int) ^ Int.toNat 9 = 1000000000 := by decide
  refine ⟨⟨by decide, by decide⟩, rfl, ?_⟩
  refine k98_turns hs (by omega) (by omega) [-1, (ns.length : Int), (ns.length : Int) + 5, 10 ^ Int.toNat 9, 0 - (ns.length : Int)] c2 _ _ _ _ _ _ (fun p hp => i0 p ?_) (show c2 + 100 * 5 ≤ _ by omega) fun c' x3 x4 x5 x6 x7 x8 hc' => ?_
  · rcases List.mem_cons.mp hp with rfl | hp
    · omega
    rcases List.mem_cons.mp hp with rfl | hp
    · omega
    rcases List.mem_cons.mp hp with rfl | hp
    · omega
    rcases List.mem_cons.mp hp with rfl | hp
    · rw [pw]; omega
    rcases List.mem_cons.mp hp with rfl | hp
    · omega
    · cases hp
  · have hc'' : c' ≤ c2 + 100 * 5 := hc'
    exact q c' (by omega)
end Lp

namespace Lp
open PySem PySem.Spec PyProof.Rows L2
local macro_rules | `(tactic| rfl') => `(tactic| try dsimp only [dVar_, gv_sh, gv_ow, gv_bx, gv_raw, gv_st, dC, dRaw, dOp, dUn, dTest, dTruth, dAnd, dOr, dNot, dYes, dIf, dAndV, dOrV, dNotV, dNotT, dChain, dNil, dCons, dTup, dLst, dats, dCB, dNoP, dPart, dSl, dNext, dBreak, dCont, dNever, dDrop, dRet, dRetN, dIfS, dSetG, dPar, dPar3, dAppend, dAppPop, dSetIx, dExt, dAug, dSet0, dSAdd, dSNotIn, dIter_, gi_l, gi_t, gi_b, dRng1, dRng2, dName, dGNil, dGCons, dGTup, dAsg, dFor, dWhile, dCall, dCallR, dArgs_, ga_f, ga_t, argsOf, dLc, wipeE, dListRg, dIndex, dSortSet, dSortSc, dEnum, dEnA, dZip, dIsi, dIsi2, isaT, φI, φB, φC, φNeg, add_i, add_l, add_t, mul_i, mul_l, φIx, sl_l, sl_t, eq_i, eq_s, eq_l, eq_t, eq_b, eq_n, φIsN, isN_n, isN_b, isN_i, isN_s, isN_l, isN_t, φLen, φList, φTuple, φAbs, φInt, φMax, φIsB, φIsNB, its_l, its_t, rd_sh, rd_nw, rd_br, rp_sh, rp_nw, rp_br, rp_bx, rp_raw, rp_sr, rr_sh, rr_nw, rr_br, ra_sh, ra_br, ra_bx, ra_raw, va_sh, va_nt, va_nf, va_raw, hb_n, hb_sh, hb_bx, hb_raw, hb_br, sh_n, sh_c, tr_n, tr_b, tr_i, tr_l, tr_t, ty_n, ty_b, ty_i, ty_s, ty_l, ty_t, if_ff, if_tt, Env.set, List.getElem?_cons_succ, List.getElem?_cons_zero, List.set_cons_succ, List.set_cons_zero, List.reverse_cons, List.reverse_nil, List.nil_append, List.cons_append, Option.bind_some, ite_true, ite_false])
/-- all but b stand as they stood -/
def Sb (b : Addr) (H H' : Hp) : Prop := ∀ a o, a ≠ b → H a = some o → H' a = some o
theorem Sb.refl (b : Addr) (H : Hp) : Sb b H H := fun _ _ _ h => h
theorem Sb.trans {b : Addr} {H H1 H2 : Hp} (x : Sb b H H1) (y : Sb b H1 H2) : Sb b H H2 := fun a o n h => y a o n (x a o n h)
theorem Sb.upd {b : Addr} {H H1 : Hp} {o : HO} (x : Sb b H H1) : Sb b H (upd H1 b o) := fun a u n h => by
  rw [upd_ne n]; exact x a u n h
theorem same_new {H : Hp} {p : Addr} {o : HO} (h : H p = none) : Same H (upd H p o) := fun a u e => by
  rw [upd_ne (ne_of_none e h)]; exact e
def spTake : Sp := fun vs H Q _ => ∃ (b : Addr) (span : Int) (c : Nat), vs = [.ref b, .int span] ∧ Box H b c ∧ c ≤ 1000000000 ∧ 1 ≤ span ∧ span ≤ 10000000 ∧
  ∀ H' (r : Int), Sb b H H' → Box H' b (c + 1) → 0 ≤ r → r < span → Q (.int r) H'
def spTakeW : Sp := fun vs H Q _ => ∃ (b : Addr) (span : Int) (c : Nat), vs = [.ref b, .int span] ∧ Box H b c ∧ c ≤ 900000000 ∧ 1 ≤ span ∧ span ≤ 10000000000000 ∧
  ∀ H' (r : Int), Sb b H H' → Box H' b (c + 2) → 0 ≤ r → r < span → Q (.int r) H'
def spTakeB : Sp := fun vs H Q _ => ∃ (b : Addr) (span : Int) (c : Nat), vs = [.ref b, .int span] ∧ Box H b c ∧ c ≤ 900000000 ∧ 10000000 < span ∧ span ≤ 10000000000000 ∧
  ∀ H' (r : Int), Sb b H H' → Box H' b (c + 2) → 0 ≤ r → r < span → Q (.int r) H'
theorem take_imp {vs : List V} {H : Hp} {Q : VK} {E : XK} (h : spD 2 p_law_take vs H Q E) : spTakeW vs H Q E := by
  obtain ⟨b, L, c, args, hl, cz, ar, span, rfl, h1, h2, h3, q⟩ := h
  cases ar with
  | cons a0 r0 =>
    cases r0 with
    | cons a1 r1 =>
      cases r1
      obtain ⟨a, rfl, rfl⟩ := a0
      cases a1
      obtain ⟨sl, hb⟩ := cz
      obtain ⟨nl, bx⟩ := hb a rfl
      refine ⟨a, span, c, rfl, bx, h3, h1, h2, fun H' r sb bx' r0 r1 => ?_⟩
      have keep : Same L H' := fun x o e => sb x o (fun z => by rw [z, nl] at e; cases e) (sl x o e)
      refine q r (c + 2) r0 r1 (by omega) (.int r) L H' ⟨keep, fun x e => by cases e; exact ⟨nl, bx'⟩⟩ ⟨Same.refl L, fun x o e n => sb x o (fun z => n (by rw [z])) e, fun x hx => ?_, fun x n _ => n⟩ (.int r)
      by_cases z : x = a
      · rw [z]; exact bx'.there
      · cases e : H x with
        | none => exact absurd e hx
        | some o => rw [sb x o z e]; exact fun z => nomatch z
def spBox (K : PySem.W.Frag) : Sp := fun vs H Q _ => ∃ (a : Addr) (k : Int) (ns : List Int), vs = [.ref a, .int k] ∧ SqL K H a (IL ns) ∧ 0 ≤ k ∧ k ≤ 62 ∧
  ∀ H' p, Same H H' → H p = none → Box H' p 0 → Q (.ref p) H'
def spLaw (K : PySem.W.Frag) : Sp := fun vs H Q _ => ∃ (a : Addr) (ns : List Int), vs = [.ref a] ∧ SqL K H a (IL ns) ∧ ns.length ≤ 63 ∧ ∀ H', Q (.bl true) H'
theorem fn_none {P : Program} {w : World} {K : PySem.W.Frag} {mg : Str → Option Value} {base : Heap} {k : Nat} {f : Addr} {fd : FuncData} {ps : List Str} {sp : Sp} (h : ∀ vs H Q E, ¬ sp vs H Q E) : FnOk P w K mg base CX0 k f fd ps sp :=
  ⟨fun vs H Q E z => absurd z (h vs H Q E), fun A outer s H args us vs Q E hr he hb hv z => absurd z (h vs H Q E)⟩
theorem fn_or {P : Program} {w : World} {K : PySem.W.Frag} {mg : Str → Option Value} {base : Heap} {k : Nat} {f : Addr} {fd : FuncData} {ps : List Str} {s1 s2 : Sp} (F1 : FnOk P w K mg base CX0 k f fd ps s1) (F2 : FnOk P w K mg base CX0 k f fd ps s2) : FnOk P w K mg base CX0 k f fd ps (fun vs H Q E => s1 vs H Q E ∨ s2 vs H Q E) :=
  ⟨fun vs H Q E h => h.elim (F1.len vs H Q E) (F2.len vs H Q E), fun A outer s H args us vs Q E hr he hb hv hs => hs.elim (F1.run A outer s H args us vs Q E hr he hb hv) (F2.run A outer s H args us vs Q E hr he hb hv)⟩
theorem spD_none {n : Nat} {F : DSp} (h : ∀ args c Q, ¬ F args c Q) : ∀ vs H Q E, ¬ spD n F vs H Q E := fun vs H Q E ⟨b, L, c, args, _, _, _, z⟩ => h _ _ _ z
theorem yes_ok {te : TE} {σ : L2.St} {H : Hp} {R : V → Hp → Prop} {S : Hp → Prop} (h : te σ H R) : tYes σ H fun b H3 => if b = true then te σ H3 R else S H3 :=
  iteT (B := S H) h
theorem rep_bl (n : Nat) : (List.replicate n true).map V.bl = List.replicate n (.bl true) := by rw [List.map_replicate]
theorem rep_app (n : Nat) (x : V) : List.replicate n x ++ [x] = List.replicate (n + 1) x := by
  rw [List.replicate_succ']
theorem rep_all (n : Nat) : (List.replicate n true).all id = true := by
  rw [List.all_replicate]; split <;> rfl
/-- a list stands where its object stands -/
theorem SqL.keep {K : PySem.W.Frag} {H H' : Hp} {a : Addr} {xs : List V} (h : SqL K H a xs) (k : ∀ o, H a = some o → H' a = some o) : SqL K H' a xs := by
  rcases h with h | h
  · refine .inl ?_
    rcases h with h | ⟨o, h⟩
    · exact .inl (k _ h)
    · exact .inr ⟨o, k _ h⟩
  · exact .inr h
theorem at_lt {ns : List Int} {i : Int} (h0 : 0 ≤ i) (h1 : i < (ns.length : Int)) : ∃ z, atI (IL ns) i = some (.int z) := by
  refine ⟨gt ns i, ?_⟩
  rw [atI_nat h0 (by rw [List.length_map]; exact h1), List.getElem?_map, gt_get h0 h1]; rfl
def Stay (K : PySem.W.Frag) (D a : Addr) (xs : List V) (H : Hp) : Prop := (∃ o, H a = some o ∧ a ≠ D ∧ ∀ H', H' a = some o → SqL K H' a xs) ∨ ∀ H', SqL K H' a xs
theorem Stay.of {K : PySem.W.Frag} {D a : Addr} {xs : List V} {H : Hp} {u : HO} (h : SqL K H a xs) (n : H D = none) : Stay K D a xs (upd H D u) := by
  rcases h with h | h
  · refine .inl ?_
    rcases h with h | ⟨o, h⟩
    · have z : a ≠ D := ne_of_none h n
      exact ⟨_, by rw [upd_ne z]; exact h, z, fun H' e => .inl (.inl e)⟩
    · have z : a ≠ D := ne_of_none h n
      exact ⟨_, by rw [upd_ne z]; exact h, z, fun H' e => .inl (.inr ⟨o, e⟩)⟩
  · exact .inr fun H' => .inr h
theorem Stay.step {K : PySem.W.Frag} {D a b : Addr} {xs : List V} {H H6 H7 : Hp} {u : HO} (h : Stay K D a xs H) (s : Same H H6) (n : H b = none) (sb : Sb b H6 H7) : Stay K D a xs (upd H7 D u) := by
  rcases h with ⟨o, e, z, h⟩ | h
  · exact .inl ⟨o, by rw [upd_ne z]; exact sb a o (ne_of_none e n) (s a o e), z, h⟩
  · exact .inr h
end Lp

namespace Lp
open PySem PySem.Spec PyProof.Rows L2
local macro_rules | `(tactic| rfl') => `(tactic| try dsimp only [dVar_, gv_sh, gv_ow, gv_bx, gv_raw, gv_st, dC, dRaw, dOp, dUn, dTest, dTruth, dAnd, dOr, dNot, dYes, dIf, dAndV, dOrV, dNotV, dNotT, dChain, dNil, dCons, dTup, dLst, dats, dCB, dNoP, dPart, dSl, dNext, dBreak, dCont, dNever, dDrop, dRet, dRetN, dIfS, dSetG, dPar, dPar3, dAppend, dAppPop, dSetIx, dExt, dAug, dSet0, dSAdd, dSNotIn, dIter_, gi_l, gi_t, gi_b, dRng1, dRng2, dName, dGNil, dGCons, dGTup, dAsg, dFor, dWhile, dCall, dCallR, dArgs_, ga_f, ga_t, argsOf, dLc, wipeE, dListRg, dIndex, dSortSet, dSortSc, dEnum, dEnA, dZip, dIsi, dIsi2, isaT, φI, φB, φC, φNeg, add_i, add_l, add_t, mul_i, mul_l, φIx, sl_l, sl_t, eq_i, eq_s, eq_l, eq_t, eq_b, eq_n, φIsN, isN_n, isN_b, isN_i, isN_s, isN_l, isN_t, φLen, φList, φTuple, φAbs, φInt, φMax, φIsB, φIsNB, its_l, its_t, rd_sh, rd_nw, rd_br, rp_sh, rp_nw, rp_br, rp_bx, rp_raw, rp_sr, rr_sh, rr_nw, rr_br, ra_sh, ra_br, ra_bx, ra_raw, va_sh, va_nt, va_nf, va_raw, hb_n, hb_sh, hb_bx, hb_raw, hb_br, sh_n, sh_c, tr_n, tr_b, tr_i, tr_l, tr_t, ty_n, ty_b, ty_i, ty_s, ty_l, ty_t, if_ff, if_tt, Env.set, List.getElem?_cons_succ, List.getElem?_cons_zero, List.set_cons_succ, List.set_cons_zero, List.reverse_cons, List.reverse_nil, List.nil_append, List.cons_append, Option.bind_some, ite_true, ite_false])
theorem IL_at {es : List Int} {i : Nat} {x : V} (h : (IL es)[i]? = some x) (hi : i < es.length) : x = .int es[i] := by
  rw [IL_get (List.getElem?_eq_getElem hi)] at h
  exact (Option.some.inj h).symm
theorem IL_set (ns : List Int) (i : Nat) (z : Int) : (IL ns).set i (.int z) = IL (ns.set i z) := by
  show (ns.map V.int).set i (V.int z) = (ns.set i z).map V.int
  rw [List.map_set]
theorem same_mut {H H' : Hp} {p : Addr} {o : HO} (s : Same H H') (h : H p = none) : Same H (upd H' p o) := fun a u e => by
  rw [upd_ne (ne_of_none e h)]; exact s a u e
theorem cut_IL (ns : List Int) (lo hi : Option Int) : cutV (IL ns) lo hi = IL ((ns.drop (HT.sIx ns.length 0 lo)).take (HT.sIx ns.length ns.length hi - HT.sIx ns.length 0 lo)) := by
  unfold cutV
  show ((ns.map V.int).drop (HT.sIx (ns.map V.int).length 0 lo)).take (HT.sIx (ns.map V.int).length (ns.map V.int).length hi - HT.sIx (ns.map V.int).length 0 lo) = List.map V.int _
  rw [List.length_map, List.map_take, List.map_drop]
def spCells (K : PySem.W.Frag) : Sp := fun vs H Q _ => ∃ (a : Addr) (m : Int) (ns : List Int), vs = [.ref a, .int m] ∧ SqL K H a (IL ns) ∧ 1 ≤ m ∧ m ≤ 60 ∧
  ∀ H' p (ms : List Int), Same H H' → H p = none → H' p = some (.lst (IL ms)) → 1 ≤ ms.length → (ms.length : Int) ≤ m → Q (.ref p) H'
/-- a call of what draws from a box alone and answers True, with a count -/
theorem right_do2 {F : DSp} {H : Hp} {b : Addr} {c N : Nat} {Q : VK} {E : XK} (bx : Box H b c) (h : ∀ Q : R → Nat → Prop, (∀ c', c' ≤ c + N → Q (.sh (.bool true)) c') → F [.bx] c Q) (q : ∀ H', Sb b H H' → Box H' b (c + N) → Q (.bl true) H') : spD 1 F [.ref b] H Q E := by
  refine ⟨some b, fun _ => none, c, [.bx], rfl, ⟨(fun _ _ h => nomatch h), fun a e => by cases e; exact ⟨rfl, bx⟩⟩, .cons ⟨b, rfl, rfl⟩ .nil, h _ fun c' hc v L' H' cz ex vr => ?_⟩
  cases vr
  exact q H' (fun a o n e => ex.hh a o e fun z => n (by cases z; rfl)) ((cz.2 b rfl).2.le hc)
theorem Box.ne {H : Hp} {b D : Addr} {c : Nat} (x : Box H b c) (n : H D = none) : b ≠ D := fun z => x.there (by rw [z]; exact n)
theorem Box.new {H : Hp} {b D : Addr} {c : Nat} {o : HO} (x : Box H b c) (n : H D = none) : Box (upd H D o) b c := x.keep (upd_ne (x.ne n))
theorem Box.put {H : Hp} {b D : Addr} {c : Nat} {o : HO} (x : Box H b c) (n : b ≠ D) : Box (upd H D o) b c := x.keep (upd_ne n)
theorem upd_keep {H : Hp} {a p : Addr} {o u : HO} (h : H a = some o) (n : H p = none) : (upd H p u) a = some o := by rw [upd_ne (ne_of_none h n)]; exact h
end Lp

namespace Lp
open PySem PySem.Spec PyProof.Rows L2
section
variable {X : Cx} {o e : Expr} {es : List Expr} {to te : TE} {ta : TA} {f : Str} {p p' p1 p2 pos : Pos} {B newId initId : String} {bm : List Value}
theorem pe_initLookupError {pl : Sem Bool} (hg : Gl X "LookupError") (hm : X.mg "LookupError" = none) (vV : PySem.W.findCls X.K (.type "LookupError") (.type "type") "__init__" = some (.val (.builtin "LookupError.__init__"))) (ha : PA X (e :: es) ta)
    (hc : eval (.Call (.Attribute (.Name "LookupError" p1) "__init__" p2) (e :: es) [] pos) X.env = (do
      let ov ← eval (.Name "LookupError" p1) X.env
      standAt p2.atName
      let (f, first) ← holding [ov] (getMethod ov "__init__" pl)
      callWith pos f first (backTo pos (starEach (e :: es) X.env)) (backToKw pos (keywordEach [] X.env))) := by rfl)
    (he : starEach (e :: es) X.env = (false, eval e X.env) :: starEach es X.env := by rfl) (hpl : (backTo pos (starEach es X.env)).any (·.1) = false := by rfl) :
    PE X (.Call (.Attribute (.Name "LookupError" p1) "__init__" p2) (e :: es) [] pos) (tInitB X.K "LookupError" newId "LookupError.__init__" bm ta) := by
  refine ⟨fun pins s σ H Q I h => ?_⟩
  refine PySem.W.methodCall_KW (ld_blt I hg hm PyProof.Rows.Boot.«LookupError» ?_ (by decide) (by decide)) hc
  obtain ⟨m, fr⟩ := I.fr
  refine PySem.W.method_type fr I.ok.mod.kin (show typeOf (.type "LookupError") = pure (.type "type") by kernel_rfl) (by decide +kernel) vV (by decide +kernel) ?_
  show wpAny _ _ (callWith pos (Value.builtin "LookupError.__init__") [] (backTo pos (starEach (e :: es) X.env)) []) _ _ _
  refine PyProof.Rows.callWith_method1 (thn (ha.run pos pins _ σ H _ (I.tok _) h) fun us s1 ⟨vs, H1, I1, r1, a, C, ws, ev, few, T, ea, q⟩ => ?_) he hpl
  subst ev
  cases r1 with
  | @cons _ u0 _ ur ra rw' =>
    obtain rfl : u0 = Value.ref a := ra
    exact init_B T I1 ea (by rw [← Paired.length rw', sizeLine_eq]; omega) fun s' J => ⟨.non, H1, J, rfl, q⟩
end
end Lp

namespace Lp
open PySem PySem.Spec PyProof.Rows L2
section
variable {X : Cx} {o e : Expr} {es : List Expr} {to te : TE} {ta : TA} {f : Str} {p p' p1 p2 pos : Pos} {B newId initId : String} {bm : List Value}
theorem pe_initValueError {pl : Sem Bool} (hg : Gl X "ValueError") (hm : X.mg "ValueError" = none) (vV : PySem.W.findCls X.K (.type "ValueError") (.type "type") "__init__" = some (.val (.builtin "ValueError.__init__"))) (ha : PA X (e :: es) ta)
    (hc : eval (.Call (.Attribute (.Name "ValueError" p1) "__init__" p2) (e :: es) [] pos) X.env = (do
      let ov ← eval (.Name "ValueError" p1) X.env
      standAt p2.atName
      let (f, first) ← holding [ov] (getMethod ov "__init__" pl)
      callWith pos f first (backTo pos (starEach (e :: es) X.env)) (backToKw pos (keywordEach [] X.env))) := by rfl)
    (he : starEach (e :: es) X.env = (false, eval e X.env) :: starEach es X.env := by rfl) (hpl : (backTo pos (starEach es X.env)).any (·.1) = false := by rfl) :
    PE X (.Call (.Attribute (.Name "ValueError" p1) "__init__" p2) (e :: es) [] pos) (tInitB X.K "ValueError" newId "ValueError.__init__" bm ta) := by
  refine ⟨fun pins s σ H Q I h => ?_⟩
  refine PySem.W.methodCall_KW (ld_blt I hg hm PyProof.Rows.Boot.«ValueError» ?_ (by decide) (by decide)) hc
  obtain ⟨m, fr⟩ := I.fr
  refine PySem.W.method_type fr I.ok.mod.kin (show typeOf (.type "ValueError") = pure (.type "type") by kernel_rfl) (by decide +kernel) vV (by decide +kernel) ?_
  show wpAny _ _ (callWith pos (Value.builtin "ValueError.__init__") [] (backTo pos (starEach (e :: es) X.env)) []) _ _ _
  refine PyProof.Rows.callWith_method1 (thn (ha.run pos pins _ σ H _ (I.tok _) h) fun us s1 ⟨vs, H1, I1, r1, a, C, ws, ev, few, T, ea, q⟩ => ?_) he hpl
  subst ev
  cases r1 with
  | @cons _ u0 _ ur ra rw' =>
    obtain rfl : u0 = Value.ref a := ra
    exact init_B T I1 ea (by rw [← Paired.length rw', sizeLine_eq]; omega) fun s' J => ⟨.non, H1, J, rfl, q⟩
end
end Lp

namespace Lp
open PySem PySem.Spec PyProof.Rows L2
section
variable {X : Cx}
variable {x : Str} {C fI : Addr} {k : Nat} {fd : FuncData} {sp : Sp} {p pos : Pos} {B newId initId : String} {bm : List Value} {CX : CXT}
end
theorem truK {X : Cx} {K : PySem.W.Frag} {a : Expr} {ta : TE} (h : X.K = K) (x : PT X a (fun σ H Q => ta σ H fun x H' => ∃ k, TruV X.K x H' k ∧ Q k H')) : PT X a (fun σ H Q => ta σ H fun x H' => ∃ k, TruV K x H' k ∧ Q k H') := h ▸ x
end Lp

namespace Lp
open PySem PySem.Spec PyProof.Rows L2
def topS (i : Nat) : Stmt := PySem.Challenge.pw_lookpast_k98_people_who_are_not_there.main.body.getD i (.Pass ⟨0, 0, 0, 0⟩)
section
variable [Fns]
variable {P : Program} {w : World} {K : PySem.W.Frag} {mg : Str → Option Value} {base : Heap}
abbrev sTake : Stmt := topS 78
theorem scTake : FnScope ["_law_source", "_law_bound", "_law_found", "_law_once", "_law_twice"] ["_law_source", "_law_bound"] (defScope sTake) := ⟨rfl, rfl, rfl, by decide +kernel, rfl, by decide +kernel, by decide +kernel⟩
theorem ok_take {f : Addr} {fd : FuncData} {k : Nat} (F : Fun K "_law_draw" "_law_draw" sTake f fd) : FnOk P w K mg base CX0 (k + 1) f fd ["_law_source", "_law_bound"] spTake := by
  refine F.ok scTake (fun vs H Q E h => ?_) (fun cdv A outer s H vs Q E hr h => ?_)
  · obtain ⟨b, span, c, rfl, _⟩ := h
    rfl
  · obtain ⟨b, span, c, rfl, ⟨x0, x1, x2, hb, h0, h1, h2, h3, h4⟩, hc, hs1, hs2, q⟩ := h
    refine ⟨_, pss_cons (ps_if (pt_cmpR op_gt (pe_ix ix_list (pv 0) pe_int (fun _ _ => rfl)) pe_int (nomark _))
        (pss_cons (ps_set (i := 2) scTake.nd rfl (.inl rfl) (pe_op op_mod (pe_ix ix_list (pv 0) pe_int (fun _ _ => rfl)) (pv 1)))
        (pss_cons (ps_asg (pe_op op_fdiv (pe_ix ix_list (pv 0) pe_int (fun _ _ => rfl)) (pv 1)) (pg_sub (pv 0) pe_int set_list))
        (pss_one (ps_ret (pv 2))))) pss_nil)
      (pss_cons (ps_if (pt_cmpR op_gt (pv 1) (pe_op op_pow pe_int pe_int) (nomark _)) pss_never pss_nil)
      (pss_cons (ps_asg (pe_op op_add (pe_ix ix_list (pv 0) pe_int (fun _ _ => rfl)) pe_int) (pg_sub (pv 0) pe_int set_list))
      (pss_cons (ps_set (i := 3) scTake.nd rfl (.inl rfl) (pe_op op_mod (pe_op op_mul (pe_op op_add (pe_ix ix_list (pv 0) pe_int (fun _ _ => rfl)) (pe_op op_mul pe_int (pe_ix ix_list (pv 0) pe_int (fun _ _ => rfl)))) (pe_op op_add pe_int (pe_ix ix_list (pv 0) pe_int (fun _ _ => rfl)))) pe_int))
      (pss_cons (ps_set (i := 4) scTake.nd rfl (.inl rfl) (pe_op op_mod (pe_op op_mul (pe_op op_add (pe_op op_add (pv 3) (pe_ix ix_list (pv 0) pe_int (fun _ _ => rfl))) (pe_op op_fdiv (pe_ix ix_list (pv 0) pe_int (fun _ _ => rfl)) pe_int)) (pe_op op_add (pe_op op_mod (pv 3) pe_int) pe_int)) pe_int))
      (pss_one (ps_ret (pe_op op_mod (pe_op op_fdiv (pe_op op_mod (pe_op op_add (pe_op op_mul (pv 4) pe_int) (pv 3)) pe_int) pe_int) (pv 1)))))))), ?_⟩
    have ix : SqL K H b [.int x0, .int x1, .int x2] := SqL.of hb
    refine ⟨.ref b, rfl, b, _, 0, .int x0, rfl, rfl, ix, rfl, x0, 0, rfl, rfl, _, rfl, ite2 (fun e => ?_) (fun e => ?_)⟩
    · have e0 : 0 < x0 := of_decide_eq_true e
      refine ⟨.ref b, rfl, b, _, 0, .int x0, rfl, rfl, ix, rfl, .int span, rfl, x0, span, rfl, rfl, (by show (0 : Int) < span; omega), ?_⟩
      refine ⟨.ref b, rfl, b, _, 0, .int x0, rfl, rfl, ix, rfl, .int span, rfl, x0, span, rfl, rfl, ⟨by omega, by omega⟩, ?_⟩
      refine ⟨.ref b, rfl, b, _, 0, 0, rfl, rfl, hb, rfl, ?_⟩
      refine ⟨.int (x0 % span), rfl, q _ _ (Sb.upd (Sb.refl b H)) ⟨x0 / span, x1, x2, upd_same, ?_, h1, h2, h3, by omega⟩ (Int.emod_nonneg _ (by omega)) (Int.emod_lt_of_pos _ (by omega))⟩
      exact Int.ediv_nonneg h0 (by omega)
    · refine ⟨.int span, rfl, 10, 7, rfl, rfl, ⟨by decide, by decide, by decide⟩, span, _, rfl, rfl, _, rfl, ?_⟩
      have e1 : ¬ ((10 : Int) ^ (7 : Int).toNat < span) := by
        show ¬ ((10000000 : Int) < span)
        omega
      rw [decide_eq_false e1]
      refine iteF ?_
      refine ⟨.ref b, rfl, b, _, 2, .int x2, rfl, rfl, ix, rfl, x2, 1, rfl, rfl, ?_⟩
      refine ⟨.ref b, rfl, b, _, 2, 2, rfl, rfl, hb, rfl, ?_⟩
      have ix2 : SqL K (upd H b (.lst [.int x0, .int x1, .int (x2 + 1)])) b [.int x0, .int x1, .int (x2 + 1)] := SqL.of upd_same
      refine ⟨.ref b, rfl, b, _, 1, .int x1, rfl, rfl, ix2, rfl, .ref b, rfl, b, _, 2, .int (x2 + 1), rfl, rfl, ix2, rfl, 48271, x2 + 1, rfl, rfl, .inl ⟨by decide, by decide⟩, x1, _, rfl, rfl, .ref b, rfl, b, _, 2, .int (x2 + 1), rfl, rfl, ix2, rfl, 39373, x2 + 1, rfl, rfl, _, _, rfl, rfl, .inr ⟨by omega, by omega⟩, _, 2147483647, rfl, rfl, (by show (0 : Int) < 2147483647; decide), ?_⟩
      dsimp only
      generalize hg : (x1 + 48271 * (x2 + 1)) * (39373 + (x2 + 1)) % 2147483647 = once
      have o1 : 0 ≤ once := by rw [← hg]; exact Int.emod_nonneg _ (by decide)
      have o2 : once < 2147483647 := by rw [← hg]; exact Int.emod_lt_of_pos _ (by decide)
      refine ⟨.int once, rfl, .ref b, rfl, b, _, 2, .int (x2 + 1), rfl, rfl, ix2, rfl, once, x2 + 1, rfl, rfl, .ref b, rfl, b, _, 1, .int x1, rfl, rfl, ix2, rfl, x1, 1000003, rfl, rfl, ⟨by decide, by decide⟩, _, _, rfl, rfl, .int once, rfl, once, 40009, rfl, rfl, (by show (0 : Int) < 40009; decide), _, 7, rfl, rfl, _, _, rfl, rfl, .inr ⟨by omega, by omega⟩, _, 2147483629, rfl, rfl, (by show (0 : Int) < 2147483629; decide), ?_⟩
      dsimp only
      generalize hg2 : (once + (x2 + 1) + x1 / 1000003) * (once % 40009 + 7) % 2147483629 = twice
      refine ⟨.int twice, rfl, twice, 48271, rfl, rfl, .inr ⟨by decide, by decide⟩, .int once, rfl, _, once, rfl, rfl, _, 2147483587, rfl, rfl, (by show (0 : Int) < 2147483587; decide), _, 64, rfl, rfl, ⟨by decide, by decide⟩, .int span, rfl, _, span, rfl, rfl, (by show (0 : Int) < span; omega), ?_⟩
      exact q _ _ (Sb.upd (Sb.refl b H)) ⟨x0, x1, x2 + 1, upd_same, h0, h1, h2, by omega, by omega⟩ (Int.emod_nonneg _ (by omega)) (Int.emod_lt_of_pos _ (by omega))
theorem ok_takeB {f : Addr} {fd : FuncData} {k : Nat} (F : Fun K "_law_draw" "_law_draw" sTake f fd) (T : Cal P w K mg base "_law_draw" (k + 1) ["_law_source", "_law_bound"] spTake f fd) : FnOk P w K mg base CX0 (k + 2) f fd ["_law_source", "_law_bound"] spTakeB := by
  refine F.ok scTake (fun vs H Q E h => ?_) (fun cdv A outer s H vs Q E hr h => ?_)
  · obtain ⟨b, span, c, rfl, _⟩ := h
    rfl
  · obtain ⟨b, span, c, rfl, hB, hc, hs1, hs2, q⟩ := h
    obtain ⟨x0, x1, x2, hb, h0, h1, h2, h3, h4⟩ := id hB
    refine ⟨_, pss_cons (ps_if (pt_cmpR op_gt (pe_ix ix_list (pv 0) pe_int (fun _ _ => rfl)) pe_int (nomark _))
        (pss_cons (ps_set (i := 2) scTake.nd rfl (.inl rfl) (pe_op op_mod (pe_ix ix_list (pv 0) pe_int (fun _ _ => rfl)) (pv 1)))
        (pss_cons (ps_asg (pe_op op_fdivW (pe_ix ix_list (pv 0) pe_int (fun _ _ => rfl)) (pv 1)) (pg_sub (pv 0) pe_int set_list))
        (pss_one (ps_ret (pv 2))))) pss_nil)
      (pss_cons (ps_if (pt_cmpR op_gt (pv 1) (pe_op op_pow pe_int pe_int) (nomark _))
        (pss_one (ps_ret (pe_op op_mod (pe_op op_add (pe_call T.ok hr (by rfl) T.g T.kp T.bd .nil pass0 (pa_cons (pv 0) (pa_cons (pe_op op_pow pe_int pe_int) pa_nil))) (pe_op op_mul (pe_op op_pow pe_int pe_int) (pe_call T.ok hr (by rfl) T.g T.kp T.bd .nil pass0 (pa_cons (pv 0) (pa_cons (pe_op op_add (pe_op op_fdiv (pe_op op_sub (pv 1) pe_int) (pe_op op_pow pe_int pe_int)) pe_int) pa_nil))))) (pv 1)))) pss_nil)
      pss_never), ?_⟩
    have ix : SqL K H b [.int x0, .int x1, .int x2] := SqL.of hb
    refine ⟨.ref b, rfl, b, _, 0, .int x0, rfl, rfl, ix, rfl, x0, 0, rfl, rfl, _, rfl, ite2 (fun e => ?_) (fun e => ?_)⟩
    · have e0 : 0 < x0 := of_decide_eq_true e
      refine ⟨.ref b, rfl, b, _, 0, .int x0, rfl, rfl, ix, rfl, .int span, rfl, x0, span, rfl, rfl, (by show (0 : Int) < span; omega), ?_⟩
      refine ⟨.ref b, rfl, b, _, 0, .int x0, rfl, rfl, ix, rfl, .int span, rfl, x0, span, rfl, rfl, wide_div (b := 64) (by omega) (by omega) (by decide) (by decide), ?_⟩
      refine ⟨.ref b, rfl, b, _, 0, 0, rfl, rfl, hb, rfl, ?_⟩
      refine ⟨.int (x0 % span), rfl, q _ _ (Sb.upd (Sb.refl b H)) ⟨x0 / span, x1, x2, upd_same, ?_, h1, h2, h3, by omega⟩ (Int.emod_nonneg _ (by omega)) (Int.emod_lt_of_pos _ (by omega))⟩
      exact Int.ediv_nonneg h0 (by omega)
    · have p7 : (10 : Int) ^ (7 : Int).toNat = 10000000 := by decide
      refine ⟨.int span, rfl, 10, 7, rfl, rfl, ⟨by decide, by decide, by decide⟩, span, _, rfl, rfl, _, rfl, ?_⟩
      have e1 : (10 : Int) ^ (7 : Int).toNat < span := by rw [p7]; omega
      rw [decide_eq_true e1]
      refine iteT ?_
      refine ⟨.ref b, rfl, 10, 7, rfl, rfl, ⟨by decide, by decide, by decide⟩, b, _, c, rfl, hB, by omega, by decide, by decide, fun H1 r1 sb1 hB1 r10 r11 => ?_⟩
      refine ⟨10, 7, rfl, rfl, ⟨by decide, by decide, by decide⟩, .ref b, rfl, .int span, rfl, span, 1, rfl, rfl, 10, 7, rfl, rfl, ⟨by decide, by decide, by decide⟩, _, _, rfl, rfl, ⟨by decide, by decide⟩, _, 1, rfl, rfl, b, _, c + 1, rfl, hB1, by omega, ?_, ?_, fun H2 r2 sb2 hB2 r20 r21 => ?_⟩
      · show 1 ≤ (span - 1) / (10 : Int) ^ (7 : Int).toNat + 1
        rw [p7]; omega
      · show (span - 1) / (10 : Int) ^ (7 : Int).toNat + 1 ≤ 10000000
        rw [p7]; omega
      · refine ⟨_, r2, rfl, rfl, .inl ⟨by decide, by decide⟩, r1, _, rfl, rfl, .int span, rfl, _, span, rfl, rfl, (by show (0 : Int) < span; omega), ?_⟩
        exact q H2 _ (sb1.trans sb2) (hB2.le (by omega)) (Int.emod_nonneg _ (by omega)) (Int.emod_lt_of_pos _ (by omega))
theorem ok_takeW {f : Addr} {fd : FuncData} {k : Nat} (F : Fun K "_law_draw" "_law_draw" sTake f fd) (T : Cal P w K mg base "_law_draw" (k + 1) ["_law_source", "_law_bound"] spTake f fd) : FnOk P w K mg base CX0 (k + 2) f fd ["_law_source", "_law_bound"] spTakeW :=
  FnOk.imp (fn_or (ok_take F) (ok_takeB F T)) fun vs H Q E h => by
    obtain ⟨b, span, c, rfl, hB, hc, h1, h2, q⟩ := h
    by_cases hs : span ≤ 10000000
    · exact .inl ⟨b, span, c, rfl, hB, by omega, h1, hs, fun H' r sb hB' => q H' r sb (hB'.le (by omega))⟩
    · exact .inr ⟨b, span, c, rfl, hB, hc, by omega, h2, q⟩
abbrev sBox : Stmt := topS 77
theorem scBox : FnScope ["_law_script", "_law_k", "_law_cell"] ["_law_script", "_law_k"] (defScope sBox) := ⟨rfl, rfl, rfl, by decide +kernel, rfl, by decide +kernel, by decide +kernel⟩
theorem ok_box {f : Addr} {fd : FuncData} {k : Nat} (F : Fun K "_law_stream" "_law_stream" sBox f fd) (B : Bi mg) : FnOk P w K mg base CX0 (k + 1) f fd ["_law_script", "_law_k"] (spBox K) := by
  refine F.ok scBox (fun vs H Q E h => ?_) (fun cdv A outer s H vs Q E hr h => ?_)
  · obtain ⟨a, k, ns, rfl, _⟩ := h
    rfl
  · obtain ⟨a, k, ns, rfl, hS, h0, h1, q⟩ := h
    refine ⟨_, pss_cons (ps_set (i := 2) scBox.nd rfl (.inl rfl) pe_int)
      (pss_cons (ps_if (pt_cmpR op_lt (pv 1) (pe_callB call_len_seq (by rfl) B.len PySem.boot_len (pa_cons (pv 0) pa_nil)) (nomark _)) (pss_one (ps_set (i := 2) scBox.nd rfl (.inl rfl) (pe_ix ix_list (pv 0) (pv 1) (fun _ _ => rfl)))) pss_nil)
      (pss_one (ps_ret (pe_lst (pa_cons (pe_op op_mul (pe_callB call_abs (by rfl) B.abs (by decide +kernel) (pa_cons (pv 2) pa_nil)) (pe_callTy call_int1 (by rfl) B.int (by decide +kernel) (pa_cons (pe_cmpR op_ge (pe_callB call_abs (by rfl) B.abs (by decide +kernel) (pa_cons (pv 2) pa_nil)) (pe_op op_pow pe_int pe_int) (nomark _)) pa_nil)))
        (pa_cons (pe_op op_add (pe_op op_add (pe_op op_mod (pv 2) pe_int) (pe_op op_mul pe_int (pv 1))) pe_int) (pa_cons pe_int pa_nil))))))), ?_⟩
    have fin : ∀ z : Int, tRet (tLst (tCons (tOp (rI CMul fun i j => .int (i * j)) (tCB (fun xs H Q => ∃ i, xs = [.int i] ∧ Q (.int (if i < 0 then -i else i)) H) (tCons (tVar 2) tNil)) (tCB (fun xs H Q => (∃ i, xs = [.int i] ∧ Q (.int i) H) ∨ ∃ k, xs = [.bl k] ∧ Q (.int (if k then 1 else 0)) H) (tCons (tOp (rI0 fun i j => .bl (decide (j ≤ i))) (tCB (fun xs H Q => ∃ i, xs = [.int i] ∧ Q (.int (if i < 0 then -i else i)) H) (tCons (tVar 2) tNil)) (tOp (rI CPow fun i j => .int (i ^ j.toNat)) (tC (.int 10)) (tC (.int 18)))) tNil)))
        (tCons (tOp (rI0 fun i j => .int (i + j)) (tOp (rI0 fun i j => .int (i + j)) (tOp (rI (fun _ j => 0 < j) fun i j => .int (i % j)) (tVar 2) (tC (.int 2305843009213693951))) (tOp (rI CMul fun i j => .int (i * j)) (tC (.int 39373)) (tVar 1))) (tC (.int 29))) (tCons (tC (.int 0)) tNil)))) { nx := fun _ H' => Q .non H', rt := Q } [some (.ref a), some (.int k), some (.int z)] H := by
      intro z
      refine ⟨.int z, rfl, z, rfl, .int z, rfl, z, rfl, 10, 18, rfl, rfl, ⟨by decide, by decide, by decide⟩, _, _, rfl, rfl, .inr ⟨_, rfl, _, _, rfl, rfl, .inr ?_, ?_⟩⟩
      · split <;> (split <;> exact ⟨by decide, by decide⟩)
      · refine ⟨.int z, rfl, z, _, rfl, rfl, (by show (0 : Int) < 2305843009213693951; decide), .int k, rfl, 39373, k, rfl, rfl, .inl ⟨by decide, by decide⟩, _, _, rfl, rfl, _, 29, rfl, rfl, (by show 3 ≤ sizeLine; decide), fun p hp => ?_⟩
        refine q _ p (same_new hp) hp ⟨_, _, _, upd_same, ?_, ?_, ?_, by decide, by decide⟩
        · have h1 : (0 : Int) ≤ (if z < 0 then -z else z) := by split <;> omega
          refine Int.mul_nonneg h1 ?_
          split <;> (split <;> decide)
        · have := Int.emod_nonneg z (show (2305843009213693951 : Int) ≠ 0 by decide)
          omega
        · have := Int.emod_lt_of_pos z (show (0 : Int) < 2305843009213693951 by decide)
          omega
    refine ⟨.int k, rfl, .ref a, rfl, a, _, rfl, .inl hS, k, _, rfl, rfl, _, rfl, ite2 (fun e => ?_) (fun e => ?_)⟩
    · have e1 : k < ((IL ns).length : Int) := of_decide_eq_true e
      rw [List.length_map] at e1
      obtain ⟨z, hz⟩ := at_lt h0 e1
      refine ⟨.ref a, rfl, .int k, rfl, a, _, k, .int z, rfl, rfl, hS, hz, ?_⟩
      exact fin z
    · exact fin 0
abbrev sCells : Stmt := topS 79
theorem scCells : FnScope ["_law_script", "_law_most", "_law_cells", "_law_k", "_law_cell"] ["_law_script", "_law_most"] (defScope sCells) := ⟨rfl, rfl, rfl, by decide +kernel, rfl, by decide +kernel, by decide +kernel⟩
theorem ok_cells {f : Addr} {fd : FuncData} {k : Nat} (F : Fun K "_law_folded" "_law_folded" sCells f fd) (B : Bi mg) : FnOk P w K mg base CX0 (k + 1) f fd ["_law_script", "_law_most"] (spCells K) := by
  refine F.ok scCells (fun vs H Q E h => ?_) (fun cdv A outer s H vs Q E hr h => ?_)
  · obtain ⟨a, m, ns, rfl, _⟩ := h
    rfl
  · obtain ⟨a, m, ns, rfl, hS, m1, m2, q⟩ := h
    refine ⟨_, pss_cons (ps_set (i := 2) scCells.nd rfl (.inl rfl) (pe_orT (pe_callTy call_list_of (by rfl) B.list (by decide +kernel) (pa_cons (pe_slice sl_list (pv 0) po_none (po_some (pv 1))) pa_nil)) (pe_one (pe_lst (pa_cons pe_int pa_nil)))))
      (pss_cons (ps_for PassesOwn.never rfl (pi_enum (by rfl) B.enumerate (pa_cons (pe_slice sl_list (pv 0) (po_some (pv 1)) (po_some pe_int)) pa_nil))
          (pg_tup rfl (pgs_cons (pg_name (i := 3) scCells.nd rfl (.inl rfl)) (pgs_cons (pg_name (i := 4) scCells.nd rfl (.inl rfl)) pgs_nil)))
        (pss_one (ps_asg (pe_op op_add (pe_ix ix_list (pv 2) (pe_op op_mod (pv 3) (pv 1)) (fun _ _ => rfl)) (pe_op op_mul (pv 4) (pe_op op_add (pv 3) pe_int))) (pg_sub (pv 2) (pe_op op_mod (pv 3) (pv 1)) set_list))))
      (pss_one (ps_ret (pv 2)))), ?_⟩
    refine ⟨.ref a, rfl, .int m, rfl, m, rfl, a, _, rfl, hS, fun c nc => ?_⟩
    rw [cut_IL]
    generalize hms : (ns.drop (HT.sIx ns.length 0 none)).take (HT.sIx ns.length ns.length (some m) - HT.sIx ns.length 0 none) = ms0
    have hl0 : ms0.length = min m.toNat ns.length := by
      rw [← hms, List.length_take, List.length_drop, HT.sIx_none, sIx_int _ _ _ (by omega)]
      omega
    have s1 := same_new (o := HO.lst (IL ms0)) nc
    refine ⟨c, _, rfl, .inl (SqL.of upd_same), fun o no => ?_⟩
    have s2 := s1.trans (same_new (o := HO.lst (IL ms0)) no)
    have n0 : H o = none := s1.free no
    have go : ∀ (ms1 : List Int) (o : Addr) (H2 : Hp), Same H H2 → H o = none → H2 o = some (.lst (IL ms1)) → 1 ≤ ms1.length → (ms1.length : Int) ≤ m → (m.toNat < ns.length → (ms1.length : Int) = m) →
        tSeq (tFor (iEnum K (tCons (tSl (rSlL K) (tVar 0) (tPart (tVar 1)) (tPart (tC (.int 63)))) tNil)) (gTup K 2 (gCons (gName 3) (gCons (gName 4) gNil))) (tAsg (tOp (rI0 fun i j => .int (i + j)) (tOp (rIxL K) (tVar 2) (tOp (rI (fun _ j => 0 < j) fun i j => .int (i % j)) (tVar 3) (tVar 1))) (tOp (rI CMul fun i j => .int (i * j)) (tVar 4) (tOp (rI0 fun i j => .int (i + j)) (tVar 3) (tC (.int 2))))) (gSub (tVar 2) (tOp (rI (fun _ j => 0 < j) fun i j => .int (i % j)) (tVar 3) (tVar 1)) rSetL))) (tRet (tVar 2))
          { nx := fun _ H' => Q .non H', rt := Q } [some (.ref a), some (.int m), some (.ref o), none, none] H2 := by
      intro ms1 o H2 s2 n0 ho2 l1 l2 l3
      refine ⟨.ref a, rfl, .int m, rfl, m, rfl, 63, rfl, a, _, rfl, s2.seq hS, fun e ne => ?_⟩
      rw [cut_IL]
      generalize hes : (ns.drop (HT.sIx ns.length 0 (some m))).take (HT.sIx ns.length ns.length (some 63) - HT.sIx ns.length 0 (some m)) = es
      have hle : 0 < es.length → m.toNat < ns.length := by
        rw [← hes, List.length_take, List.length_drop, sIx_int _ _ m (by omega), sIx_int _ _ 63 (by omega)]
        omega
      have nee : o ≠ e := ne_of_none ho2 ne
      have s3 := s2.trans (same_new (o := HO.lst (IL es)) ne)
      refine ⟨e, _, rfl, SqL.of upd_same, ?_⟩
      refine for_it (walk_enum (K := K) (a := e) (xs := IL es)) (fun _ σ H3 => ∃ y3 y4 ms, σ = [some (.ref a), some (.int m), some (.ref o), y3, y4] ∧ Same H H3 ∧ H3 e = some (.lst (IL es)) ∧ H3 o = some (.lst (IL ms)) ∧ ms.length = ms1.length) ?_ ?_ ?_ ?_
      · refine ⟨none, none, ms1, rfl, s3, upd_same, ?_, rfl⟩
        rw [upd_ne nee]; exact ho2
      · rintro i σ H3 _ ⟨y3, y4, ms, rfl, _, he, _⟩
        exact SqL.of he
      · rintro i x σ H3 H4 hi ⟨y3, y4, ms, rfl, sm, he, ho, hl⟩ ⟨T, x1, x2, rfl, nT, rfl, hx1, hx2⟩
        cases hx1
        have hi' : i < es.length := by rw [List.length_map] at hi; exact hi
        have hx2' : x2 = .int es[i] := IL_at hx2 hi'
        subst hx2'
        have hml : (ms.length : Int) = m := by have := l3 (hle (by omega)); omega
        have ho' : (upd H3 T (.tup [.int (i : Nat), .int es[i]])) o = some (.lst (IL ms)) := by rw [upd_ne (ne_of_none ho nT)]; exact ho
        have r0 : 0 ≤ (i : Int) % m := Int.emod_nonneg _ (by omega)
        have r1 : (i : Int) % m < (ms.length : Int) := by rw [hml]; exact Int.emod_lt_of_pos _ (by omega)
        obtain ⟨z, hz⟩ := at_lt r0 r1
        refine ⟨T, _, rfl, SqT.of upd_same, rfl, _, _, rfl, _, _, rfl, rfl, ?_⟩
        refine ⟨.ref o, rfl, .int i, rfl, .int m, rfl, i, m, rfl, rfl, (by show (0 : Int) < m; omega), o, _, _, .int z, rfl, rfl, SqL.of ho', hz, .int es[i], rfl, .int i, rfl, i, 2, rfl, rfl, es[i], _, rfl, rfl, .inr ⟨by omega, ?_⟩, z, _, rfl, rfl, ?_⟩
        · show (i : Int) + 2 < 2 ^ 64
          have : (es.length : Int) ≤ 63 := by
            have : es.length ≤ 63 := by rw [← hes, List.length_take, List.length_drop, sIx_int _ _ m (by omega), sIx_int _ _ 63 (by omega)]; omega
            omega
          omega
        · refine ⟨.ref o, rfl, .int i, rfl, .int m, rfl, i, m, rfl, rfl, (by show (0 : Int) < m; omega), o, _, _, ((i : Int) % m).toNat, rfl, rfl, ho', ?_, ?_⟩
          · rw [List.length_map]; exact ixN_ok r0 r1
          · rw [IL_set]
            refine ⟨_, _, _, rfl, ?_, ?_, upd_same, ?_⟩
            · exact same_mut (sm.trans (same_new nT)) n0
            · rw [upd_ne (Ne.symm nee), upd_ne (ne_of_none he nT)]; exact he
            · rw [List.length_set]; exact hl
      · rintro σ H3 ⟨y3, y4, ms, rfl, sm, he, ho, hl⟩
        exact ⟨.ref o, rfl, q _ o ms sm n0 ho (by omega) (by omega)⟩
    refine ⟨!(IL ms0).isEmpty, .inl ⟨_, SqL.of upd_same, rfl⟩, ?_⟩
    cases ms0 with
    | nil =>
      refine iteF ⟨by show 1 ≤ sizeLine; decide, fun p np => ?_⟩
      refine go [0] p _ (s2.trans (same_new np)) (s2.free np) upd_same (by decide) (by show (1 : Int) ≤ m; omega) (fun h => ?_)
      have : ([] : List Int).length = 0 := rfl
      omega
    | cons x r =>
      refine iteT (go (x :: r) o _ s2 n0 upd_same (by show 1 ≤ r.length + 1; omega) (by omega) (fun h => ?_))
      omega
abbrev s_kept : Stmt := topS 2
abbrev n_kept : List Str := ["value"]
theorem sc_kept : FnScope n_kept ["value"] (defScope s_kept) := ⟨rfl, rfl, rfl, by decide +kernel, rfl, by decide +kernel, by decide +kernel⟩
def spKept : Sp := fun vs H Q _ => ∃ v, vs = [v] ∧ okv H v ∧ Q v H
theorem okX_kept {f : Addr} {fd : FuncData} (F : Fun K "kept" "kept" s_kept f fd) (B : Bi mg) : FnOk P w K mg base CX0 1 f fd ["value"] spKept := by
  refine Fun.ok (k := 0) F sc_kept (fun vs H Q E h => ?_) (fun cdv A outer s H vs Q E hr h => ?_)
  · obtain ⟨v, rfl, _⟩ := h
    rfl
  · obtain ⟨v, rfl, ov, q⟩ := h
    refine ⟨_, (pss_one (ps_ret (pe_ifExp (pt_truth (pe_callB (isiK (K := K) rfl) (by rfl) B.isinstance (by decide +kernel) (pa_cons (pv 0) (pa_cons (pe_bltn (v := .ty "list") (by rfl) B.list (by decide +kernel) rfl) pa_nil))) (by intro _; rfl)) (pe_callTy (tupleK (K := K) rfl) (by rfl) B.tuple (by decide +kernel) (pa_cons (pv 0) pa_nil)) (pv 0)))), ?_⟩
    refine ⟨v, rfl, ?_⟩
    rcases ov with ⟨i, rfl⟩ | ⟨p, xs, rfl, o, _, e⟩
    · exact ⟨.int i, .ty "list", .type "int", .type "list", false, rfl, .ty "list", .inl (.base (.int i)), kit_ty (show kitB "int" "list" = some false by decide +kernel), false, rfl, ⟨.int i, rfl, q⟩⟩
    · exact ⟨.ref p, .ty "list", .type "tuple", .type "list", false, rfl, .ty "list", .inl (.fTuple e), kit_ty (show kitB "tuple" "list" = some false by decide +kernel), false, rfl, ⟨.ref p, rfl, q⟩⟩
abbrev s_init_NoPerson : Stmt := match topS 3 with
  | .ClassDef _ _ _ (b :: _) _ _ _ _ _ _ _ => b
  | _ => .Pass ⟨0, 0, 0, 0⟩
theorem sc_init_NoPerson : FnScope ["self", "person"] ["self", "person"] (defScope s_init_NoPerson) := ⟨rfl, rfl, rfl, by decide +kernel, rfl, by decide +kernel, by decide +kernel⟩
theorem ok_init_NoPerson {f C : Addr} {fd : FuncData} (F : Fun K "__init__" "NoPerson.__init__" s_init_NoPerson f fd) (B : Bi mg) (hR : mg "LookupError" = none) (vR : PySem.W.findCls K (.type "LookupError") (.type "type") "__init__" = some (.val (.builtin "LookupError.__init__")))
    (T : OexB K C "LookupError" "LookupError.__new__" "LookupError.__init__" bm_LookupError) (no : PySem.W.findIn K (.ref C) "person" = some none)  : FnOk P w K mg base CX0 1 f fd ["self", "person"] (spI K C "person") := by
  refine Fun.ok (k := 0) F sc_init_NoPerson (fun vs H Q E h => ?_) (fun cdv A outer s H vs Q E hr h => ?_)
  · obtain ⟨a, v, rfl, _⟩ := h
    rfl
  · obtain ⟨a, v, rfl, ea, ov, q⟩ := h
    refine ⟨_, pss_cons (ps_expr (pe_initLookupError (bm := bm_LookupError) (newId := "LookupError.__new__") (by rfl) hR vR (pa_cons (pv 0) (pa_cons pe_str pa_nil))))
      (pss_one (ps_storeB (B := "LookupError") (newId := "LookupError.__new__") (initId := "LookupError.__init__") (bm := bm_LookupError) (pv 0) (pv 1))), ?_⟩
    refine ⟨.ref a, rfl, a, C, [_], rfl, by simp, T, ea, ?_⟩
    refine ⟨v, rfl, ?_⟩
    exact ⟨.ref a, rfl, a, C, rfl, T, no, ea, fun dx n ne => q dx n ne⟩
abbrev s_init_OtherSize : Stmt := match topS 5 with
  | .ClassDef _ _ _ (b :: _) _ _ _ _ _ _ _ => b
  | _ => .Pass ⟨0, 0, 0, 0⟩
theorem sc_init_OtherSize : FnScope ["self", "size"] ["self", "size"] (defScope s_init_OtherSize) := ⟨rfl, rfl, rfl, by decide +kernel, rfl, by decide +kernel, by decide +kernel⟩
theorem ok_init_OtherSize {f C : Addr} {fd : FuncData} (F : Fun K "__init__" "OtherSize.__init__" s_init_OtherSize f fd) (B : Bi mg) (hR : mg "ValueError" = none) (vR : PySem.W.findCls K (.type "ValueError") (.type "type") "__init__" = some (.val (.builtin "ValueError.__init__")))
    (T : OexB K C "ValueError" "ValueError.__new__" "ValueError.__init__" bm_ValueError) (no : PySem.W.findIn K (.ref C) "size" = some none)  : FnOk P w K mg base CX0 1 f fd ["self", "size"] (spI K C "size") := by
  refine Fun.ok (k := 0) F sc_init_OtherSize (fun vs H Q E h => ?_) (fun cdv A outer s H vs Q E hr h => ?_)
  · obtain ⟨a, v, rfl, _⟩ := h
    rfl
  · obtain ⟨a, v, rfl, ea, ov, q⟩ := h
    refine ⟨_, pss_cons (ps_expr (pe_initValueError (bm := bm_ValueError) (newId := "ValueError.__new__") (by rfl) hR vR (pa_cons (pv 0) (pa_cons pe_str pa_nil))))
      (pss_one (ps_storeB (B := "ValueError") (newId := "ValueError.__new__") (initId := "ValueError.__init__") (bm := bm_ValueError) (pv 0) (pv 1))), ?_⟩
    refine ⟨.ref a, rfl, a, C, [_], rfl, by simp, T, ea, ?_⟩
    refine ⟨v, rfl, ?_⟩
    exact ⟨.ref a, rfl, a, C, rfl, T, no, ea, fun dx n ne => q dx n ne⟩
abbrev s_ci_init : Stmt := inClass (topS 65) 0
abbrev s_ci_act : Stmt := inClass (topS 65) 1
abbrev s_ci_call : Stmt := inClass (topS 65) 2
abbrev s_ci_run : Stmt := inClass (topS 65) 3
abbrev s_ci_repeat : Stmt := inClass (topS 65) 4
abbrev s_ci_come : Stmt := inClass (topS 65) 6
abbrev s_ci_leave : Stmt := inClass (topS 65) 7
abbrev s_ci_state : Stmt := inClass (topS 65) 11
abbrev s_ci_deeds : Stmt := inClass (topS 65) 12
theorem sc_ci_init : FnScope ["self", "state"] ["self", "state"] (defScope s_ci_init) := ⟨rfl, rfl, rfl, by decide +kernel, rfl, by decide +kernel, by decide +kernel⟩
theorem ok_ci_init {f C : Addr} {fd : FuncData} (F : Fun K "__init__" "Circle.__init__" s_ci_init f fd) (B : Bi mg) (T : CirT K C) : FnOk P w K mg base CX0 1 f fd ["self", "state"] (spCI C) := by
  refine Fun.ok (k := 0) F sc_ci_init (fun vs H Q E h => ?_) (fun cdv A outer s H vs Q E hr h => ?_)
  · obtain ⟨x, dx, p, xs, rfl, _⟩ := h
    rfl
  · obtain ⟨x, dx, p, xs, rfl, hx, hp, q⟩ := h
    refine ⟨_, pss_cons (ps_fld (pv 0) (pe_lst (pa_cons (pe_callTy (tupleK (K := K) rfl) (by rfl) B.tuple (by decide +kernel) (pa_cons (pv 1) pa_nil)) pa_nil)) rfl) (pss_one (ps_fld (pv 0) (pe_lst pa_nil) rfl)), ?_⟩
    refine ⟨.ref p, rfl, p, xs, rfl, .inr ⟨hp.seq, (by decide : 1 ≤ sizeLine), fun la nla => ?_⟩⟩
    have lx : x ≠ la := ne_of_none hx nla
    refine ⟨.ref x, rfl, x, C, dx, [], rfl, (by rw [upd_ne lx]; exact hx), T.cl, T.nA, (by show 0 < 1000; decide), Nat.zero_le _, fun le nle => ?_⟩
    have ex : x ≠ le := fun z => by rw [← z, upd_same] at nle; cases nle
    exact ⟨.ref x, rfl, x, C, dx, _, rfl, (by rw [upd_ne ex, upd_same]), T.cl, T.nE, (by show 1 < 1000; decide), q la nla le nle⟩
theorem sc_ci_state : FnScope ["self"] ["self"] (defScope s_ci_state) := ⟨rfl, rfl, rfl, by decide +kernel, rfl, by decide +kernel, by decide +kernel⟩
theorem ok_ci_state {f C : Addr} {fd : FuncData} (F : Fun K "state" "Circle.state" s_ci_state f fd) (T : CirT K C) (hC : FN "Circle" = .ref C) : FnOk P w K mg base CX0 1 f fd ["self"] (spD 1 p_ci_state) := by
  refine Fun.ok (k := 0) F sc_ci_state (fun vs H Q E h => ?_) (fun cdv A outer s H vs Q E hr h => ?_)
  · obtain ⟨_, _, _, _, h, _⟩ := h
    exact h
  · obtain ⟨b, L, c, args, hn, z, ar, d, rfl, q⟩ := h
    cases ar with
    | cons a1 ar =>
      cases ar
      obtain ⟨C', e, a, dx, la, le, x, rfl, h1, h2, h3, h4⟩ := a1
      rw [hC] at e
      cases e
      refine ⟨_, pss_one (ps_ret (pe_ix (ixK (K := K) rfl) (pe_fld (pv 0) rfl) (pe_un un_neg pe_int) (fun _ _ => rfl))), ?_⟩
      refine ⟨.ref a, rfl, a, C, dx, _, .ref la, rfl, z.1 _ _ h1, T.cl, T.nA, cf_al, 1, rfl, ?_⟩
      exact .inl ⟨la, [x], -1, x, rfl, rfl, SqL.of (z.1 _ _ h2), rfl, q x L H z (Ext.refl _ _ _) h3⟩
theorem sc_ci_deeds : FnScope ["self"] ["self"] (defScope s_ci_deeds) := ⟨rfl, rfl, rfl, by decide +kernel, rfl, by decide +kernel, by decide +kernel⟩
theorem ok_ci_deeds {f C : Addr} {fd : FuncData} (F : Fun K "deeds" "Circle.deeds" s_ci_deeds f fd) (B : Bi mg) (T : CirT K C) (hC : FN "Circle" = .ref C) : FnOk P w K mg base CX0 1 f fd ["self"] (spD 1 p_ci_deeds) := by
  refine Fun.ok (k := 0) F sc_ci_deeds (fun vs H Q E h => ?_) (fun cdv A outer s H vs Q E hr h => ?_)
  · obtain ⟨_, _, _, _, h, _⟩ := h
    exact h
  · obtain ⟨b, L, c, args, hn, z, ar, d, rfl, q⟩ := h
    cases ar with
    | cons a1 ar =>
      cases ar
      obtain ⟨C', e, a, dx, la, le, x, rfl, h1, h2, h3, h4⟩ := a1
      rw [hC] at e
      cases e
      refine ⟨_, pss_one (ps_ret (pe_op op_sub (pe_callB call_len_seq (by rfl) B.len PySem.boot_len (pa_cons (pe_fld (pv 0) rfl) pa_nil)) pe_int)), ?_⟩
      refine ⟨.ref a, rfl, a, C, dx, _, .ref la, rfl, z.1 _ _ h1, T.cl, T.nA, cf_al, la, [x], rfl, .inl (SqL.of (z.1 _ _ h2)), _, _, rfl, rfl, ?_⟩
      exact q (.int 0) L H z (Ext.refl _ _ _) (.int 0)
abbrev n_ci_act : List Str := ["self", "name", "arguments", "deed", "before", "after", "result"]
theorem sc_ci_act : FnScope n_ci_act ((["self", "name"] : List Str) ++ (["arguments"] : List Str)) (defScope s_ci_act) := ⟨rfl, rfl, rfl, by decide +kernel, rfl, by decide +kernel, by decide +kernel⟩
theorem ok_ci_act {f C D fs : Addr} {fd fds : FuncData} {cl : Str → Option Addr} {k : Nat} (F : Fun K "act" "Circle.act" s_ci_act f fd) (gD : mg "DEEDS" = some (.ref D)) (p_state : CirP P w K mg base C "state" p_ci_state fs fds) (hk : 1 ≤ k) (hC : FN "Circle" = .ref C) :
    FnR P w K mg base (L2.CX P w) (k + 1) f (spAct P w K mg base cl C D k) := by
  obtain ⟨oc, od, kV, doc, pm, an, cdv, ct, osl, rfl, lk, hcd⟩ := F.ex
  have T := p_state.T
  refine (StX.fn_star (k := k) (ps := ["self", "name"]) (pv := "arguments") (sp := spAct1 P w K mg base cl C D k) lk hcd sc_ci_act StX.cxUp (StX.bind_star2 (B := fun us => bindArgs (PySem.W.fnOf "act" "Circle.act" (defArgs s_ci_act) (defBody s_ci_act) (defScope s_ci_act) .none kV doc pm an cdv ct) ⟨us, []⟩) (p1 := "self") (p2 := "name") (pv := "arguments") (fun _ _ => rfl) (fun _ _ _ _ => rfl)) (fun A outer s H vs Q E hr h => ?_)).imp (fun vs H Q E h => act_imp h)
  obtain ⟨b, L, c, nm, n, G, d, v, p, rest, args, rfl, hp, ⟨f', fd', ps', kd, hn, ok, kp, bd⟩, hl, h5, z, cs, ar, mF, q⟩ := h
  obtain ⟨a, dx, la, le, x, rfl, h1, h2, h3, h4⟩ := cs
  refine ⟨_, pss_cons (ps_set (i := 3) sc_ci_act.nd rfl (by first | exact Or.inl rfl | exact Or.inr rfl) (pe_ix ix_kdict (pe_glob (v := .ref D) (by rfl) gD rfl) (pv 1) (fun _ _ => rfl)))
    (pss_cons (ps_set (i := 4) sc_ci_act.nd rfl (by first | exact Or.inl rfl | exact Or.inr rfl) (pe_meth0 (pv 0) T.cl p_state.mt p_state.ok (hr.mono hk) p_state.bd .nil pass0))
    (pss_cons (ps_asg (pe_deed (i := 3) rfl (by first | exact Or.inl rfl | exact Or.inr (Or.inl rfl) | exact Or.inr (Or.inr rfl)) (fun σ => passAt (takes_of rfl rfl rfl rfl) σ) (pa_cons (pv 4) (StX.pa_star (pv 2) pa_nil))) (pg_tup rfl (pgs_cons (pg_name (i := 5) sc_ci_act.nd rfl (by first | exact Or.inl rfl | exact Or.inr rfl)) (pgs_cons (pg_name (i := 6) sc_ci_act.nd rfl (by first | exact Or.inl rfl | exact Or.inr rfl)) pgs_nil))))
    pss_never)), ?_⟩
  refine ⟨.str nm, rfl, D, nm, .ref f', rfl, rfl, kd, ?_⟩
  refine ⟨.ref a, rfl, a, dx, _, rfl, z.1 _ _ h1, cf_no (by decide +kernel) (by decide +kernel), ?_⟩
  refine ⟨b, L, c, [.gen (cirG d)], rfl, z, .cons ⟨C, hC, a, dx, la, le, x, rfl, h1, h2, h3, h4⟩ .nil, d, rfl, fun v' L' H' z' e' r' => ?_⟩
  have hp' : H' p = some (.tup rest) := e'.hh _ _ hp (fun hb => by
    have := (z.2 p hb).2
    obtain ⟨_, _, _, e, _⟩ := this
    rw [hp] at e
    cases e)
  refine ⟨(f', spX cl n G), rfl, ⟨k, fd', ps', ok, hr, kp, bd⟩, v', rfl, .ref p, rfl, p, rest, rfl, .inl (SqT.of hp'), ?_⟩
  show spX cl n G (v' :: (rest ++ [])) H' _ _
  rw [List.append_nil]
  refine ⟨b, L', c, .sh d :: args, ?_, z', .cons r' (args_to e'.ll ar), mF _ _ _ _ _ _ (fun _ _ z => z.elim) (fun y c' q => ?_) q⟩
  · rw [List.length_cons]; exact hl
  · intro cls dd L2 H2 z2 e2 xr
    exact q cls dd L2 H2 z2 (e'.trans e2) xr
theorem sc_ci_call : FnScope ["self", "person"] ["self", "person"] (defScope s_ci_call) := ⟨rfl, rfl, rfl, by decide +kernel, rfl, by decide +kernel, by decide +kernel⟩
theorem ok_ci_call {f C D fA : Addr} {fd : FuncData} {cl : Str → Option Addr} {k : Nat} {G : DSpX} (F : Fun K "call" "Circle.call" s_ci_call f fd) (T : CirT K C) (ma : Meth K C "act" fA) (ac : FnR P w K mg base (L2.CX P w) (k + 1) fA (spAct P w K mg base cl C D k)) (dd : DeedAt P w K mg base cl D "call" 2 k G) (mG : MonX G) (hC : FN "Circle" = .ref C) :
    FnOk P w K mg base (L2.CX P w) (k + 2) f fd ["self", "person"] (spX cl 2 (q_ci G)) := by
  refine Fun.okX (k := k + 1) F sc_ci_call (fun vs H Q E h => spX_len h) (fun cdv A outer s H vs Q E hr h => ?_)
  obtain ⟨b, L, c, args, hn, z, ar, d, rest, rfl, q⟩ := h
  obtain ⟨v1, v2, rfl⟩ : ∃ v1 v2, vs = [v1, v2] := by
    match vs, hn with
    | [v1, v2], _ => exact ⟨v1, v2, rfl⟩
  obtain ⟨a1, ar⟩ := args_cons ar
  obtain ⟨x2, rest, rfl, a2, ar⟩ := args_cons2 ar
  cases ar
  obtain ⟨C', e, cs⟩ := a1
  rw [hC] at e
  cases e
  have cs' := cs
  obtain ⟨a, dx, la, le, x, rfl, h1, _⟩ := cs'
  refine ⟨_, pss_one (ps_ret (pe_methRX (pv 0) T.cl ma ac hr (fun σ => passAt (takes_of rfl rfl rfl rfl) σ) (pa_cons pe_str (pa_cons (pv 1) pa_nil)))), ?_⟩
  exact ⟨.ref a, rfl, a, dx, _, rfl, z.1 _ _ h1, cf_no (by decide +kernel) (by decide +kernel), v2, rfl, b, L, c, "call", 2, G, d, .ref a, [v2], _, rfl, dd, rfl, by simp, z, cs, .cons a2 .nil, mG, q⟩
theorem sc_ci_run : FnScope ["self", "word"] ["self", "word"] (defScope s_ci_run) := ⟨rfl, rfl, rfl, by decide +kernel, rfl, by decide +kernel, by decide +kernel⟩
theorem ok_ci_run {f C D fA : Addr} {fd : FuncData} {cl : Str → Option Addr} {k : Nat} {G : DSpX} (F : Fun K "run" "Circle.run" s_ci_run f fd) (T : CirT K C) (ma : Meth K C "act" fA) (ac : FnR P w K mg base (L2.CX P w) (k + 1) fA (spAct P w K mg base cl C D k)) (dd : DeedAt P w K mg base cl D "run" 2 k G) (mG : MonX G) (hC : FN "Circle" = .ref C) :
    FnOk P w K mg base (L2.CX P w) (k + 2) f fd ["self", "word"] (spX cl 2 (q_ci G)) := by
  refine Fun.okX (k := k + 1) F sc_ci_run (fun vs H Q E h => spX_len h) (fun cdv A outer s H vs Q E hr h => ?_)
  obtain ⟨b, L, c, args, hn, z, ar, d, rest, rfl, q⟩ := h
  obtain ⟨v1, v2, rfl⟩ : ∃ v1 v2, vs = [v1, v2] := by
    match vs, hn with
    | [v1, v2], _ => exact ⟨v1, v2, rfl⟩
  obtain ⟨a1, ar⟩ := args_cons ar
  obtain ⟨x2, rest, rfl, a2, ar⟩ := args_cons2 ar
  cases ar
  obtain ⟨C', e, cs⟩ := a1
  rw [hC] at e
  cases e
  have cs' := cs
  obtain ⟨a, dx, la, le, x, rfl, h1, _⟩ := cs'
  refine ⟨_, pss_one (ps_ret (pe_methRX (pv 0) T.cl ma ac hr (fun σ => passAt (takes_of rfl rfl rfl rfl) σ) (pa_cons pe_str (pa_cons (pv 1) pa_nil)))), ?_⟩
  exact ⟨.ref a, rfl, a, dx, _, rfl, z.1 _ _ h1, cf_no (by decide +kernel) (by decide +kernel), v2, rfl, b, L, c, "run", 2, G, d, .ref a, [v2], _, rfl, dd, rfl, by simp, z, cs, .cons a2 .nil, mG, q⟩
theorem sc_ci_repeat : FnScope ["self", "word", "many"] ["self", "word", "many"] (defScope s_ci_repeat) := ⟨rfl, rfl, rfl, by decide +kernel, rfl, by decide +kernel, by decide +kernel⟩
theorem ok_ci_repeat {f C D fA : Addr} {fd : FuncData} {cl : Str → Option Addr} {k : Nat} {G : DSpX} (F : Fun K "repeat" "Circle.repeat" s_ci_repeat f fd) (T : CirT K C) (ma : Meth K C "act" fA) (ac : FnR P w K mg base (L2.CX P w) (k + 1) fA (spAct P w K mg base cl C D k)) (dd : DeedAt P w K mg base cl D "repeat" 3 k G) (mG : MonX G) (hC : FN "Circle" = .ref C) :
    FnOk P w K mg base (L2.CX P w) (k + 2) f fd ["self", "word", "many"] (spX cl 3 (q_ci G)) := by
  refine Fun.okX (k := k + 1) F sc_ci_repeat (fun vs H Q E h => spX_len h) (fun cdv A outer s H vs Q E hr h => ?_)
  obtain ⟨b, L, c, args, hn, z, ar, d, rest, rfl, q⟩ := h
  obtain ⟨v1, v2, v3, rfl⟩ : ∃ v1 v2 v3, vs = [v1, v2, v3] := by
    match vs, hn with
    | [v1, v2, v3], _ => exact ⟨v1, v2, v3, rfl⟩
  obtain ⟨a1, ar⟩ := args_cons ar
  obtain ⟨x2, rest, rfl, a2, ar⟩ := args_cons2 ar
  obtain ⟨x3, rest, rfl, a3, ar⟩ := args_cons2 ar
  cases ar
  obtain ⟨C', e, cs⟩ := a1
  rw [hC] at e
  cases e
  have cs' := cs
  obtain ⟨a, dx, la, le, x, rfl, h1, _⟩ := cs'
  refine ⟨_, pss_one (ps_ret (pe_methRX (pv 0) T.cl ma ac hr (fun σ => passAt (takes_of rfl rfl rfl rfl) σ) (pa_cons pe_str (pa_cons (pv 1) (pa_cons (pv 2) pa_nil))))), ?_⟩
  exact ⟨.ref a, rfl, a, dx, _, rfl, z.1 _ _ h1, cf_no (by decide +kernel) (by decide +kernel), v2, rfl, v3, rfl, b, L, c, "repeat", 3, G, d, .ref a, [v2, v3], _, rfl, dd, rfl, by simp, z, cs, .cons a2 (.cons a3 .nil), mG, q⟩
theorem sc_ci_come : FnScope ["self", "target"] ["self", "target"] (defScope s_ci_come) := ⟨rfl, rfl, rfl, by decide +kernel, rfl, by decide +kernel, by decide +kernel⟩
theorem ok_ci_come {f C D fA : Addr} {fd : FuncData} {cl : Str → Option Addr} {k : Nat} {G : DSpX} (F : FunDX K "come" "Circle.come" s_ci_come [.non] f fd) (T : CirT K C) (ma : Meth K C "act" fA) (ac : FnR P w K mg base (L2.CX P w) (k + 1) fA (spAct P w K mg base cl C D k)) (dd : DeedAt P w K mg base cl D "come" 2 k G) (mG : MonX G) (hC : FN "Circle" = .ref C) :
    FnOk P w K mg base (L2.CX P w) (k + 2) f fd ["self", "target"] (spX cl 2 (q_ci G)) := by
  refine FunD.ok (CX := L2.CX P w) (k := k + 1) F sc_ci_come (fun vs H Q E h => spX_len h) (fun cdv A outer s H vs Q E hr h => ?_)
  obtain ⟨b, L, c, args, hn, z, ar, d, rest, rfl, q⟩ := h
  obtain ⟨v1, v2, rfl⟩ : ∃ v1 v2, vs = [v1, v2] := by
    match vs, hn with
    | [v1, v2], _ => exact ⟨v1, v2, rfl⟩
  obtain ⟨a1, ar⟩ := args_cons ar
  obtain ⟨x2, rest, rfl, a2, ar⟩ := args_cons2 ar
  cases ar
  obtain ⟨C', e, cs⟩ := a1
  rw [hC] at e
  cases e
  have cs' := cs
  obtain ⟨a, dx, la, le, x, rfl, h1, _⟩ := cs'
  refine ⟨_, pss_one (ps_ret (pe_methRX (pv 0) T.cl ma ac hr (fun σ => passAt (takes_of rfl rfl rfl rfl) σ) (pa_cons pe_str (pa_cons (pv 1) pa_nil)))), ?_⟩
  exact ⟨.ref a, rfl, a, dx, _, rfl, z.1 _ _ h1, cf_no (by decide +kernel) (by decide +kernel), v2, rfl, b, L, c, "come", 2, G, d, .ref a, [v2], _, rfl, dd, rfl, by simp, z, cs, .cons a2 .nil, mG, q⟩
theorem sc_ci_leave : FnScope ["self", "person"] ["self", "person"] (defScope s_ci_leave) := ⟨rfl, rfl, rfl, by decide +kernel, rfl, by decide +kernel, by decide +kernel⟩
theorem ok_ci_leave {f C D fA : Addr} {fd : FuncData} {cl : Str → Option Addr} {k : Nat} {G : DSpX} (F : Fun K "leave" "Circle.leave" s_ci_leave f fd) (T : CirT K C) (ma : Meth K C "act" fA) (ac : FnR P w K mg base (L2.CX P w) (k + 1) fA (spAct P w K mg base cl C D k)) (dd : DeedAt P w K mg base cl D "leave" 2 k G) (mG : MonX G) (hC : FN "Circle" = .ref C) :
    FnOk P w K mg base (L2.CX P w) (k + 2) f fd ["self", "person"] (spX cl 2 (q_ci G)) := by
  refine Fun.okX (k := k + 1) F sc_ci_leave (fun vs H Q E h => spX_len h) (fun cdv A outer s H vs Q E hr h => ?_)
  obtain ⟨b, L, c, args, hn, z, ar, d, rest, rfl, q⟩ := h
  obtain ⟨v1, v2, rfl⟩ : ∃ v1 v2, vs = [v1, v2] := by
    match vs, hn with
    | [v1, v2], _ => exact ⟨v1, v2, rfl⟩
  obtain ⟨a1, ar⟩ := args_cons ar
  obtain ⟨x2, rest, rfl, a2, ar⟩ := args_cons2 ar
  cases ar
  obtain ⟨C', e, cs⟩ := a1
  rw [hC] at e
  cases e
  have cs' := cs
  obtain ⟨a, dx, la, le, x, rfl, h1, _⟩ := cs'
  refine ⟨_, pss_one (ps_ret (pe_methRX (pv 0) T.cl ma ac hr (fun σ => passAt (takes_of rfl rfl rfl rfl) σ) (pa_cons pe_str (pa_cons (pv 1) pa_nil)))), ?_⟩
  exact ⟨.ref a, rfl, a, dx, _, rfl, z.1 _ _ h1, cf_no (by decide +kernel) (by decide +kernel), v2, rfl, b, L, c, "leave", 2, G, d, .ref a, [v2], _, rfl, dd, rfl, by simp, z, cs, .cons a2 .nil, mG, q⟩
abbrev s_height : Stmt := topS 21
abbrev n_height : List Str := ["state", "person"]
theorem sc_height : FnScope n_height ["state", "person"] (defScope s_height) := ⟨rfl, rfl, rfl, by decide +kernel, rfl, by decide +kernel, by decide +kernel⟩
theorem ok_height {f : Addr} {fd : FuncData} (F : Fun K "height" "height" s_height f fd) (B : Bi mg)     : FnOk P w K mg base CX0 1 f fd ["state", "person"] (spD 2 p_heightN) := by
  refine okD (k := 0) F sc_height rfl (fun cdv A outer s H E hr => ?_) m_heightN
  exact ⟨_, pss_never,
    ss_never⟩
abbrev s_is_settled : Stmt := topS 44
abbrev n_is_settled : List Str := ["state", "word", "person"]
theorem sc_is_settled : FnScope n_is_settled ["state", "word"] (defScope s_is_settled) := ⟨rfl, rfl, rfl, by decide +kernel, rfl, by decide +kernel, by decide +kernel⟩
theorem ok_is_settled {f : Addr} {fd : FuncData} (F : Fun K "is_settled" "is_settled" s_is_settled f fd) (B : Bi mg) {f_height : Addr} {e_height : FuncData} (c_height : Cal P w K mg base "height" 1 ["state", "person"] (spD 2 p_heightN) f_height e_height)    : FnOk P w K mg base CX0 2 f fd ["state", "word"] (spD 2 p_is_settledN) := by
  refine okD (k := 1) F sc_is_settled rfl (fun cdv A outer s H E hr => ?_) m_is_settledN
  exact ⟨_, (pss_one (ps_ret (pe_callB (allK (K := K) rfl rfl) (by rfl) B.all (by decide +kernel) (pa_cons (pe_lc (own := [("person", 2)]) (by rfl) sc_is_settled.nd (seqK (K := K) rfl (pe_callB (sortSetK (w := w) rfl rfl) (by rfl) B.sorted (by decide +kernel) (pa_cons (pe_callTy (setIAK (K := K) (w := w) rfl rfl rfl) (by rfl) B.set (by decide +kernel) (pa_cons (pv 1) pa_nil)) pa_nil))) (blkOk_by (own := [("person", 2)]) (N := n_is_settled) (sc := (defScope s_is_settled)) (by decide +kernel)) (fun _ _ _ _ _ => (pg_name (i := 2) sc_is_settled.nd rfl (by first | exact Or.inl rfl | exact Or.inr rfl))) (fun _ _ _ _ _ => pts_nil) (fun _ _ _ _ _ => (pe_or (pe_cmpR (eqK (K := K) rfl hr.units) (pe_ix (ixK (K := K) rfl) (pv 0) (pv 2) (fun _ _ => rfl)) (pv 2) (nomark _)) (pe_one (pe_cmpR (eqK (K := K) rfl hr.units) (pe_call c_height.ok (hr.mono (by decide)) (by rfl) c_height.g c_height.kp c_height.bd .nil pass0 (pa_cons (pv 0) (pa_cons (pv 2) pa_nil))) pe_int (nomark _)))))) pa_nil)))),
    (ss_ret (se_cb rc_all (sa_cons (se_lc (si_seq (se_sortSetA se_var)) sg_name st_yes (se_orV (se_op r2_eq (se_op r2_ix se_var se_var) se_var) (se_op r2_eq (se_call mon_heightN (sa_cons se_var (sa_cons se_var sa_nil))) se_int))) sa_nil)))⟩
abbrev s_law_same : Stmt := topS 80
abbrev n_law_same : List Str := ["_law_found", "_law_due", "_law_mine", "_law_its"]
theorem sc_law_same : FnScope n_law_same ["_law_found", "_law_due"] (defScope s_law_same) := ⟨rfl, rfl, rfl, by decide +kernel, rfl, by decide +kernel, by decide +kernel⟩
theorem ok_law_same {f : Addr} {fd : FuncData} (F : Fun K "_law_same" "_law_same" s_law_same f fd) (B : Bi mg) (g : mg "_law_same" = some (.ref f)) (bd : Binds K fd ["_law_found", "_law_due"] []) : ∀ d, FnOk P w K mg base CX0 (d + 1) f fd ["_law_found", "_law_due"] (spD 2 (p_law_same_3 d))
  | 0 => fn_none (spD_none fun args c Q ⟨a, b, _, _, h, _⟩ => by unfold dep at h; cases h)
  | d + 1 => by
    have c_law_same : Cal P w K mg base "_law_same" (d + 1) ["_law_found", "_law_due"] (spD 2 (p_law_same_3 d)) f fd := ⟨ok_law_same F B g bd d, g, F.kp, bd⟩
    refine okD (k := d + 1) F sc_law_same rfl (fun cdv A outer s H E hr => ?_) m_law_same_3
    exact ⟨_, (pss_cons (ps_if (pt_truth (pe_callB (isiTK (K := K) rfl) (by rfl) B.isinstance (by decide +kernel) (pa_cons (pv 1) (pa_cons (pe_tup (pa_cons (pe_bltn (v := .ty "list") (by rfl) B.list (by decide +kernel) rfl) (pa_cons (pe_bltn (v := .ty "tuple") (by rfl) B.tuple (by decide +kernel) rfl) pa_nil))) pa_nil))) (by intro _; rfl)) (pss_cons (ps_if (PW.pt (pw_or (pt_cmpR (neK (K := K) rfl hr.units) (pe_callB (isiK (K := K) rfl) (by rfl) B.isinstance (by decide +kernel) (pa_cons (pv 0) (pa_cons (pe_bltn (v := .ty "list") (by rfl) B.list (by decide +kernel) rfl) pa_nil))) (pe_callB (isiK (K := K) rfl) (by rfl) B.isinstance (by decide +kernel) (pa_cons (pv 1) (pa_cons (pe_bltn (v := .ty "list") (by rfl) B.list (by decide +kernel) rfl) pa_nil))) (nomark _)) (pw_or1 (pt_cmpR (neK (K := K) rfl hr.units) (pe_callB (isiK (K := K) rfl) (by rfl) B.isinstance (by decide +kernel) (pa_cons (pv 0) (pa_cons (pe_bltn (v := .ty "tuple") (by rfl) B.tuple (by decide +kernel) rfl) pa_nil))) (pe_callB (isiK (K := K) rfl) (by rfl) B.isinstance (by decide +kernel) (pa_cons (pv 1) (pa_cons (pe_bltn (v := .ty "tuple") (by rfl) B.tuple (by decide +kernel) rfl) pa_nil))) (nomark _))))) (pss_one (ps_ret pe_bl)) pss_nil)
      (pss_one (ps_ret (pe_and (pe_cmpR (eqK (K := K) rfl hr.units) (pe_callB (lenK (K := K) rfl) (by rfl) B.len (by decide +kernel) (pa_cons (pv 0) pa_nil)) (pe_callB (lenK (K := K) rfl) (by rfl) B.len (by decide +kernel) (pa_cons (pv 1) pa_nil)) (nomark _)) (pe_one (pe_callB (allK (K := K) rfl rfl) (by rfl) B.all (by decide +kernel) (pa_cons (pe_lc (own := [("_law_mine", 2), ("_law_its", 3)]) (by rfl) sc_law_same.nd (zipA (K := K) rfl (by rfl) B.zip (pa_cons (pv 0) (pa_cons (pv 1) pa_nil))) (blkOk_by (own := [("_law_mine", 2), ("_law_its", 3)]) (N := n_law_same) (sc := (defScope s_law_same)) (by decide +kernel)) (fun _ _ _ _ _ => (gtupK (K := K) rfl (pg_tup rfl (pgs_cons (pg_name (i := 2) sc_law_same.nd rfl (by first | exact Or.inl rfl | exact Or.inr rfl)) (pgs_cons (pg_name (i := 3) sc_law_same.nd rfl (by first | exact Or.inl rfl | exact Or.inr rfl)) pgs_nil))))) (fun _ _ _ _ _ => pts_nil) (fun _ _ _ _ _ => (pe_call c_law_same.ok hr (by rfl) c_law_same.g c_law_same.kp c_law_same.bd .nil pass0 (pa_cons (pv 2) (pa_cons (pv 3) pa_nil))))) pa_nil))))))) pss_nil)
      (pss_cons (ps_if (PW.pt (pw_or (pt_cmpR op_isN (pv 1) pe_non (nomark _)) (pw_or1 (pt_truth (pe_callB (isiTK (K := K) rfl) (by rfl) B.isinstance (by decide +kernel) (pa_cons (pv 1) (pa_cons (pe_tup (pa_cons (pe_bltn (v := .ty "bool") (by rfl) B.bool (by decide +kernel) rfl) (pa_cons (pe_bltn (v := .ty "str") (by rfl) B.str (by decide +kernel) rfl) pa_nil))) pa_nil))) (by intro _; rfl))))) (pss_one (ps_ret (pe_and (pe_cmpR (eqK (K := K) rfl hr.units) (pv 0) (pv 1) (nomark _)) (pe_and (pe_cmpR (eqK (K := K) rfl hr.units) (pe_callB (isiK (K := K) rfl) (by rfl) B.isinstance (by decide +kernel) (pa_cons (pv 0) (pa_cons (pe_bltn (v := .ty "bool") (by rfl) B.bool (by decide +kernel) rfl) pa_nil))) (pe_callB (isiK (K := K) rfl) (by rfl) B.isinstance (by decide +kernel) (pa_cons (pv 1) (pa_cons (pe_bltn (v := .ty "bool") (by rfl) B.bool (by decide +kernel) rfl) pa_nil))) (nomark _)) (pe_one (pe_cmpR (eqK (K := K) rfl hr.units) (pe_cmpR op_isN (pv 0) pe_non (nomark _)) (pe_cmpR op_isN (pv 1) pe_non (nomark _)) (nomark _))))))) pss_nil)
      (pss_one (ps_ret (pe_and (pe_callB (isiK (K := K) rfl) (by rfl) B.isinstance (by decide +kernel) (pa_cons (pv 0) (pa_cons (pe_bltn (v := .ty "int") (by rfl) B.int (by decide +kernel) rfl) pa_nil))) (pe_and (pe_not (pe_callB (isiK (K := K) rfl) (by rfl) B.isinstance (by decide +kernel) (pa_cons (pv 0) (pa_cons (pe_bltn (v := .ty "bool") (by rfl) B.bool (by decide +kernel) rfl) pa_nil)))) (pe_one (pe_cmpR (eqK (K := K) rfl hr.units) (pv 0) (pv 1) (nomark _))))))))),
      (ss_seq (ss_if (st_truth (se_isi2 (.inr (.inr (.inr (.inl rfl)))) (.inr (.inr (.inr (.inr rfl)))) se_var)) (ss_seq (ss_if (st_or (st_test (se_op r2_ne (se_isi (.inr (.inr (.inr (.inl rfl)))) se_var) (se_isi (.inr (.inr (.inr (.inl rfl)))) se_var))) (st_test (se_op r2_ne (se_isi (.inr (.inr (.inr (.inr rfl)))) se_var) (se_isi (.inr (.inr (.inr (.inr rfl)))) se_var)))) (ss_ret se_bl) ss_next)
      (ss_ret (se_andV (se_op r2_eq (se_cb rc_len (sa_cons se_var sa_nil)) (se_cb rc_len (sa_cons se_var sa_nil))) (se_cb rc_all (sa_cons (se_lc (si_zip (sa_cons se_var (sa_cons se_var sa_nil))) (sg_tup (sgs_cons sg_name (sgs_cons sg_name sgs_nil))) st_yes (se_call (mon_law_same_3 d) (sa_cons se_var (sa_cons se_var sa_nil)))) sa_nil))))) ss_next)
      (ss_seq (ss_if (st_or (st_test (se_op r2_isN se_var se_non)) (st_truth (se_isi2 (.inr (.inl rfl)) (.inr (.inr (.inl rfl))) se_var))) (ss_ret (se_andV (se_op r2_eq se_var se_var) (se_andV (se_op r2_eq (se_isi (.inr (.inl rfl)) se_var) (se_isi (.inr (.inl rfl)) se_var)) (se_op r2_eq (se_op r2_isN se_var se_non) (se_op r2_isN se_var se_non))))) ss_next)
      (ss_ret (se_andV (se_isi (.inl rfl) se_var) (se_andV (se_notV (se_isi (.inr (.inl rfl)) se_var)) (se_op r2_eq se_var se_var))))))⟩
abbrev s_law_shuffled : Stmt := topS 81
abbrev n_law_shuffled : List Str := ["_law_source", "_law_some", "_law_left", "_law_found"]
theorem sc_law_shuffled : FnScope n_law_shuffled ["_law_source", "_law_some"] (defScope s_law_shuffled) := ⟨rfl, rfl, rfl, by decide +kernel, rfl, by decide +kernel, by decide +kernel⟩
theorem ok_law_shuffled {f : Addr} {fd : FuncData} (F : Fun K "_law_shuffled" "_law_shuffled" s_law_shuffled f fd) (B : Bi mg) {f_law_draw : Addr} {e_law_draw : FuncData} (c_law_draw : Cal P w K mg base "_law_draw" 2 ["_law_source", "_law_bound"] (spD 2 p_law_take) f_law_draw e_law_draw)    : FnOk P w K mg base CX0 3 f fd ["_law_source", "_law_some"] (spD 2 p_law_strewn_2) := by
  refine okD (k := 2) F sc_law_shuffled rfl (fun cdv A outer s H E hr => ?_) m_law_strewn_2
  exact ⟨_, (pss_cons (ps_par (i := 2) (j := 3) (by rfl) sc_law_shuffled.nd rfl rfl (by decide) rfl rfl (pa_cons (pe_callTy (listK (K := K) rfl) (by rfl) B.list (by decide +kernel) (pa_cons (pv 1) pa_nil)) (pa_cons (pe_lst pa_nil) pa_nil)) (by rfl))
      (pss_cons (ps_while PassesOwn.never (pt_cmpR (neK (K := K) rfl hr.units) (pv 2) (pe_lst pa_nil) (nomark _)) (pss_one (ps_expr (bmK (K := K) rfl (pe_bm PySem.F.plainAttrs_list PySem.F.slot_list_append PySem.F.type_list_append mt_append (pv 3) (pa_cons (bmK (K := K) rfl (pe_bm PySem.F.plainAttrs_list PySem.F.slot_list_pop PySem.F.type_list_pop mt_popAt (pv 2) (pa_cons (pe_call c_law_draw.ok (hr.mono (by decide)) (by rfl) c_law_draw.g c_law_draw.kp c_law_draw.bd .nil pass0 (pa_cons (pv 0) (pa_cons (pe_callB (lenK (K := K) rfl) (by rfl) B.len (by decide +kernel) (pa_cons (pv 2) pa_nil)) pa_nil))) pa_nil))) pa_nil))))))
      (pss_one (ps_ret (pv 3))))),
    (ss_seq (ss_par (se_cb rc_list (sa_cons se_var sa_nil)) (se_lst sa_nil))
      (ss_seq (ss_while (st_test (se_op r2_ne se_var (se_lst sa_nil))) (ss_appPop (by decide) (se_call mon_law_take (sa_cons se_var (sa_cons (se_cb rc_len (sa_cons se_var sa_nil)) sa_nil)))))
      (ss_ret se_var)))⟩
abbrev s_law_random_state : Stmt := topS 82
abbrev n_law_random_state : List Str := ["_law_source", "_law_size", "_law_order", "_law_kind", "_law_spot", "_law_found", "_law_half", "_law_at", "_law_some"]
theorem sc_law_random_state : FnScope n_law_random_state ["_law_source", "_law_size"] (defScope s_law_random_state) := ⟨rfl, rfl, rfl, by decide +kernel, rfl, by decide +kernel, by decide +kernel⟩
theorem ok_law_random_state {f : Addr} {fd : FuncData} (F : Fun K "_law_random_state" "_law_random_state" s_law_random_state f fd) (B : Bi mg) {f_law_shuffled : Addr} {e_law_shuffled : FuncData} (c_law_shuffled : Cal P w K mg base "_law_shuffled" 3 ["_law_source", "_law_some"] (spD 2 p_law_strewn_2) f_law_shuffled e_law_shuffled) {f_law_draw : Addr} {e_law_draw : FuncData} (c_law_draw : Cal P w K mg base "_law_draw" 2 ["_law_source", "_law_bound"] (spD 2 p_law_take) f_law_draw e_law_draw)    : FnOk P w K mg base CX0 4 f fd ["_law_source", "_law_size"] (spD 2 p_law_random_state) := by
  refine okD (k := 3) F sc_law_random_state rfl (fun cdv A outer s H E hr => ?_) m_law_random_state
  exact ⟨_, (pss_cons (ps_par (i := 2) (j := 3) (by rfl) sc_law_random_state.nd rfl rfl (by decide) rfl rfl (pa_cons (pe_call c_law_shuffled.ok (hr.mono (by decide)) (by rfl) c_law_shuffled.g c_law_shuffled.kp c_law_shuffled.bd .nil pass0 (pa_cons (pv 0) (pa_cons (pe_listRg rfl (by rfl) B.list (prg_1 (by rfl) B.range (pv 1))) pa_nil))) (pa_cons (pe_call c_law_draw.ok (hr.mono (by decide)) (by rfl) c_law_draw.g c_law_draw.kp c_law_draw.bd .nil pass0 (pa_cons (pv 0) (pa_cons pe_int pa_nil))) pa_nil)) (by rfl))
      (pss_cons (ps_if (pt_cmpR op_lt (pv 3) pe_int (nomark _)) (pss_one (ps_ret (pe_callTy (tupleK (K := K) rfl) (by rfl) B.tuple (by decide +kernel) (pa_cons (pe_lc (own := [("_law_spot", 4)]) (by rfl) sc_law_random_state.nd (seqK (K := K) rfl (pv 2)) (blkOk_by (own := [("_law_spot", 4)]) (N := n_law_random_state) (sc := (defScope s_law_random_state)) (by decide +kernel)) (fun _ _ _ _ _ => (pg_name (i := 4) sc_law_random_state.nd rfl (by first | exact Or.inl rfl | exact Or.inr rfl))) (fun _ _ _ _ _ => pts_nil) (fun _ _ _ _ _ => (pe_call c_law_draw.ok (hr.mono (by decide)) (by rfl) c_law_draw.g c_law_draw.kp c_law_draw.bd .nil pass0 (pa_cons (pv 0) (pa_cons (pv 1) pa_nil))))) pa_nil)))) pss_nil)
      (pss_cons (ps_if (pt_cmpR (eqK (K := K) rfl hr.units) (pv 3) pe_int (nomark _)) (pss_one (ps_ret (pe_callTy (tupleK (K := K) rfl) (by rfl) B.tuple (by decide +kernel) (pa_cons (pe_call c_law_shuffled.ok (hr.mono (by decide)) (by rfl) c_law_shuffled.g c_law_shuffled.kp c_law_shuffled.bd .nil pass0 (pa_cons (pv 0) (pa_cons (pv 2) pa_nil))) pa_nil)))) pss_nil)
      (pss_cons (ps_par (i := 5) (j := 6) (by rfl) sc_law_random_state.nd rfl rfl (by decide) rfl rfl (pa_cons (pe_op op_mulA (pe_lst (pa_cons pe_int pa_nil)) (pv 1)) (pa_cons (pe_callB (call_max2 rfl) (by rfl) B.max (by decide +kernel) (pa_cons pe_int (pa_cons (pe_op op_fdivW (pv 1) pe_int) pa_nil))) pa_nil)) (by rfl))
      (pss_cons (ps_for PassesOwn.never rfl (enumA2 (K := K) rfl (by rfl) B.enumerate (pa_cons (pv 2) pa_nil)) (gtupK (K := K) rfl (pg_tup rfl (pgs_cons (pg_name (i := 7) sc_law_random_state.nd rfl (by first | exact Or.inl rfl | exact Or.inr rfl)) (pgs_cons (pg_name (i := 4) sc_law_random_state.nd rfl (by first | exact Or.inl rfl | exact Or.inr rfl)) pgs_nil)))) (pss_cons (ps_set (i := 8) sc_law_random_state.nd rfl (by first | exact Or.inl rfl | exact Or.inr rfl) (pe_lst (pa_cons (pe_ix (ixK (K := K) rfl) (pv 2) (pe_op op_mod (pe_op (addK (K := K) rfl) (pv 7) pe_int) (pv 1)) (fun _ _ => rfl)) (pa_cons (pe_ix (ixK (K := K) rfl) (pv 2) (pe_callB (call_max2 rfl) (by rfl) B.max (by decide +kernel) (pa_cons pe_int (pa_cons (pe_op op_sub (pv 7) pe_int) pa_nil))) (fun _ _ => rfl)) (pa_cons (pe_ix (ixK (K := K) rfl) (pv 2) (pe_callB (call_max2 rfl) (by rfl) B.max (by decide +kernel) (pa_cons pe_int (pa_cons (pe_op op_sub (pe_op op_sub (pv 7) pe_int) (pe_call c_law_draw.ok (hr.mono (by decide)) (by rfl) c_law_draw.g c_law_draw.kp c_law_draw.bd .nil pass0 (pa_cons (pv 0) (pa_cons pe_int pa_nil)))) pa_nil))) (fun _ _ => rfl)) pa_nil)))))
      (pss_cons (ps_expr (bmK (K := K) rfl (pe_bm PySem.F.plainAttrs_list PySem.F.slot_list_append PySem.F.type_list_append mt_append (pv 8) (pa_cons (pe_ix (ixK (K := K) rfl) (pv 2) (pe_call c_law_draw.ok (hr.mono (by decide)) (by rfl) c_law_draw.g c_law_draw.kp c_law_draw.bd .nil pass0 (pa_cons (pv 0) (pa_cons (pe_op (addK (K := K) rfl) pe_int (pe_op op_fdivW (pv 1) pe_int)) pa_nil))) (fun _ _ => rfl)) pa_nil))))
      (pss_cons (ps_expr (bmK (K := K) rfl (pe_bm PySem.F.plainAttrs_list PySem.F.slot_list_append PySem.F.type_list_append mt_append (pv 8) (pa_cons (pe_ifExp (pt_cmpR op_lt (pv 7) (pv 6) (nomark _)) (pe_ix (ixK (K := K) rfl) (pv 2) (pe_op op_mod (pe_op (addK (K := K) rfl) (pv 7) pe_int) (pv 6)) (fun _ _ => rfl)) (pe_ix (ixK (K := K) rfl) (pv 2) (pe_call c_law_draw.ok (hr.mono (by decide)) (by rfl) c_law_draw.g c_law_draw.kp c_law_draw.bd .nil pass0 (pa_cons (pv 0) (pa_cons (pv 7) pa_nil))) (fun _ _ => rfl))) pa_nil))))
      (pss_one (ps_asg (pe_ix (ixK (K := K) rfl) (pv 8) (pe_op op_sub (pv 3) pe_int) (fun _ _ => rfl)) (pg_sub (pv 5) (pv 4) set_list)))))))
      (pss_one (ps_ret (pe_callTy (tupleK (K := K) rfl) (by rfl) B.tuple (by decide +kernel) (pa_cons (pv 5) pa_nil))))))))),
    (ss_seq (ss_par (se_call mon_law_strewn_2 (sa_cons se_var (sa_cons (se_listRg se_var) sa_nil))) (se_call mon_law_take (sa_cons se_var (sa_cons se_int sa_nil))))
      (ss_seq (ss_if (st_test (se_op r2_B se_var se_int)) (ss_ret (se_cb rc_tuple (sa_cons (se_lc (si_seq se_var) sg_name st_yes (se_call mon_law_take (sa_cons se_var (sa_cons se_var sa_nil)))) sa_nil))) ss_next)
      (ss_seq (ss_if (st_test (se_op r2_eq se_var se_int)) (ss_ret (se_cb rc_tuple (sa_cons (se_call mon_law_strewn_2 (sa_cons se_var (sa_cons se_var sa_nil))) sa_nil))) ss_next)
      (ss_seq (ss_par (se_op r2_mul (se_lst (sa_cons se_int sa_nil)) se_var) (se_cb rc_max (sa_cons se_int (sa_cons (se_op r2_C se_var se_int) sa_nil))))
      (ss_seq (ss_for (si_enA (sa_cons se_var sa_nil)) (sg_tup (sgs_cons sg_name (sgs_cons sg_name sgs_nil))) (ss_seq (ss_set true (se_lst (sa_cons (se_op r2_ix se_var (se_op r2_C (se_op r2_add se_var se_int) se_var)) (sa_cons (se_op r2_ix se_var (se_cb rc_max (sa_cons se_int (sa_cons (se_op r2_I se_var se_int) sa_nil)))) (sa_cons (se_op r2_ix se_var (se_cb rc_max (sa_cons se_int (sa_cons (se_op r2_I (se_op r2_I se_var se_int) (se_call mon_law_take (sa_cons se_var (sa_cons se_int sa_nil)))) sa_nil)))) sa_nil)))))
      (ss_seq (ss_append (se_op r2_ix se_var (se_call mon_law_take (sa_cons se_var (sa_cons (se_op r2_add se_int (se_op r2_C se_var se_int)) sa_nil)))))
      (ss_seq (ss_append (se_if (st_test (se_op r2_B se_var se_var)) (se_op r2_ix se_var (se_op r2_C (se_op r2_add se_var se_int) se_var)) (se_op r2_ix se_var (se_call mon_law_take (sa_cons se_var (sa_cons se_var sa_nil))))))
      (ss_setIx (se_op r2_ix se_var (se_op r2_I se_var se_int)) se_var)))))
      (ss_ret (se_cb rc_tuple (sa_cons se_var sa_nil))))))))⟩
abbrev s_check_person : Stmt := topS 13
abbrev n_check_person : List Str := ["state", "person"]
theorem sc_check_person : FnScope n_check_person ["state", "person"] (defScope s_check_person) := ⟨rfl, rfl, rfl, by decide +kernel, rfl, by decide +kernel, by decide +kernel⟩
theorem okx_check_person {f : Addr} {fd : FuncData} (F : Fun K "check_person" "check_person" s_check_person f fd) (B : Bi mg)   {C_NoPerson C_OtherSize : Addr} (r_NoPerson : Ini P w K mg base "NoPerson" "person" C_NoPerson 1) (g_NoPerson : mg "NoPerson" = some (.ref C_NoPerson))  : FnOk P w K mg base (L2.CX P w) 3 f fd ["state", "person"] (spX (clT [("NoPerson", C_NoPerson), ("OtherSize", C_OtherSize)]) 2 q_check_personN) := by
  refine okDX (k := 2) (cl := (clT [("NoPerson", C_NoPerson), ("OtherSize", C_OtherSize)])) F sc_check_person rfl (fun cdv A outer s H E hr => ?_) mx_check_personN
  exact ⟨_, (pss_one (ps_if (pt_not (pt_chain op_le op_lt pe_int (pv 1) (pe_callB (lenK (K := K) rfl) (by rfl) B.len (by decide +kernel) (pa_cons (pv 0) pa_nil)))) (pss_one (ps_raise rfl (takes_of rfl rfl rfl rfl) (pmkI (K := K) rfl r_NoPerson g_NoPerson (hr.mono (by decide)) (by rfl) (pa_cons (pv 1) pa_nil)))) pss_nil)),
    fun P0 Ex => (ss_if (st_not (st_test (se_chain r2_B r2_B se_int se_var (se_cb rc_len (sa_cons se_var sa_nil))))) (ss_raise (by rfl) se_var) ss_next)⟩
abbrev s_check_word : Stmt := topS 24
abbrev n_check_word : List Str := ["state", "word", "person"]
theorem sc_check_word : FnScope n_check_word ["state", "word"] (defScope s_check_word) := ⟨rfl, rfl, rfl, by decide +kernel, rfl, by decide +kernel, by decide +kernel⟩
theorem okx_check_word {f : Addr} {fd : FuncData} (F : Fun K "check_word" "check_word" s_check_word f fd) (B : Bi mg)   {C_NoPerson C_OtherSize : Addr} {fx_check_person : Addr} {ex_check_person : FuncData} (x_check_person : CalX P w K mg base (clT [("NoPerson", C_NoPerson), ("OtherSize", C_OtherSize)]) "check_person" 3 ["state", "person"] q_check_personN fx_check_person ex_check_person)  : FnOk P w K mg base (L2.CX P w) 4 f fd ["state", "word"] (spX (clT [("NoPerson", C_NoPerson), ("OtherSize", C_OtherSize)]) 2 q_check_wordN) := by
  refine okDX (k := 3) (cl := (clT [("NoPerson", C_NoPerson), ("OtherSize", C_OtherSize)])) F sc_check_word rfl (fun cdv A outer s H E hr => ?_) mx_check_wordN
  exact ⟨_, (pss_one (ps_for (passes_of rfl) rfl (seqK (K := K) rfl (pv 1)) (pg_name (i := 2) sc_check_word.nd rfl (by first | exact Or.inl rfl | exact Or.inr rfl)) (pss_one (ps_expr (pe_callS x_check_person.ok (hr.mono (by decide)) (by rfl) x_check_person.g x_check_person.kp x_check_person.bd (fun σ => passAt (takes_of rfl rfl rfl rfl) σ) (pa_cons (pv 0) (pa_cons (pv 2) pa_nil))))))),
    fun P0 Ex => (ss_for (si_seq se_var) sg_name (ss_drop (se_callX monx_check_personN (sa_cons se_var (sa_cons se_var sa_nil)))))⟩
abbrev s_called_all : Stmt := topS 26
abbrev n_called_all : List Str := ["state", "word", "pointers", "person"]
theorem sc_called_all : FnScope n_called_all ["state", "word"] (defScope s_called_all) := ⟨rfl, rfl, rfl, by decide +kernel, rfl, by decide +kernel, by decide +kernel⟩
theorem okx_called_all {f : Addr} {fd : FuncData} (F : Fun K "called_all" "called_all" s_called_all f fd) (B : Bi mg)   {C_NoPerson C_OtherSize : Addr} {fx_check_word : Addr} {ex_check_word : FuncData} (x_check_word : CalX P w K mg base (clT [("NoPerson", C_NoPerson), ("OtherSize", C_OtherSize)]) "check_word" 4 ["state", "word"] q_check_wordN fx_check_word ex_check_word)  : FnOk P w K mg base (L2.CX P w) 5 f fd ["state", "word"] (spX (clT [("NoPerson", C_NoPerson), ("OtherSize", C_OtherSize)]) 2 q_called_allN) := by
  refine okDX (k := 4) (cl := (clT [("NoPerson", C_NoPerson), ("OtherSize", C_OtherSize)])) F sc_called_all rfl (fun cdv A outer s H E hr => ?_) mx_called_allN
  exact ⟨_, (pss_cons (ps_expr (pe_callS x_check_word.ok (hr.mono (by decide)) (by rfl) x_check_word.g x_check_word.kp x_check_word.bd (fun σ => passAt (takes_of rfl rfl rfl rfl) σ) (pa_cons (pv 0) (pa_cons (pv 1) pa_nil))))
      pss_never),
    fun P0 Ex => (ss_seq (ss_drop (se_callX monx_check_wordN (sa_cons se_var (sa_cons se_var sa_nil))))
      ss_never)⟩
abbrev s_states_until_settled : Stmt := topS 45
abbrev n_states_until_settled : List Str := ["state", "word", "along"]
theorem sc_states_until_settled : FnScope n_states_until_settled ["state", "word"] (defScope s_states_until_settled) := ⟨rfl, rfl, rfl, by decide +kernel, rfl, by decide +kernel, by decide +kernel⟩
theorem okx_states_until_settled {f : Addr} {fd : FuncData} (F : Fun K "states_until_settled" "states_until_settled" s_states_until_settled f fd) (B : Bi mg) {f_is_settled : Addr} {e_is_settled : FuncData} (c_is_settled : Cal P w K mg base "is_settled" 2 ["state", "word"] (spD 2 p_is_settledN) f_is_settled e_is_settled)  {C_NoPerson C_OtherSize : Addr} {fx_check_word : Addr} {ex_check_word : FuncData} (x_check_word : CalX P w K mg base (clT [("NoPerson", C_NoPerson), ("OtherSize", C_OtherSize)]) "check_word" 4 ["state", "word"] q_check_wordN fx_check_word ex_check_word) {fx_called_all : Addr} {ex_called_all : FuncData} (x_called_all : CalX P w K mg base (clT [("NoPerson", C_NoPerson), ("OtherSize", C_OtherSize)]) "called_all" 5 ["state", "word"] q_called_allN fx_called_all ex_called_all)  : FnOk P w K mg base (L2.CX P w) 6 f fd ["state", "word"] (spX (clT [("NoPerson", C_NoPerson), ("OtherSize", C_OtherSize)]) 2 q_states_until_settledN) := by
  refine okDX (k := 5) (cl := (clT [("NoPerson", C_NoPerson), ("OtherSize", C_OtherSize)])) F sc_states_until_settled rfl (fun cdv A outer s H E hr => ?_) mx_states_until_settledN
  exact ⟨_, (pss_cons (ps_expr (pe_callS x_check_word.ok (hr.mono (by decide)) (by rfl) x_check_word.g x_check_word.kp x_check_word.bd (fun σ => passAt (takes_of rfl rfl rfl rfl) σ) (pa_cons (pv 0) (pa_cons (pv 1) pa_nil))))
      (pss_cons (ps_set (i := 2) sc_states_until_settled.nd rfl (by first | exact Or.inl rfl | exact Or.inr rfl) (pe_lst (pa_cons (pe_callTy (tupleK (K := K) rfl) (by rfl) B.tuple (by decide +kernel) (pa_cons (pv 0) pa_nil)) pa_nil)))
      (pss_cons (ps_while (passes_of rfl) (pt_not (truK (K := K) rfl (pt_truth (pe_call c_is_settled.ok (hr.mono (by decide)) (by rfl) c_is_settled.g c_is_settled.kp c_is_settled.bd .nil pass0 (pa_cons (pe_ix (ixK (K := K) rfl) (pv 2) (pe_un un_neg pe_int) (fun _ _ => rfl)) (pa_cons (pv 1) pa_nil))) (by intro _; rfl)))) (pss_one (ps_expr (bmK (K := K) rfl (pe_bm PySem.F.plainAttrs_list PySem.F.slot_list_append PySem.F.type_list_append mt_append (pv 2) (pa_cons (pe_callS x_called_all.ok (hr.mono (by decide)) (by rfl) x_called_all.g x_called_all.kp x_called_all.bd (fun σ => passAt (takes_of rfl rfl rfl rfl) σ) (pa_cons (pe_ix (ixK (K := K) rfl) (pv 2) (pe_un un_neg pe_int) (fun _ _ => rfl)) (pa_cons (pv 1) pa_nil))) pa_nil))))))
      (pss_one (ps_ret (pv 2)))))),
    fun P0 Ex => (ss_seq (ss_drop (se_callX monx_check_wordN (sa_cons se_var (sa_cons se_var sa_nil))))
      (ss_seq (ss_set true (se_lst (sa_cons (se_cb rc_tuple (sa_cons se_var sa_nil)) sa_nil)))
      (ss_seq (ss_while (st_not (st_truth (se_call mon_is_settledN (sa_cons (se_op r2_ix se_var (se_un ru_neg se_int)) (sa_cons se_var sa_nil))))) (ss_append (se_callX monx_called_allN (sa_cons (se_op r2_ix se_var (se_un ru_neg se_int)) (sa_cons se_var sa_nil)))))
      (ss_ret se_var))))⟩
abbrev s_repeated : Stmt := topS 49
abbrev n_repeated : List Str := ["state", "word", "many", "along", "begin", "person"]
theorem sc_repeated : FnScope n_repeated ["state", "word", "many"] (defScope s_repeated) := ⟨rfl, rfl, rfl, by decide +kernel, rfl, by decide +kernel, by decide +kernel⟩
theorem okx_repeated {f : Addr} {fd : FuncData} (F : Fun K "repeated" "repeated" s_repeated f fd) (B : Bi mg)   {C_NoPerson C_OtherSize : Addr} {fx_states_until_settled : Addr} {ex_states_until_settled : FuncData} (x_states_until_settled : CalX P w K mg base (clT [("NoPerson", C_NoPerson), ("OtherSize", C_OtherSize)]) "states_until_settled" 6 ["state", "word"] q_states_until_settledN fx_states_until_settled ex_states_until_settled)  : FnOk P w K mg base (L2.CX P w) 7 f fd ["state", "word", "many"] (spX (clT [("NoPerson", C_NoPerson), ("OtherSize", C_OtherSize)]) 3 q_repeatedN) := by
  refine okDX (k := 6) (cl := (clT [("NoPerson", C_NoPerson), ("OtherSize", C_OtherSize)])) F sc_repeated rfl (fun cdv A outer s H E hr => ?_) mx_repeatedN
  exact ⟨_, (pss_cons (ps_set (i := 3) sc_repeated.nd rfl (by first | exact Or.inl rfl | exact Or.inr rfl) (pe_callS x_states_until_settled.ok (hr.mono (by decide)) (by rfl) x_states_until_settled.g x_states_until_settled.kp x_states_until_settled.bd (fun σ => passAt (takes_of rfl rfl rfl rfl) σ) (pa_cons (pv 0) (pa_cons (pv 1) pa_nil))))
      pss_never),
    fun P0 Ex => (ss_seq (ss_set false (se_callX monx_states_until_settledN (sa_cons se_var (sa_cons se_var sa_nil))))
      ss_never)⟩
abbrev s_repeat_deed : Stmt := topS 57
abbrev n_repeat_deed : List Str := ["state", "word", "many", "after"]
theorem sc_repeat_deed : FnScope n_repeat_deed ["state", "word", "many"] (defScope s_repeat_deed) := ⟨rfl, rfl, rfl, by decide +kernel, rfl, by decide +kernel, by decide +kernel⟩
theorem okx_repeat_deed {f : Addr} {fd : FuncData} (F : Fun K "repeat_deed" "repeat_deed" s_repeat_deed f fd) (B : Bi mg)   {C_NoPerson C_OtherSize : Addr} {fx_repeated : Addr} {ex_repeated : FuncData} (x_repeated : CalX P w K mg base (clT [("NoPerson", C_NoPerson), ("OtherSize", C_OtherSize)]) "repeated" 7 ["state", "word", "many"] q_repeatedN fx_repeated ex_repeated)  : FnOk P w K mg base (L2.CX P w) 8 f fd ["state", "word", "many"] (spX (clT [("NoPerson", C_NoPerson), ("OtherSize", C_OtherSize)]) 3 q_repeat_deedN) := by
  refine okDX (k := 7) (cl := (clT [("NoPerson", C_NoPerson), ("OtherSize", C_OtherSize)])) F sc_repeat_deed rfl (fun cdv A outer s H E hr => ?_) mx_repeat_deedN
  exact ⟨_, (pss_cons (ps_set (i := 3) sc_repeat_deed.nd rfl (by first | exact Or.inl rfl | exact Or.inr rfl) (pe_callS x_repeated.ok (hr.mono (by decide)) (by rfl) x_repeated.g x_repeated.kp x_repeated.bd (fun σ => passAt (takes_of rfl rfl rfl rfl) σ) (pa_cons (pv 0) (pa_cons (pv 1) (pa_cons (pv 2) pa_nil)))))
      pss_never),
    fun P0 Ex => (ss_seq (ss_set false (se_callX monx_repeatedN (sa_cons se_var (sa_cons se_var (sa_cons se_var sa_nil)))))
      ss_never)⟩
abbrev s_states_along : Stmt := topS 27
abbrev n_states_along : List Str := ["state", "word", "along", "person"]
theorem sc_states_along : FnScope n_states_along ["state", "word"] (defScope s_states_along) := ⟨rfl, rfl, rfl, by decide +kernel, rfl, by decide +kernel, by decide +kernel⟩
theorem okx_states_along {f : Addr} {fd : FuncData} (F : Fun K "states_along" "states_along" s_states_along f fd) (B : Bi mg)   {C_NoPerson C_OtherSize : Addr} {fx_check_word : Addr} {ex_check_word : FuncData} (x_check_word : CalX P w K mg base (clT [("NoPerson", C_NoPerson), ("OtherSize", C_OtherSize)]) "check_word" 4 ["state", "word"] q_check_wordN fx_check_word ex_check_word)  : FnOk P w K mg base (L2.CX P w) 5 f fd ["state", "word"] (spX (clT [("NoPerson", C_NoPerson), ("OtherSize", C_OtherSize)]) 2 q_states_alongN) := by
  refine okDX (k := 4) (cl := (clT [("NoPerson", C_NoPerson), ("OtherSize", C_OtherSize)])) F sc_states_along rfl (fun cdv A outer s H E hr => ?_) mx_states_alongN
  exact ⟨_, (pss_cons (ps_expr (pe_callS x_check_word.ok (hr.mono (by decide)) (by rfl) x_check_word.g x_check_word.kp x_check_word.bd (fun σ => passAt (takes_of rfl rfl rfl rfl) σ) (pa_cons (pv 0) (pa_cons (pv 1) pa_nil))))
      pss_never),
    fun P0 Ex => (ss_seq (ss_drop (se_callX monx_check_wordN (sa_cons se_var (sa_cons se_var sa_nil))))
      ss_never)⟩
abbrev s_idle_calls : Stmt := topS 28
abbrev n_idle_calls : List Str := ["state", "word", "along", "at"]
theorem sc_idle_calls : FnScope n_idle_calls ["state", "word"] (defScope s_idle_calls) := ⟨rfl, rfl, rfl, by decide +kernel, rfl, by decide +kernel, by decide +kernel⟩
theorem okx_idle_calls {f : Addr} {fd : FuncData} (F : Fun K "idle_calls" "idle_calls" s_idle_calls f fd) (B : Bi mg)   {C_NoPerson C_OtherSize : Addr} {fx_states_along : Addr} {ex_states_along : FuncData} (x_states_along : CalX P w K mg base (clT [("NoPerson", C_NoPerson), ("OtherSize", C_OtherSize)]) "states_along" 5 ["state", "word"] q_states_alongN fx_states_along ex_states_along)  : FnOk P w K mg base (L2.CX P w) 6 f fd ["state", "word"] (spX (clT [("NoPerson", C_NoPerson), ("OtherSize", C_OtherSize)]) 2 q_idle_callsN) := by
  refine okDX (k := 5) (cl := (clT [("NoPerson", C_NoPerson), ("OtherSize", C_OtherSize)])) F sc_idle_calls rfl (fun cdv A outer s H E hr => ?_) mx_idle_callsN
  exact ⟨_, (pss_cons (ps_set (i := 2) sc_idle_calls.nd rfl (by first | exact Or.inl rfl | exact Or.inr rfl) (pe_callS x_states_along.ok (hr.mono (by decide)) (by rfl) x_states_along.g x_states_along.kp x_states_along.bd (fun σ => passAt (takes_of rfl rfl rfl rfl) σ) (pa_cons (pv 0) (pa_cons (pv 1) pa_nil))))
      pss_never),
    fun P0 Ex => (ss_seq (ss_set false (se_callX monx_states_alongN (sa_cons se_var (sa_cons se_var sa_nil))))
      ss_never)⟩
abbrev s_run_deed : Stmt := topS 56
abbrev n_run_deed : List Str := ["state", "word"]
theorem sc_run_deed : FnScope n_run_deed ["state", "word"] (defScope s_run_deed) := ⟨rfl, rfl, rfl, by decide +kernel, rfl, by decide +kernel, by decide +kernel⟩
theorem okx_run_deed {f : Addr} {fd : FuncData} (F : Fun K "run_deed" "run_deed" s_run_deed f fd) (B : Bi mg)   {C_NoPerson C_OtherSize : Addr} {fx_idle_calls : Addr} {ex_idle_calls : FuncData} (x_idle_calls : CalX P w K mg base (clT [("NoPerson", C_NoPerson), ("OtherSize", C_OtherSize)]) "idle_calls" 6 ["state", "word"] q_idle_callsN fx_idle_calls ex_idle_calls) {fx_called_all : Addr} {ex_called_all : FuncData} (x_called_all : CalX P w K mg base (clT [("NoPerson", C_NoPerson), ("OtherSize", C_OtherSize)]) "called_all" 5 ["state", "word"] q_called_allN fx_called_all ex_called_all)  : FnOk P w K mg base (L2.CX P w) 7 f fd ["state", "word"] (spX (clT [("NoPerson", C_NoPerson), ("OtherSize", C_OtherSize)]) 2 q_run_deedN) := by
  refine okDX (k := 6) (cl := (clT [("NoPerson", C_NoPerson), ("OtherSize", C_OtherSize)])) F sc_run_deed rfl (fun cdv A outer s H E hr => ?_) mx_run_deedN
  exact ⟨_, (pss_one (ps_ret (pe_tupS (pa_cons (pe_callS x_called_all.ok (hr.mono (by decide)) (by rfl) x_called_all.g x_called_all.kp x_called_all.bd (fun σ => passAt (takes_of rfl rfl rfl rfl) σ) (pa_cons (pv 0) (pa_cons (pv 1) pa_nil))) (pa_cons (pe_op op_sub (pe_callB (lenK (K := K) rfl) (by rfl) B.len (by decide +kernel) (pa_cons (pv 1) pa_nil)) (pe_callB (lenK (K := K) rfl) (by rfl) B.len (by decide +kernel) (pa_cons (pe_callS x_idle_calls.ok (hr.mono (by decide)) (by rfl) x_idle_calls.g x_idle_calls.kp x_idle_calls.bd (fun σ => passAt (takes_of rfl rfl rfl rfl) σ) (pa_cons (pv 0) (pa_cons (pv 1) pa_nil))) pa_nil))) pa_nil))))),
    fun P0 Ex => (ss_ret (se_tup (sa_cons (se_callX monx_called_allN (sa_cons se_var (sa_cons se_var sa_nil))) (sa_cons (se_op r2_I (se_cb rc_len (sa_cons se_var sa_nil)) (se_cb rc_len (sa_cons (se_callX monx_idle_callsN (sa_cons se_var (sa_cons se_var sa_nil))) sa_nil))) sa_nil))))⟩
abbrev s_come_deed : Stmt := topS 59
abbrev n_come_deed : List Str := ["state", "target", "number"]
theorem sc_come_deed : FnScope n_come_deed ["state", "target"] (defScope s_come_deed) := ⟨rfl, rfl, rfl, by decide +kernel, rfl, by decide +kernel, by decide +kernel⟩
theorem okx_come_deed {f : Addr} {fd : FuncData} (F : FunDX K "come_deed" "come_deed" s_come_deed [.non] f fd) (B : Bi mg)   {C_NoPerson C_OtherSize : Addr} {fx_check_person : Addr} {ex_check_person : FuncData} (x_check_person : CalX P w K mg base (clT [("NoPerson", C_NoPerson), ("OtherSize", C_OtherSize)]) "check_person" 3 ["state", "person"] q_check_personN fx_check_person ex_check_person)  : FnOk P w K mg base (L2.CX P w) 4 f fd ["state", "target"] (spX (clT [("NoPerson", C_NoPerson), ("OtherSize", C_OtherSize)]) 2 q_come_deedN) := by
  refine okDXD (k := 3) (cl := (clT [("NoPerson", C_NoPerson), ("OtherSize", C_OtherSize)])) F sc_come_deed rfl (fun cdv A outer s H E hr => ?_) mx_come_deedN
  exact ⟨_, (pss_cons (ps_set (i := 2) sc_come_deed.nd rfl (by first | exact Or.inl rfl | exact Or.inr rfl) (pe_callB (lenK (K := K) rfl) (by rfl) B.len (by decide +kernel) (pa_cons (pv 0) pa_nil)))
      (pss_cons (ps_if (pt_cmpR op_isN (pv 1) pe_non (nomark _)) (pss_one (ps_ret (pe_tupS (pa_cons (pe_op (addK (K := K) rfl) (pv 0) (pe_tupS (pa_cons (pv 2) pa_nil))) (pa_cons (pv 2) pa_nil))))) pss_nil)
      (pss_cons (ps_expr (pe_callS x_check_person.ok (hr.mono (by decide)) (by rfl) x_check_person.g x_check_person.kp x_check_person.bd (fun σ => passAt (takes_of rfl rfl rfl rfl) σ) (pa_cons (pv 0) (pa_cons (pv 1) pa_nil))))
      pss_never))),
    fun P0 Ex => (ss_seq (ss_set false (se_cb rc_len (sa_cons se_var sa_nil)))
      (ss_seq (ss_if (st_test (se_op r2_isN se_var se_non)) (ss_ret (se_tup (sa_cons (se_op r2_add se_var (se_tup (sa_cons se_var sa_nil))) (sa_cons se_var sa_nil)))) ss_next)
      (ss_seq (ss_drop (se_callX monx_check_personN (sa_cons se_var (sa_cons se_var sa_nil))))
      ss_never)))⟩
abbrev s_bypassed : Stmt := topS 31
abbrev n_bypassed : List Str := ["state", "person", "others", "other", "target", "beyond"]
theorem sc_bypassed : FnScope n_bypassed ["state", "person"] (defScope s_bypassed) := ⟨rfl, rfl, rfl, by decide +kernel, rfl, by decide +kernel, by decide +kernel⟩
theorem okx_bypassed {f : Addr} {fd : FuncData} (F : Fun K "bypassed" "bypassed" s_bypassed f fd) (B : Bi mg)   {C_NoPerson C_OtherSize : Addr} {fx_check_person : Addr} {ex_check_person : FuncData} (x_check_person : CalX P w K mg base (clT [("NoPerson", C_NoPerson), ("OtherSize", C_OtherSize)]) "check_person" 3 ["state", "person"] q_check_personN fx_check_person ex_check_person)  : FnOk P w K mg base (L2.CX P w) 4 f fd ["state", "person"] (spX (clT [("NoPerson", C_NoPerson), ("OtherSize", C_OtherSize)]) 2 q_bypassedN) := by
  refine okDX (k := 3) (cl := (clT [("NoPerson", C_NoPerson), ("OtherSize", C_OtherSize)])) F sc_bypassed rfl (fun cdv A outer s H E hr => ?_) mx_bypassedN
  exact ⟨_, (pss_cons (ps_expr (pe_callS x_check_person.ok (hr.mono (by decide)) (by rfl) x_check_person.g x_check_person.kp x_check_person.bd (fun σ => passAt (takes_of rfl rfl rfl rfl) σ) (pa_cons (pv 0) (pa_cons (pv 1) pa_nil))))
      pss_never),
    fun P0 Ex => (ss_seq (ss_drop (se_callX monx_check_personN (sa_cons se_var (sa_cons se_var sa_nil))))
      ss_never)⟩
abbrev s_number_without : Stmt := topS 30
abbrev n_number_without : List Str := ["number", "person"]
theorem sc_number_without : FnScope n_number_without ["number", "person"] (defScope s_number_without) := ⟨rfl, rfl, rfl, by decide +kernel, rfl, by decide +kernel, by decide +kernel⟩
theorem okx_number_without {f : Addr} {fd : FuncData} (F : Fun K "number_without" "number_without" s_number_without f fd) (B : Bi mg)     : FnOk P w K mg base (L2.CX P w) 1 f fd ["number", "person"] (spX (clT [("NoPerson", C_NoPerson), ("OtherSize", C_OtherSize)]) 2 q_number_withoutN) := by
  refine okDX (k := 0) (cl := (clT [("NoPerson", C_NoPerson), ("OtherSize", C_OtherSize)])) F sc_number_without rfl (fun cdv A outer s H E hr => ?_) mx_number_withoutN
  exact ⟨_, (pss_one (ps_ret (pe_ifExp (pt_cmpR op_gt (pv 0) (pv 1) (nomark _)) (pe_op op_sub (pv 0) pe_int) (pv 0)))),
    fun P0 Ex => (ss_ret (se_if (st_test (se_op r2_B se_var se_var)) (se_op r2_I se_var se_int) se_var))⟩
abbrev s_leave_deed : Stmt := topS 60
abbrev n_leave_deed : List Str := ["state", "person"]
theorem sc_leave_deed : FnScope n_leave_deed ["state", "person"] (defScope s_leave_deed) := ⟨rfl, rfl, rfl, by decide +kernel, rfl, by decide +kernel, by decide +kernel⟩
theorem okx_leave_deed {f : Addr} {fd : FuncData} (F : Fun K "leave_deed" "leave_deed" s_leave_deed f fd) (B : Bi mg)   {C_NoPerson C_OtherSize : Addr} {fx_number_without : Addr} {ex_number_without : FuncData} (x_number_without : CalX P w K mg base (clT [("NoPerson", C_NoPerson), ("OtherSize", C_OtherSize)]) "number_without" 1 ["number", "person"] q_number_withoutN fx_number_without ex_number_without) {fx_bypassed : Addr} {ex_bypassed : FuncData} (x_bypassed : CalX P w K mg base (clT [("NoPerson", C_NoPerson), ("OtherSize", C_OtherSize)]) "bypassed" 4 ["state", "person"] q_bypassedN fx_bypassed ex_bypassed)  : FnOk P w K mg base (L2.CX P w) 5 f fd ["state", "person"] (spX (clT [("NoPerson", C_NoPerson), ("OtherSize", C_OtherSize)]) 2 q_leave_deedN) := by
  refine okDX (k := 4) (cl := (clT [("NoPerson", C_NoPerson), ("OtherSize", C_OtherSize)])) F sc_leave_deed rfl (fun cdv A outer s H E hr => ?_) mx_leave_deedN
  exact ⟨_, (pss_one (ps_ret (pe_tupS (pa_cons (pe_callS x_bypassed.ok (hr.mono (by decide)) (by rfl) x_bypassed.g x_bypassed.kp x_bypassed.bd (fun σ => passAt (takes_of rfl rfl rfl rfl) σ) (pa_cons (pv 0) (pa_cons (pv 1) pa_nil))) (pa_cons (pe_callS x_number_without.ok (hr.mono (by decide)) (by rfl) x_number_without.g x_number_without.kp x_number_without.bd (fun σ => passAt (takes_of rfl rfl rfl rfl) σ) (pa_cons (pe_ix (ixK (K := K) rfl) (pv 0) (pv 1) (fun _ _ => rfl)) (pa_cons (pv 1) pa_nil))) pa_nil))))),
    fun P0 Ex => (ss_ret (se_tup (sa_cons (se_callX monx_bypassedN (sa_cons se_var (sa_cons se_var sa_nil))) (sa_cons (se_callX monx_number_withoutN (sa_cons (se_op r2_ix se_var se_var) (sa_cons se_var sa_nil))) sa_nil))))⟩
abbrev s_called : Stmt := topS 25
abbrev n_called : List Str := ["state", "person"]
theorem sc_called : FnScope n_called ["state", "person"] (defScope s_called) := ⟨rfl, rfl, rfl, by decide +kernel, rfl, by decide +kernel, by decide +kernel⟩
theorem okx_called {f : Addr} {fd : FuncData} (F : Fun K "called" "called" s_called f fd) (B : Bi mg)   {C_NoPerson C_OtherSize : Addr} {fx_called_all : Addr} {ex_called_all : FuncData} (x_called_all : CalX P w K mg base (clT [("NoPerson", C_NoPerson), ("OtherSize", C_OtherSize)]) "called_all" 5 ["state", "word"] q_called_allN fx_called_all ex_called_all)  : FnOk P w K mg base (L2.CX P w) 6 f fd ["state", "person"] (spX (clT [("NoPerson", C_NoPerson), ("OtherSize", C_OtherSize)]) 2 q_calledN) := by
  refine okDX (k := 5) (cl := (clT [("NoPerson", C_NoPerson), ("OtherSize", C_OtherSize)])) F sc_called rfl (fun cdv A outer s H E hr => ?_) mx_calledN
  exact ⟨_, (pss_one (ps_ret (pe_callS x_called_all.ok (hr.mono (by decide)) (by rfl) x_called_all.g x_called_all.kp x_called_all.bd (fun σ => passAt (takes_of rfl rfl rfl rfl) σ) (pa_cons (pv 0) (pa_cons (pe_lst (pa_cons (pv 1) pa_nil)) pa_nil))))),
    fun P0 Ex => (ss_ret (se_callX monx_called_allN (sa_cons se_var (sa_cons (se_lst (sa_cons se_var sa_nil)) sa_nil))))⟩
abbrev s_call_deed : Stmt := topS 55
abbrev n_call_deed : List Str := ["state", "person", "after"]
theorem sc_call_deed : FnScope n_call_deed ["state", "person"] (defScope s_call_deed) := ⟨rfl, rfl, rfl, by decide +kernel, rfl, by decide +kernel, by decide +kernel⟩
theorem okx_call_deed {f : Addr} {fd : FuncData} (F : Fun K "call_deed" "call_deed" s_call_deed f fd) (B : Bi mg)   {C_NoPerson C_OtherSize : Addr} {fx_called : Addr} {ex_called : FuncData} (x_called : CalX P w K mg base (clT [("NoPerson", C_NoPerson), ("OtherSize", C_OtherSize)]) "called" 6 ["state", "person"] q_calledN fx_called ex_called)  : FnOk P w K mg base (L2.CX P w) 7 f fd ["state", "person"] (spX (clT [("NoPerson", C_NoPerson), ("OtherSize", C_OtherSize)]) 2 q_call_deedN) := by
  refine okDX (k := 6) (cl := (clT [("NoPerson", C_NoPerson), ("OtherSize", C_OtherSize)])) F sc_call_deed rfl (fun cdv A outer s H E hr => ?_) mx_call_deedN
  exact ⟨_, (pss_cons (ps_set (i := 2) sc_call_deed.nd rfl (by first | exact Or.inl rfl | exact Or.inr rfl) (pe_callS x_called.ok (hr.mono (by decide)) (by rfl) x_called.g x_called.kp x_called.bd (fun σ => passAt (takes_of rfl rfl rfl rfl) σ) (pa_cons (pv 0) (pa_cons (pv 1) pa_nil))))
      pss_never),
    fun P0 Ex => (ss_seq (ss_set false (se_callX monx_calledN (sa_cons se_var (sa_cons se_var sa_nil))))
      ss_never)⟩
abbrev s_law_hall : Stmt := topS 85
abbrev n_law_hall : List Str := ["_law_door", "_law_hall_here", "_law_odd", "_law_row_here"]
theorem sc_law_hall : FnScope n_law_hall ["_law_door", "_law_hall_here", "_law_odd", "_law_row_here"] (defScope s_law_hall) := ⟨rfl, rfl, rfl, by decide +kernel, rfl, by decide +kernel, by decide +kernel⟩
theorem okx_law_hall {f : Addr} {fd : FuncData} (F : Fun K "_law_hall" "_law_hall" s_law_hall f fd) (B : Bi mg)   {C_NoPerson C_OtherSize : Addr} {CiC : Addr} (hF_Circle : FN "Circle" = .ref CiC) {fx_call_deed : Addr} {ex_call_deed : FuncData} (x_call_deed : CalX P w K mg base (clT [("NoPerson", C_NoPerson), ("OtherSize", C_OtherSize)]) "call_deed" 7 ["state", "person"] q_call_deedN fx_call_deed ex_call_deed) {fm_call : Addr} {em_call : FuncData} (m_call : CirM P w K mg base (clT [("NoPerson", C_NoPerson), ("OtherSize", C_OtherSize)]) CiC "call" 9 ["self", "person"] (q_ci q_call_deedN) fm_call em_call) {fx_leave_deed : Addr} {ex_leave_deed : FuncData} (x_leave_deed : CalX P w K mg base (clT [("NoPerson", C_NoPerson), ("OtherSize", C_OtherSize)]) "leave_deed" 5 ["state", "person"] q_leave_deedN fx_leave_deed ex_leave_deed) {fm_leave : Addr} {em_leave : FuncData} (m_leave : CirM P w K mg base (clT [("NoPerson", C_NoPerson), ("OtherSize", C_OtherSize)]) CiC "leave" 7 ["self", "person"] (q_ci q_leave_deedN) fm_leave em_leave) {fx_come_deed : Addr} {ex_come_deed : FuncData} (x_come_deed : CalX P w K mg base (clT [("NoPerson", C_NoPerson), ("OtherSize", C_OtherSize)]) "come_deed" 4 ["state", "target"] q_come_deedN fx_come_deed ex_come_deed) {fm_come : Addr} {em_come : FuncData} (m_come : CirM P w K mg base (clT [("NoPerson", C_NoPerson), ("OtherSize", C_OtherSize)]) CiC "come" 6 ["self", "target"] (q_ci q_come_deedN) fm_come em_come) {fx_run_deed : Addr} {ex_run_deed : FuncData} (x_run_deed : CalX P w K mg base (clT [("NoPerson", C_NoPerson), ("OtherSize", C_OtherSize)]) "run_deed" 7 ["state", "word"] q_run_deedN fx_run_deed ex_run_deed) {fm_run : Addr} {em_run : FuncData} (m_run : CirM P w K mg base (clT [("NoPerson", C_NoPerson), ("OtherSize", C_OtherSize)]) CiC "run" 9 ["self", "word"] (q_ci q_run_deedN) fm_run em_run) {fx_repeat_deed : Addr} {ex_repeat_deed : FuncData} (x_repeat_deed : CalX P w K mg base (clT [("NoPerson", C_NoPerson), ("OtherSize", C_OtherSize)]) "repeat_deed" 8 ["state", "word", "many"] q_repeat_deedN fx_repeat_deed ex_repeat_deed) {fm_repeat : Addr} {em_repeat : FuncData} (m_repeat : CirM P w K mg base (clT [("NoPerson", C_NoPerson), ("OtherSize", C_OtherSize)]) CiC "repeat" 10 ["self", "word", "many"] (q_ci q_repeat_deedN) fm_repeat em_repeat)  : FnOk P w K mg base (L2.CX P w) 11 f fd ["_law_door", "_law_hall_here", "_law_odd", "_law_row_here"] (spX (clT [("NoPerson", C_NoPerson), ("OtherSize", C_OtherSize)]) 4 q_law_hall) := by
  refine okDX (k := 10) (cl := (clT [("NoPerson", C_NoPerson), ("OtherSize", C_OtherSize)])) F sc_law_hall rfl (fun cdv A outer s H E hr => ?_) mx_law_hall
  exact ⟨_, (pss_cons (ps_if (pt_cmpR (eqK (K := K) rfl hr.units) (pv 0) pe_int (nomark _)) (pss_one (ps_ret (pe_methX (pv 1) m_call.T.cl m_call.mt m_call.ok (hr.mono (by decide)) m_call.bd (fun σ => passAt (takes_of rfl rfl rfl rfl) σ) (pa_cons (pv 2) pa_nil)))) pss_nil)
      (pss_cons (ps_if (pt_cmpR op_lt (pv 0) pe_int (nomark _)) (pss_one (ps_ret (pe_ifExp (pt_cmpR (eqK (K := K) rfl hr.units) (pv 0) pe_int (nomark _)) (pe_methX (pv 1) m_leave.T.cl m_leave.mt m_leave.ok (hr.mono (by decide)) m_leave.bd (fun σ => passAt (takes_of rfl rfl rfl rfl) σ) (pa_cons (pv 2) pa_nil)) (pe_methX (pv 1) m_come.T.cl m_come.mt m_come.ok (hr.mono (by decide)) m_come.bd (fun σ => passAt (takes_of rfl rfl rfl rfl) σ) (pa_cons (pv 2) pa_nil))))) pss_nil)
      (pss_one (ps_ret (pe_ifExp (pt_cmpR (eqK (K := K) rfl hr.units) (pv 0) pe_int (nomark _)) (pe_methX (pv 1) m_run.T.cl m_run.mt m_run.ok (hr.mono (by decide)) m_run.bd (fun σ => passAt (takes_of rfl rfl rfl rfl) σ) (pa_cons (pv 3) pa_nil)) (pe_methX (pv 1) m_repeat.T.cl m_repeat.mt m_repeat.ok (hr.mono (by decide)) m_repeat.bd (fun σ => passAt (takes_of rfl rfl rfl rfl) σ) (pa_cons (pv 3) (pa_cons pe_int pa_nil)))))))),
    fun P0 Ex => (ss_seq (ss_if (st_test (se_op r2_eq se_var se_int)) (ss_ret (se_methX hF_Circle (by decide +kernel) (by decide +kernel) (monx_ci monx_call_deedN) se_var (sa_cons se_var sa_nil))) ss_next)
      (ss_seq (ss_if (st_test (se_op r2_B se_var se_int)) (ss_ret (se_if (st_test (se_op r2_eq se_var se_int)) (se_methX hF_Circle (by decide +kernel) (by decide +kernel) (monx_ci monx_leave_deedN) se_var (sa_cons se_var sa_nil)) (se_methX hF_Circle (by decide +kernel) (by decide +kernel) (monx_ci monx_come_deedN) se_var (sa_cons se_var sa_nil)))) ss_next)
      (ss_ret (se_if (st_test (se_op r2_eq se_var se_int)) (se_methX hF_Circle (by decide +kernel) (by decide +kernel) (monx_ci monx_run_deedN) se_var (sa_cons se_var sa_nil)) (se_methX hF_Circle (by decide +kernel) (by decide +kernel) (monx_ci monx_repeat_deedN) se_var (sa_cons se_var (sa_cons se_int sa_nil)))))))⟩
abbrev s_first_time : Stmt := topS 52
abbrev n_first_time : List Str := ["state", "word", "person", "target", "along", "pointers", "reached", "more"]
theorem sc_first_time : FnScope n_first_time ["state", "word", "person", "target"] (defScope s_first_time) := ⟨rfl, rfl, rfl, by decide +kernel, rfl, by decide +kernel, by decide +kernel⟩
theorem okx_first_time {f : Addr} {fd : FuncData} (F : Fun K "first_time" "first_time" s_first_time f fd) (B : Bi mg)   {C_NoPerson C_OtherSize : Addr} {fx_states_until_settled : Addr} {ex_states_until_settled : FuncData} (x_states_until_settled : CalX P w K mg base (clT [("NoPerson", C_NoPerson), ("OtherSize", C_OtherSize)]) "states_until_settled" 6 ["state", "word"] q_states_until_settledN fx_states_until_settled ex_states_until_settled) {fx_check_person : Addr} {ex_check_person : FuncData} (x_check_person : CalX P w K mg base (clT [("NoPerson", C_NoPerson), ("OtherSize", C_OtherSize)]) "check_person" 3 ["state", "person"] q_check_personN fx_check_person ex_check_person)  : FnOk P w K mg base (L2.CX P w) 7 f fd ["state", "word", "person", "target"] (spX (clT [("NoPerson", C_NoPerson), ("OtherSize", C_OtherSize)]) 4 q_first_timeN) := by
  refine okDX (k := 6) (cl := (clT [("NoPerson", C_NoPerson), ("OtherSize", C_OtherSize)])) F sc_first_time rfl (fun cdv A outer s H E hr => ?_) mx_first_timeN
  exact ⟨_, (pss_cons (ps_set (i := 4) sc_first_time.nd rfl (by first | exact Or.inl rfl | exact Or.inr rfl) (pe_callS x_states_until_settled.ok (hr.mono (by decide)) (by rfl) x_states_until_settled.g x_states_until_settled.kp x_states_until_settled.bd (fun σ => passAt (takes_of rfl rfl rfl rfl) σ) (pa_cons (pv 0) (pa_cons (pv 1) pa_nil))))
      (pss_cons (ps_expr (pe_callS x_check_person.ok (hr.mono (by decide)) (by rfl) x_check_person.g x_check_person.kp x_check_person.bd (fun σ => passAt (takes_of rfl rfl rfl rfl) σ) (pa_cons (pv 0) (pa_cons (pv 2) pa_nil))))
      (pss_cons (ps_expr (pe_callS x_check_person.ok (hr.mono (by decide)) (by rfl) x_check_person.g x_check_person.kp x_check_person.bd (fun σ => passAt (takes_of rfl rfl rfl rfl) σ) (pa_cons (pv 0) (pa_cons (pv 3) pa_nil))))
      pss_never))),
    fun P0 Ex => (ss_seq (ss_set false (se_callX monx_states_until_settledN (sa_cons se_var (sa_cons se_var sa_nil))))
      (ss_seq (ss_drop (se_callX monx_check_personN (sa_cons se_var (sa_cons se_var sa_nil))))
      (ss_seq (ss_drop (se_callX monx_check_personN (sa_cons se_var (sa_cons se_var sa_nil))))
      ss_never)))⟩
abbrev s_check_roots : Stmt := topS 67
abbrev n_check_roots : List Str := ["state", "roots", "served", "person", "ring"]
theorem sc_check_roots : FnScope n_check_roots ["state", "roots"] (defScope s_check_roots) := ⟨rfl, rfl, rfl, by decide +kernel, rfl, by decide +kernel, by decide +kernel⟩
theorem okx_check_roots {f : Addr} {fd : FuncData} (F : Fun K "check_roots" "check_roots" s_check_roots f fd) (B : Bi mg)   {C_NoPerson C_OtherSize : Addr} {fx_check_word : Addr} {ex_check_word : FuncData} (x_check_word : CalX P w K mg base (clT [("NoPerson", C_NoPerson), ("OtherSize", C_OtherSize)]) "check_word" 4 ["state", "word"] q_check_wordN fx_check_word ex_check_word)  : FnOk P w K mg base (L2.CX P w) 5 f fd ["state", "roots"] (spX (clT [("NoPerson", C_NoPerson), ("OtherSize", C_OtherSize)]) 2 q_check_rootsN) := by
  refine okDX (k := 4) (cl := (clT [("NoPerson", C_NoPerson), ("OtherSize", C_OtherSize)])) F sc_check_roots rfl (fun cdv A outer s H E hr => ?_) mx_check_rootsN
  exact ⟨_, (pss_cons (ps_expr (pe_callS x_check_word.ok (hr.mono (by decide)) (by rfl) x_check_word.g x_check_word.kp x_check_word.bd (fun σ => passAt (takes_of rfl rfl rfl rfl) σ) (pa_cons (pv 0) (pa_cons (pv 1) pa_nil))))
      pss_never),
    fun P0 Ex => (ss_seq (ss_drop (se_callX monx_check_wordN (sa_cons se_var (sa_cons se_var sa_nil))))
      ss_never)⟩
abbrev s_rest_with : Stmt := topS 68
abbrev n_rest_with : List Str := ["state", "roots", "root_of", "root", "person"]
theorem sc_rest_with : FnScope n_rest_with ["state", "roots"] (defScope s_rest_with) := ⟨rfl, rfl, rfl, by decide +kernel, rfl, by decide +kernel, by decide +kernel⟩
theorem okx_rest_with {f : Addr} {fd : FuncData} (F : Fun K "rest_with" "rest_with" s_rest_with f fd) (B : Bi mg)   {C_NoPerson C_OtherSize : Addr} {fx_check_roots : Addr} {ex_check_roots : FuncData} (x_check_roots : CalX P w K mg base (clT [("NoPerson", C_NoPerson), ("OtherSize", C_OtherSize)]) "check_roots" 5 ["state", "roots"] q_check_rootsN fx_check_roots ex_check_roots)  : FnOk P w K mg base (L2.CX P w) 6 f fd ["state", "roots"] (spX (clT [("NoPerson", C_NoPerson), ("OtherSize", C_OtherSize)]) 2 q_rest_withN) := by
  refine okDX (k := 5) (cl := (clT [("NoPerson", C_NoPerson), ("OtherSize", C_OtherSize)])) F sc_rest_with rfl (fun cdv A outer s H E hr => ?_) mx_rest_withN
  exact ⟨_, (pss_cons (ps_expr (pe_callS x_check_roots.ok (hr.mono (by decide)) (by rfl) x_check_roots.g x_check_roots.kp x_check_roots.bd (fun σ => passAt (takes_of rfl rfl rfl rfl) σ) (pa_cons (pv 0) (pa_cons (pv 1) pa_nil))))
      pss_never),
    fun P0 Ex => (ss_seq (ss_drop (se_callX monx_check_rootsN (sa_cons se_var (sa_cons se_var sa_nil))))
      ss_never)⟩
abbrev s_people_astray : Stmt := topS 69
abbrev n_people_astray : List Str := ["state", "roots", "rest", "person"]
theorem sc_people_astray : FnScope n_people_astray ["state", "roots"] (defScope s_people_astray) := ⟨rfl, rfl, rfl, by decide +kernel, rfl, by decide +kernel, by decide +kernel⟩
theorem okx_people_astray {f : Addr} {fd : FuncData} (F : Fun K "people_astray" "people_astray" s_people_astray f fd) (B : Bi mg)   {C_NoPerson C_OtherSize : Addr} {fx_rest_with : Addr} {ex_rest_with : FuncData} (x_rest_with : CalX P w K mg base (clT [("NoPerson", C_NoPerson), ("OtherSize", C_OtherSize)]) "rest_with" 6 ["state", "roots"] q_rest_withN fx_rest_with ex_rest_with)  : FnOk P w K mg base (L2.CX P w) 7 f fd ["state", "roots"] (spX (clT [("NoPerson", C_NoPerson), ("OtherSize", C_OtherSize)]) 2 q_people_astrayN) := by
  refine okDX (k := 6) (cl := (clT [("NoPerson", C_NoPerson), ("OtherSize", C_OtherSize)])) F sc_people_astray rfl (fun cdv A outer s H E hr => ?_) mx_people_astrayN
  exact ⟨_, (pss_cons (ps_set (i := 2) sc_people_astray.nd rfl (by first | exact Or.inl rfl | exact Or.inr rfl) (pe_callS x_rest_with.ok (hr.mono (by decide)) (by rfl) x_rest_with.g x_rest_with.kp x_rest_with.bd (fun σ => passAt (takes_of rfl rfl rfl rfl) σ) (pa_cons (pv 0) (pa_cons (pv 1) pa_nil))))
      pss_never),
    fun P0 Ex => (ss_seq (ss_set false (se_callX monx_rest_withN (sa_cons se_var (sa_cons se_var sa_nil))))
      ss_never)⟩
abbrev s_shows_fewest : Stmt := topS 72
abbrev n_shows_fewest : List Str := ["state", "roots", "value", "astray", "item"]
theorem sc_shows_fewest : FnScope n_shows_fewest ["state", "roots", "value"] (defScope s_shows_fewest) := ⟨rfl, rfl, rfl, by decide +kernel, rfl, by decide +kernel, by decide +kernel⟩
theorem okx_shows_fewest {f : Addr} {fd : FuncData} (F : Fun K "shows_fewest" "shows_fewest" s_shows_fewest f fd) (B : Bi mg)   {C_NoPerson C_OtherSize : Addr} {fx_people_astray : Addr} {ex_people_astray : FuncData} (x_people_astray : CalX P w K mg base (clT [("NoPerson", C_NoPerson), ("OtherSize", C_OtherSize)]) "people_astray" 7 ["state", "roots"] q_people_astrayN fx_people_astray ex_people_astray)  : FnOk P w K mg base (L2.CX P w) 8 f fd ["state", "roots", "value"] (spX (clT [("NoPerson", C_NoPerson), ("OtherSize", C_OtherSize)]) 3 q_shows_fewestN) := by
  refine okDX (k := 7) (cl := (clT [("NoPerson", C_NoPerson), ("OtherSize", C_OtherSize)])) F sc_shows_fewest rfl (fun cdv A outer s H E hr => ?_) mx_shows_fewestN
  exact ⟨_, (pss_cons (ps_set (i := 3) sc_shows_fewest.nd rfl (by first | exact Or.inl rfl | exact Or.inr rfl) (pe_callS x_people_astray.ok (hr.mono (by decide)) (by rfl) x_people_astray.g x_people_astray.kp x_people_astray.bd (fun σ => passAt (takes_of rfl rfl rfl rfl) σ) (pa_cons (pv 0) (pa_cons (pv 1) pa_nil))))
      pss_never),
    fun P0 Ex => (ss_seq (ss_set false (se_callX monx_people_astrayN (sa_cons se_var (sa_cons se_var sa_nil))))
      ss_never)⟩
abbrev s_word_to_rest : Stmt := topS 71
abbrev n_word_to_rest : List Str := ["state", "roots", "rest", "ordered", "person", "steps"]
theorem sc_word_to_rest : FnScope n_word_to_rest ["state", "roots"] (defScope s_word_to_rest) := ⟨rfl, rfl, rfl, by decide +kernel, rfl, by decide +kernel, by decide +kernel⟩
theorem okx_word_to_rest {f : Addr} {fd : FuncData} (F : Fun K "word_to_rest" "word_to_rest" s_word_to_rest f fd) (B : Bi mg)   {C_NoPerson C_OtherSize : Addr} {fx_rest_with : Addr} {ex_rest_with : FuncData} (x_rest_with : CalX P w K mg base (clT [("NoPerson", C_NoPerson), ("OtherSize", C_OtherSize)]) "rest_with" 6 ["state", "roots"] q_rest_withN fx_rest_with ex_rest_with)  : FnOk P w K mg base (L2.CX P w) 7 f fd ["state", "roots"] (spX (clT [("NoPerson", C_NoPerson), ("OtherSize", C_OtherSize)]) 2 q_word_to_restN) := by
  refine okDX (k := 6) (cl := (clT [("NoPerson", C_NoPerson), ("OtherSize", C_OtherSize)])) F sc_word_to_rest rfl (fun cdv A outer s H E hr => ?_) mx_word_to_restN
  exact ⟨_, (pss_cons (ps_set (i := 2) sc_word_to_rest.nd rfl (by first | exact Or.inl rfl | exact Or.inr rfl) (pe_callS x_rest_with.ok (hr.mono (by decide)) (by rfl) x_rest_with.g x_rest_with.kp x_rest_with.bd (fun σ => passAt (takes_of rfl rfl rfl rfl) σ) (pa_cons (pv 0) (pa_cons (pv 1) pa_nil))))
      pss_never),
    fun P0 Ex => (ss_seq (ss_set false (se_callX monx_rest_withN (sa_cons se_var (sa_cons se_var sa_nil))))
      ss_never)⟩
abbrev s_fewest_to_rest : Stmt := topS 70
abbrev n_fewest_to_rest : List Str := ["state", "roots"]
theorem sc_fewest_to_rest : FnScope n_fewest_to_rest ["state", "roots"] (defScope s_fewest_to_rest) := ⟨rfl, rfl, rfl, by decide +kernel, rfl, by decide +kernel, by decide +kernel⟩
theorem okx_fewest_to_rest {f : Addr} {fd : FuncData} (F : Fun K "fewest_to_rest" "fewest_to_rest" s_fewest_to_rest f fd) (B : Bi mg)   {C_NoPerson C_OtherSize : Addr} {fx_people_astray : Addr} {ex_people_astray : FuncData} (x_people_astray : CalX P w K mg base (clT [("NoPerson", C_NoPerson), ("OtherSize", C_OtherSize)]) "people_astray" 7 ["state", "roots"] q_people_astrayN fx_people_astray ex_people_astray)  : FnOk P w K mg base (L2.CX P w) 8 f fd ["state", "roots"] (spX (clT [("NoPerson", C_NoPerson), ("OtherSize", C_OtherSize)]) 2 q_fewest_to_restN) := by
  refine okDX (k := 7) (cl := (clT [("NoPerson", C_NoPerson), ("OtherSize", C_OtherSize)])) F sc_fewest_to_rest rfl (fun cdv A outer s H E hr => ?_) mx_fewest_to_restN
  exact ⟨_, (pss_one (ps_ret (pe_callB (lenK (K := K) rfl) (by rfl) B.len (by decide +kernel) (pa_cons (pe_callS x_people_astray.ok (hr.mono (by decide)) (by rfl) x_people_astray.g x_people_astray.kp x_people_astray.bd (fun σ => passAt (takes_of rfl rfl rfl rfl) σ) (pa_cons (pv 0) (pa_cons (pv 1) pa_nil))) pa_nil)))),
    fun P0 Ex => (ss_ret (se_cb rc_len (sa_cons (se_callX monx_people_astrayN (sa_cons se_var (sa_cons se_var sa_nil))) sa_nil)))⟩
abbrev s_turning : Stmt := topS 51
abbrev n_turning : List Str := ["state", "word", "settled", "person"]
theorem sc_turning : FnScope n_turning ["state", "word"] (defScope s_turning) := ⟨rfl, rfl, rfl, by decide +kernel, rfl, by decide +kernel, by decide +kernel⟩
theorem okx_turning {f : Addr} {fd : FuncData} (F : Fun K "turning" "turning" s_turning f fd) (B : Bi mg)   {C_NoPerson C_OtherSize : Addr} {fx_states_until_settled : Addr} {ex_states_until_settled : FuncData} (x_states_until_settled : CalX P w K mg base (clT [("NoPerson", C_NoPerson), ("OtherSize", C_OtherSize)]) "states_until_settled" 6 ["state", "word"] q_states_until_settledN fx_states_until_settled ex_states_until_settled)  : FnOk P w K mg base (L2.CX P w) 7 f fd ["state", "word"] (spX (clT [("NoPerson", C_NoPerson), ("OtherSize", C_OtherSize)]) 2 q_turningN) := by
  refine okDX (k := 6) (cl := (clT [("NoPerson", C_NoPerson), ("OtherSize", C_OtherSize)])) F sc_turning rfl (fun cdv A outer s H E hr => ?_) mx_turningN
  exact ⟨_, (pss_cons (ps_set (i := 2) sc_turning.nd rfl (by first | exact Or.inl rfl | exact Or.inr rfl) (pe_ix (ixK (K := K) rfl) (pe_callS x_states_until_settled.ok (hr.mono (by decide)) (by rfl) x_states_until_settled.g x_states_until_settled.kp x_states_until_settled.bd (fun σ => passAt (takes_of rfl rfl rfl rfl) σ) (pa_cons (pv 0) (pa_cons (pv 1) pa_nil))) (pe_un un_neg pe_int) (fun _ _ => rfl)))
      pss_never),
    fun P0 Ex => (ss_seq (ss_set false (se_op r2_ix (se_callX monx_states_until_settledN (sa_cons se_var (sa_cons se_var sa_nil))) (se_un ru_neg se_int)))
      ss_never)⟩
abbrev s_settles : Stmt := topS 50
abbrev n_settles : List Str := ["state", "word", "along", "period", "person", "own"]
theorem sc_settles : FnScope n_settles ["state", "word"] (defScope s_settles) := ⟨rfl, rfl, rfl, by decide +kernel, rfl, by decide +kernel, by decide +kernel⟩
theorem okx_settles {f : Addr} {fd : FuncData} (F : Fun K "settles" "settles" s_settles f fd) (B : Bi mg)   {C_NoPerson C_OtherSize : Addr} {fx_states_until_settled : Addr} {ex_states_until_settled : FuncData} (x_states_until_settled : CalX P w K mg base (clT [("NoPerson", C_NoPerson), ("OtherSize", C_OtherSize)]) "states_until_settled" 6 ["state", "word"] q_states_until_settledN fx_states_until_settled ex_states_until_settled)  : FnOk P w K mg base (L2.CX P w) 7 f fd ["state", "word"] (spX (clT [("NoPerson", C_NoPerson), ("OtherSize", C_OtherSize)]) 2 q_settlesN) := by
  refine okDX (k := 6) (cl := (clT [("NoPerson", C_NoPerson), ("OtherSize", C_OtherSize)])) F sc_settles rfl (fun cdv A outer s H E hr => ?_) mx_settlesN
  exact ⟨_, (pss_cons (ps_set (i := 2) sc_settles.nd rfl (by first | exact Or.inl rfl | exact Or.inr rfl) (pe_callS x_states_until_settled.ok (hr.mono (by decide)) (by rfl) x_states_until_settled.g x_states_until_settled.kp x_states_until_settled.bd (fun σ => passAt (takes_of rfl rfl rfl rfl) σ) (pa_cons (pv 0) (pa_cons (pv 1) pa_nil))))
      pss_never),
    fun P0 Ex => (ss_seq (ss_set false (se_callX monx_states_until_settledN (sa_cons se_var (sa_cons se_var sa_nil))))
      ss_never)⟩
abbrev s_law_row : Stmt := topS 84
abbrev n_law_row : List Str := ["_law_door", "_law_start", "_law_row_here"]
theorem sc_law_row : FnScope n_law_row ["_law_door", "_law_start", "_law_row_here"] (defScope s_law_row) := ⟨rfl, rfl, rfl, by decide +kernel, rfl, by decide +kernel, by decide +kernel⟩
theorem okx_law_row {f : Addr} {fd : FuncData} (F : Fun K "_law_row" "_law_row" s_law_row f fd) (B : Bi mg)   {C_NoPerson C_OtherSize : Addr} {fx_called_all : Addr} {ex_called_all : FuncData} (x_called_all : CalX P w K mg base (clT [("NoPerson", C_NoPerson), ("OtherSize", C_OtherSize)]) "called_all" 5 ["state", "word"] q_called_allN fx_called_all ex_called_all) {fx_states_along : Addr} {ex_states_along : FuncData} (x_states_along : CalX P w K mg base (clT [("NoPerson", C_NoPerson), ("OtherSize", C_OtherSize)]) "states_along" 5 ["state", "word"] q_states_alongN fx_states_along ex_states_along) {fx_idle_calls : Addr} {ex_idle_calls : FuncData} (x_idle_calls : CalX P w K mg base (clT [("NoPerson", C_NoPerson), ("OtherSize", C_OtherSize)]) "idle_calls" 6 ["state", "word"] q_idle_callsN fx_idle_calls ex_idle_calls) {fx_settles : Addr} {ex_settles : FuncData} (x_settles : CalX P w K mg base (clT [("NoPerson", C_NoPerson), ("OtherSize", C_OtherSize)]) "settles" 7 ["state", "word"] q_settlesN fx_settles ex_settles) {fx_turning : Addr} {ex_turning : FuncData} (x_turning : CalX P w K mg base (clT [("NoPerson", C_NoPerson), ("OtherSize", C_OtherSize)]) "turning" 7 ["state", "word"] q_turningN fx_turning ex_turning) {fx_rest_with : Addr} {ex_rest_with : FuncData} (x_rest_with : CalX P w K mg base (clT [("NoPerson", C_NoPerson), ("OtherSize", C_OtherSize)]) "rest_with" 6 ["state", "roots"] q_rest_withN fx_rest_with ex_rest_with) {fx_fewest_to_rest : Addr} {ex_fewest_to_rest : FuncData} (x_fewest_to_rest : CalX P w K mg base (clT [("NoPerson", C_NoPerson), ("OtherSize", C_OtherSize)]) "fewest_to_rest" 8 ["state", "roots"] q_fewest_to_restN fx_fewest_to_rest ex_fewest_to_rest) {fx_word_to_rest : Addr} {ex_word_to_rest : FuncData} (x_word_to_rest : CalX P w K mg base (clT [("NoPerson", C_NoPerson), ("OtherSize", C_OtherSize)]) "word_to_rest" 7 ["state", "roots"] q_word_to_restN fx_word_to_rest ex_word_to_rest) {fx_shows_fewest : Addr} {ex_shows_fewest : FuncData} (x_shows_fewest : CalX P w K mg base (clT [("NoPerson", C_NoPerson), ("OtherSize", C_OtherSize)]) "shows_fewest" 8 ["state", "roots", "value"] q_shows_fewestN fx_shows_fewest ex_shows_fewest) {fx_repeated : Addr} {ex_repeated : FuncData} (x_repeated : CalX P w K mg base (clT [("NoPerson", C_NoPerson), ("OtherSize", C_OtherSize)]) "repeated" 7 ["state", "word", "many"] q_repeatedN fx_repeated ex_repeated) {fx_first_time : Addr} {ex_first_time : FuncData} (x_first_time : CalX P w K mg base (clT [("NoPerson", C_NoPerson), ("OtherSize", C_OtherSize)]) "first_time" 7 ["state", "word", "person", "target"] q_first_timeN fx_first_time ex_first_time)  : FnOk P w K mg base (L2.CX P w) 9 f fd ["_law_door", "_law_start", "_law_row_here"] (spX (clT [("NoPerson", C_NoPerson), ("OtherSize", C_OtherSize)]) 3 q_law_row) := by
  refine okDX (k := 8) (cl := (clT [("NoPerson", C_NoPerson), ("OtherSize", C_OtherSize)])) F sc_law_row rfl (fun cdv A outer s H E hr => ?_) mx_law_row
  exact ⟨_, (pss_cons (ps_if (pt_cmpR op_lt (pv 0) pe_int (nomark _)) (pss_one (ps_ret (pe_pick (K := K) (ixK (K := K) rfl) (fun σ => passAt (takes_of rfl rfl rfl rfl) σ) (pks_cons x_called_all.ok (hr.mono (by decide)) (by rfl) x_called_all.g x_called_all.kp x_called_all.bd (pks_cons x_states_along.ok (hr.mono (by decide)) (by rfl) x_states_along.g x_states_along.kp x_states_along.bd (pks_cons x_idle_calls.ok (hr.mono (by decide)) (by rfl) x_idle_calls.g x_idle_calls.kp x_idle_calls.bd (pks_cons x_settles.ok (hr.mono (by decide)) (by rfl) x_settles.g x_settles.kp x_settles.bd (pks_cons x_turning.ok (hr.mono (by decide)) (by rfl) x_turning.g x_turning.kp x_turning.bd pks_nil))))) (pv 0) (fun _ _ => rfl) (pa_cons (pv 1) (pa_cons (pv 2) pa_nil))))) pss_nil)
      (pss_cons (ps_if (pt_cmpR op_lt (pv 0) pe_int (nomark _)) (pss_one (ps_ret (pe_pick (K := K) (ixK (K := K) rfl) (fun σ => passAt (takes_of rfl rfl rfl rfl) σ) (pks_cons x_rest_with.ok (hr.mono (by decide)) (by rfl) x_rest_with.g x_rest_with.kp x_rest_with.bd (pks_cons x_fewest_to_rest.ok (hr.mono (by decide)) (by rfl) x_fewest_to_rest.g x_fewest_to_rest.kp x_fewest_to_rest.bd (pks_cons x_word_to_rest.ok (hr.mono (by decide)) (by rfl) x_word_to_rest.g x_word_to_rest.kp x_word_to_rest.bd pks_nil))) (pe_op op_sub (pv 0) pe_int) (fun _ _ => rfl) (pa_cons (pv 1) (pa_cons (pv 2) pa_nil))))) pss_nil)
      (pss_cons (ps_if (pt_cmpR (eqK (K := K) rfl hr.units) (pv 0) pe_int (nomark _)) (pss_one (ps_ret (pe_callS x_shows_fewest.ok (hr.mono (by decide)) (by rfl) x_shows_fewest.g x_shows_fewest.kp x_shows_fewest.bd (fun σ => passAt (takes_of rfl rfl rfl rfl) σ) (pa_cons (pv 1) (pa_cons (pv 2) (pa_cons (pe_lst pa_nil) pa_nil)))))) pss_nil)
      (pss_one (ps_ret (pe_ifExp (pt_cmpR (eqK (K := K) rfl hr.units) (pv 0) pe_int (nomark _)) (pe_callS x_repeated.ok (hr.mono (by decide)) (by rfl) x_repeated.g x_repeated.kp x_repeated.bd (fun σ => passAt (takes_of rfl rfl rfl rfl) σ) (pa_cons (pv 1) (pa_cons (pv 2) (pa_cons pe_int pa_nil)))) (pe_callS x_first_time.ok (hr.mono (by decide)) (by rfl) x_first_time.g x_first_time.kp x_first_time.bd (fun σ => passAt (takes_of rfl rfl rfl rfl) σ) (pa_cons (pv 1) (pa_cons (pv 2) (pa_cons (pe_un un_neg pe_int) (pa_cons (pe_un un_neg pe_int) pa_nil))))))))))),
    fun P0 Ex => (ss_seq (ss_if (st_test (se_op r2_B se_var se_int)) (ss_ret (se_pickX (axc monx_called_allN (axc monx_states_alongN (axc monx_idle_callsN (axc monx_settlesN (axc monx_turningN axn))))) se_var (sa_cons se_var (sa_cons se_var sa_nil)))) ss_next)
      (ss_seq (ss_if (st_test (se_op r2_B se_var se_int)) (ss_ret (se_pickX (axc monx_rest_withN (axc monx_fewest_to_restN (axc monx_word_to_restN axn))) (se_op r2_I se_var se_int) (sa_cons se_var (sa_cons se_var sa_nil)))) ss_next)
      (ss_seq (ss_if (st_test (se_op r2_eq se_var se_int)) (ss_ret (se_callX monx_shows_fewestN (sa_cons se_var (sa_cons se_var (sa_cons (se_lst sa_nil) sa_nil))))) ss_next)
      (ss_ret (se_if (st_test (se_op r2_eq se_var se_int)) (se_callX monx_repeatedN (sa_cons se_var (sa_cons se_var (sa_cons se_int sa_nil)))) (se_callX monx_first_timeN (sa_cons se_var (sa_cons se_var (sa_cons (se_un ru_neg se_int) (sa_cons (se_un ru_neg se_int) sa_nil))))))))))⟩
abbrev s_check_size : Stmt := topS 34
abbrev n_check_size : List Str := ["state", "other"]
theorem sc_check_size : FnScope n_check_size ["state", "other"] (defScope s_check_size) := ⟨rfl, rfl, rfl, by decide +kernel, rfl, by decide +kernel, by decide +kernel⟩
theorem okx_check_size {f : Addr} {fd : FuncData} (F : Fun K "check_size" "check_size" s_check_size f fd) (B : Bi mg)   {C_NoPerson C_OtherSize : Addr} (r_OtherSize : Ini P w K mg base "OtherSize" "size" C_OtherSize 1) (g_OtherSize : mg "OtherSize" = some (.ref C_OtherSize))  : FnOk P w K mg base (L2.CX P w) 3 f fd ["state", "other"] (spX (clT [("NoPerson", C_NoPerson), ("OtherSize", C_OtherSize)]) 2 q_check_sizeN) := by
  refine okDX (k := 2) (cl := (clT [("NoPerson", C_NoPerson), ("OtherSize", C_OtherSize)])) F sc_check_size rfl (fun cdv A outer s H E hr => ?_) mx_check_sizeN
  exact ⟨_, (pss_one (ps_if (pt_cmpR (neK (K := K) rfl hr.units) (pe_callB (lenK (K := K) rfl) (by rfl) B.len (by decide +kernel) (pa_cons (pv 1) pa_nil)) (pe_callB (lenK (K := K) rfl) (by rfl) B.len (by decide +kernel) (pa_cons (pv 0) pa_nil)) (nomark _)) (pss_one (ps_raise rfl (takes_of rfl rfl rfl rfl) (pmkI (K := K) rfl r_OtherSize g_OtherSize (hr.mono (by decide)) (by rfl) (pa_cons (pe_callB (lenK (K := K) rfl) (by rfl) B.len (by decide +kernel) (pa_cons (pv 1) pa_nil)) pa_nil)))) pss_nil)),
    fun P0 Ex => (ss_if (st_test (se_op r2_ne (se_cb rc_len (sa_cons se_var sa_nil)) (se_cb rc_len (sa_cons se_var sa_nil)))) (ss_raise (by rfl) (se_cb rc_len (sa_cons se_var sa_nil))) ss_next)⟩
abbrev s_pointers_for : Stmt := topS 75
abbrev n_pointers_for : List Str := ["state", "wish", "person", "target"]
theorem sc_pointers_for : FnScope n_pointers_for ["state", "wish", "person"] (defScope s_pointers_for) := ⟨rfl, rfl, rfl, by decide +kernel, rfl, by decide +kernel, by decide +kernel⟩
theorem okx_pointers_for {f : Addr} {fd : FuncData} (F : Fun K "pointers_for" "pointers_for" s_pointers_for f fd) (B : Bi mg)   {C_NoPerson C_OtherSize : Addr} {fx_check_size : Addr} {ex_check_size : FuncData} (x_check_size : CalX P w K mg base (clT [("NoPerson", C_NoPerson), ("OtherSize", C_OtherSize)]) "check_size" 3 ["state", "other"] q_check_sizeN fx_check_size ex_check_size) {fx_check_person : Addr} {ex_check_person : FuncData} (x_check_person : CalX P w K mg base (clT [("NoPerson", C_NoPerson), ("OtherSize", C_OtherSize)]) "check_person" 3 ["state", "person"] q_check_personN fx_check_person ex_check_person)  : FnOk P w K mg base (L2.CX P w) 4 f fd ["state", "wish", "person"] (spX (clT [("NoPerson", C_NoPerson), ("OtherSize", C_OtherSize)]) 3 q_pointers_forN) := by
  refine okDX (k := 3) (cl := (clT [("NoPerson", C_NoPerson), ("OtherSize", C_OtherSize)])) F sc_pointers_for rfl (fun cdv A outer s H E hr => ?_) mx_pointers_forN
  exact ⟨_, (pss_cons (ps_expr (pe_callS x_check_size.ok (hr.mono (by decide)) (by rfl) x_check_size.g x_check_size.kp x_check_size.bd (fun σ => passAt (takes_of rfl rfl rfl rfl) σ) (pa_cons (pv 0) (pa_cons (pv 1) pa_nil))))
      (pss_cons (ps_expr (pe_callS x_check_person.ok (hr.mono (by decide)) (by rfl) x_check_person.g x_check_person.kp x_check_person.bd (fun σ => passAt (takes_of rfl rfl rfl rfl) σ) (pa_cons (pv 0) (pa_cons (pv 2) pa_nil))))
      pss_never)),
    fun P0 Ex => (ss_seq (ss_drop (se_callX monx_check_sizeN (sa_cons se_var (sa_cons se_var sa_nil))))
      (ss_seq (ss_drop (se_callX monx_check_personN (sa_cons se_var (sa_cons se_var sa_nil))))
      ss_never))⟩
abbrev s_person_after : Stmt := topS 18
abbrev n_person_after : List Str := ["state", "person", "steps", "route", "begin"]
theorem sc_person_after : FnScope n_person_after ["state", "person", "steps"] (defScope s_person_after) := ⟨rfl, rfl, rfl, by decide +kernel, rfl, by decide +kernel, by decide +kernel⟩
theorem okx_person_after {f : Addr} {fd : FuncData} (F : Fun K "person_after" "person_after" s_person_after f fd) (B : Bi mg)   {C_NoPerson C_OtherSize : Addr} {fx_check_person : Addr} {ex_check_person : FuncData} (x_check_person : CalX P w K mg base (clT [("NoPerson", C_NoPerson), ("OtherSize", C_OtherSize)]) "check_person" 3 ["state", "person"] q_check_personN fx_check_person ex_check_person)  : FnOk P w K mg base (L2.CX P w) 4 f fd ["state", "person", "steps"] (spX (clT [("NoPerson", C_NoPerson), ("OtherSize", C_OtherSize)]) 3 q_person_afterN) := by
  refine okDX (k := 3) (cl := (clT [("NoPerson", C_NoPerson), ("OtherSize", C_OtherSize)])) F sc_person_after rfl (fun cdv A outer s H E hr => ?_) mx_person_afterN
  exact ⟨_, (pss_cons (ps_expr (pe_callS x_check_person.ok (hr.mono (by decide)) (by rfl) x_check_person.g x_check_person.kp x_check_person.bd (fun σ => passAt (takes_of rfl rfl rfl rfl) σ) (pa_cons (pv 0) (pa_cons (pv 1) pa_nil))))
      pss_never),
    fun P0 Ex => (ss_seq (ss_drop (se_callX monx_check_personN (sa_cons se_var (sa_cons se_var sa_nil))))
      ss_never)⟩
abbrev s_part_of : Stmt := topS 32
abbrev n_part_of : List Str := ["state", "person", "group", "members", "member"]
theorem sc_part_of : FnScope n_part_of ["state", "person"] (defScope s_part_of) := ⟨rfl, rfl, rfl, by decide +kernel, rfl, by decide +kernel, by decide +kernel⟩
theorem okx_part_of {f : Addr} {fd : FuncData} (F : Fun K "part_of" "part_of" s_part_of f fd) (B : Bi mg)   {C_NoPerson C_OtherSize : Addr} {fx_check_person : Addr} {ex_check_person : FuncData} (x_check_person : CalX P w K mg base (clT [("NoPerson", C_NoPerson), ("OtherSize", C_OtherSize)]) "check_person" 3 ["state", "person"] q_check_personN fx_check_person ex_check_person)  : FnOk P w K mg base (L2.CX P w) 4 f fd ["state", "person"] (spX (clT [("NoPerson", C_NoPerson), ("OtherSize", C_OtherSize)]) 2 q_part_ofN) := by
  refine okDX (k := 3) (cl := (clT [("NoPerson", C_NoPerson), ("OtherSize", C_OtherSize)])) F sc_part_of rfl (fun cdv A outer s H E hr => ?_) mx_part_ofN
  exact ⟨_, (pss_cons (ps_expr (pe_callS x_check_person.ok (hr.mono (by decide)) (by rfl) x_check_person.g x_check_person.kp x_check_person.bd (fun σ => passAt (takes_of rfl rfl rfl rfl) σ) (pa_cons (pv 0) (pa_cons (pv 1) pa_nil))))
      pss_never),
    fun P0 Ex => (ss_seq (ss_drop (se_callX monx_check_personN (sa_cons se_var (sa_cons se_var sa_nil))))
      ss_never)⟩
theorem okx_height {f : Addr} {fd : FuncData} (F : Fun K "height" "height" s_height f fd) (B : Bi mg)   {C_NoPerson C_OtherSize : Addr} {fx_check_person : Addr} {ex_check_person : FuncData} (x_check_person : CalX P w K mg base (clT [("NoPerson", C_NoPerson), ("OtherSize", C_OtherSize)]) "check_person" 3 ["state", "person"] q_check_personN fx_check_person ex_check_person)  : FnOk P w K mg base (L2.CX P w) 4 f fd ["state", "person"] (spX (clT [("NoPerson", C_NoPerson), ("OtherSize", C_OtherSize)]) 2 q_heightN) := by
  refine okDX (k := 3) (cl := (clT [("NoPerson", C_NoPerson), ("OtherSize", C_OtherSize)])) F sc_height rfl (fun cdv A outer s H E hr => ?_) mx_heightN
  exact ⟨_, (pss_cons (ps_expr (pe_callS x_check_person.ok (hr.mono (by decide)) (by rfl) x_check_person.g x_check_person.kp x_check_person.bd (fun σ => passAt (takes_of rfl rfl rfl rfl) σ) (pa_cons (pv 0) (pa_cons (pv 1) pa_nil))))
      pss_never),
    fun P0 Ex => (ss_seq (ss_drop (se_callX monx_check_personN (sa_cons se_var (sa_cons se_var sa_nil))))
      ss_never)⟩
abbrev s_ring_of : Stmt := topS 19
abbrev n_ring_of : List Str := ["state", "person", "route", "members"]
theorem sc_ring_of : FnScope n_ring_of ["state", "person"] (defScope s_ring_of) := ⟨rfl, rfl, rfl, by decide +kernel, rfl, by decide +kernel, by decide +kernel⟩
theorem okx_ring_of {f : Addr} {fd : FuncData} (F : Fun K "ring_of" "ring_of" s_ring_of f fd) (B : Bi mg)   {C_NoPerson C_OtherSize : Addr} {fx_check_person : Addr} {ex_check_person : FuncData} (x_check_person : CalX P w K mg base (clT [("NoPerson", C_NoPerson), ("OtherSize", C_OtherSize)]) "check_person" 3 ["state", "person"] q_check_personN fx_check_person ex_check_person)  : FnOk P w K mg base (L2.CX P w) 4 f fd ["state", "person"] (spX (clT [("NoPerson", C_NoPerson), ("OtherSize", C_OtherSize)]) 2 q_ring_ofN) := by
  refine okDX (k := 3) (cl := (clT [("NoPerson", C_NoPerson), ("OtherSize", C_OtherSize)])) F sc_ring_of rfl (fun cdv A outer s H E hr => ?_) mx_ring_ofN
  exact ⟨_, (pss_cons (ps_expr (pe_callS x_check_person.ok (hr.mono (by decide)) (by rfl) x_check_person.g x_check_person.kp x_check_person.bd (fun σ => passAt (takes_of rfl rfl rfl rfl) σ) (pa_cons (pv 0) (pa_cons (pv 1) pa_nil))))
      pss_never),
    fun P0 Ex => (ss_seq (ss_drop (se_callX monx_check_personN (sa_cons se_var (sa_cons se_var sa_nil))))
      ss_never)⟩
abbrev s_way : Stmt := topS 17
abbrev n_way : List Str := ["state", "person"]
theorem sc_way : FnScope n_way ["state", "person"] (defScope s_way) := ⟨rfl, rfl, rfl, by decide +kernel, rfl, by decide +kernel, by decide +kernel⟩
theorem okx_way {f : Addr} {fd : FuncData} (F : Fun K "way" "way" s_way f fd) (B : Bi mg)   {C_NoPerson C_OtherSize : Addr} {fx_check_person : Addr} {ex_check_person : FuncData} (x_check_person : CalX P w K mg base (clT [("NoPerson", C_NoPerson), ("OtherSize", C_OtherSize)]) "check_person" 3 ["state", "person"] q_check_personN fx_check_person ex_check_person)  : FnOk P w K mg base (L2.CX P w) 4 f fd ["state", "person"] (spX (clT [("NoPerson", C_NoPerson), ("OtherSize", C_OtherSize)]) 2 q_wayN) := by
  refine okDX (k := 3) (cl := (clT [("NoPerson", C_NoPerson), ("OtherSize", C_OtherSize)])) F sc_way rfl (fun cdv A outer s H E hr => ?_) mx_wayN
  exact ⟨_, (pss_cons (ps_expr (pe_callS x_check_person.ok (hr.mono (by decide)) (by rfl) x_check_person.g x_check_person.kp x_check_person.bd (fun σ => passAt (takes_of rfl rfl rfl rfl) σ) (pa_cons (pv 0) (pa_cons (pv 1) pa_nil))))
      pss_never),
    fun P0 Ex => (ss_seq (ss_drop (se_callX monx_check_personN (sa_cons se_var (sa_cons se_var sa_nil))))
      ss_never)⟩
abbrev s_law_person : Stmt := topS 83
abbrev n_law_person : List Str := ["_law_door", "_law_start", "_law_odd"]
theorem sc_law_person : FnScope n_law_person ["_law_door", "_law_start", "_law_odd"] (defScope s_law_person) := ⟨rfl, rfl, rfl, by decide +kernel, rfl, by decide +kernel, by decide +kernel⟩
theorem okx_law_person {f : Addr} {fd : FuncData} (F : Fun K "_law_person" "_law_person" s_law_person f fd) (B : Bi mg)   {C_NoPerson C_OtherSize : Addr} {fx_way : Addr} {ex_way : FuncData} (x_way : CalX P w K mg base (clT [("NoPerson", C_NoPerson), ("OtherSize", C_OtherSize)]) "way" 4 ["state", "person"] q_wayN fx_way ex_way) {fx_ring_of : Addr} {ex_ring_of : FuncData} (x_ring_of : CalX P w K mg base (clT [("NoPerson", C_NoPerson), ("OtherSize", C_OtherSize)]) "ring_of" 4 ["state", "person"] q_ring_ofN fx_ring_of ex_ring_of) {fx_height : Addr} {ex_height : FuncData} (x_height : CalX P w K mg base (clT [("NoPerson", C_NoPerson), ("OtherSize", C_OtherSize)]) "height" 4 ["state", "person"] q_heightN fx_height ex_height) {fx_called : Addr} {ex_called : FuncData} (x_called : CalX P w K mg base (clT [("NoPerson", C_NoPerson), ("OtherSize", C_OtherSize)]) "called" 6 ["state", "person"] q_calledN fx_called ex_called) {fx_bypassed : Addr} {ex_bypassed : FuncData} (x_bypassed : CalX P w K mg base (clT [("NoPerson", C_NoPerson), ("OtherSize", C_OtherSize)]) "bypassed" 4 ["state", "person"] q_bypassedN fx_bypassed ex_bypassed) {fx_part_of : Addr} {ex_part_of : FuncData} (x_part_of : CalX P w K mg base (clT [("NoPerson", C_NoPerson), ("OtherSize", C_OtherSize)]) "part_of" 4 ["state", "person"] q_part_ofN fx_part_of ex_part_of) {fx_person_after : Addr} {ex_person_after : FuncData} (x_person_after : CalX P w K mg base (clT [("NoPerson", C_NoPerson), ("OtherSize", C_OtherSize)]) "person_after" 4 ["state", "person", "steps"] q_person_afterN fx_person_after ex_person_after) {fx_pointers_for : Addr} {ex_pointers_for : FuncData} (x_pointers_for : CalX P w K mg base (clT [("NoPerson", C_NoPerson), ("OtherSize", C_OtherSize)]) "pointers_for" 4 ["state", "wish", "person"] q_pointers_forN fx_pointers_for ex_pointers_for) {fx_first_time : Addr} {ex_first_time : FuncData} (x_first_time : CalX P w K mg base (clT [("NoPerson", C_NoPerson), ("OtherSize", C_OtherSize)]) "first_time" 7 ["state", "word", "person", "target"] q_first_timeN fx_first_time ex_first_time)  : FnOk P w K mg base (L2.CX P w) 8 f fd ["_law_door", "_law_start", "_law_odd"] (spX (clT [("NoPerson", C_NoPerson), ("OtherSize", C_OtherSize)]) 3 q_law_person) := by
  refine okDX (k := 7) (cl := (clT [("NoPerson", C_NoPerson), ("OtherSize", C_OtherSize)])) F sc_law_person rfl (fun cdv A outer s H E hr => ?_) mx_law_person
  exact ⟨_, (pss_cons (ps_if (pt_cmpR op_lt (pv 0) pe_int (nomark _)) (pss_one (ps_ret (pe_pick (K := K) (ixK (K := K) rfl) (fun σ => passAt (takes_of rfl rfl rfl rfl) σ) (pks_cons x_way.ok (hr.mono (by decide)) (by rfl) x_way.g x_way.kp x_way.bd (pks_cons x_ring_of.ok (hr.mono (by decide)) (by rfl) x_ring_of.g x_ring_of.kp x_ring_of.bd (pks_cons x_height.ok (hr.mono (by decide)) (by rfl) x_height.g x_height.kp x_height.bd (pks_cons x_called.ok (hr.mono (by decide)) (by rfl) x_called.g x_called.kp x_called.bd (pks_cons x_bypassed.ok (hr.mono (by decide)) (by rfl) x_bypassed.g x_bypassed.kp x_bypassed.bd (pks_cons x_part_of.ok (hr.mono (by decide)) (by rfl) x_part_of.g x_part_of.kp x_part_of.bd pks_nil)))))) (pv 0) (fun _ _ => rfl) (pa_cons (pv 1) (pa_cons (pv 2) pa_nil))))) pss_nil)
      (pss_cons (ps_if (pt_cmpR op_lt (pv 0) pe_int (nomark _)) (pss_one (ps_ret (pe_ifExp (pt_cmpR (eqK (K := K) rfl hr.units) (pv 0) pe_int (nomark _)) (pe_callS x_person_after.ok (hr.mono (by decide)) (by rfl) x_person_after.g x_person_after.kp x_person_after.bd (fun σ => passAt (takes_of rfl rfl rfl rfl) σ) (pa_cons (pv 1) (pa_cons (pv 2) (pa_cons pe_int pa_nil)))) (pe_callS x_pointers_for.ok (hr.mono (by decide)) (by rfl) x_pointers_for.g x_pointers_for.kp x_pointers_for.bd (fun σ => passAt (takes_of rfl rfl rfl rfl) σ) (pa_cons (pv 1) (pa_cons (pe_op (mulTK (K := K) rfl) (pe_tupS (pa_cons pe_non pa_nil)) (pe_callB (lenK (K := K) rfl) (by rfl) B.len (by decide +kernel) (pa_cons (pv 1) pa_nil))) (pa_cons (pv 2) pa_nil))))))) pss_nil)
      (pss_one (ps_ret (pe_ifExp (pt_cmpR (eqK (K := K) rfl hr.units) (pv 0) pe_int (nomark _)) (pe_callS x_first_time.ok (hr.mono (by decide)) (by rfl) x_first_time.g x_first_time.kp x_first_time.bd (fun σ => passAt (takes_of rfl rfl rfl rfl) σ) (pa_cons (pv 1) (pa_cons (pe_lst pa_nil) (pa_cons (pv 2) (pa_cons (pe_un un_neg pe_int) pa_nil))))) (pe_callS x_first_time.ok (hr.mono (by decide)) (by rfl) x_first_time.g x_first_time.kp x_first_time.bd (fun σ => passAt (takes_of rfl rfl rfl rfl) σ) (pa_cons (pv 1) (pa_cons (pe_lst pa_nil) (pa_cons pe_int (pa_cons (pv 2) pa_nil)))))))))),
    fun P0 Ex => (ss_seq (ss_if (st_test (se_op r2_B se_var se_int)) (ss_ret (se_pickX (axc monx_wayN (axc monx_ring_ofN (axc monx_heightN (axc monx_calledN (axc monx_bypassedN (axc monx_part_ofN axn)))))) se_var (sa_cons se_var (sa_cons se_var sa_nil)))) ss_next)
      (ss_seq (ss_if (st_test (se_op r2_B se_var se_int)) (ss_ret (se_if (st_test (se_op r2_eq se_var se_int)) (se_callX monx_person_afterN (sa_cons se_var (sa_cons se_var (sa_cons se_int sa_nil)))) (se_callX monx_pointers_forN (sa_cons se_var (sa_cons (se_op r2_mulT (se_tup (sa_cons se_non sa_nil)) (se_cb rc_len (sa_cons se_var sa_nil))) (sa_cons se_var sa_nil)))))) ss_next)
      (ss_ret (se_if (st_test (se_op r2_eq se_var se_int)) (se_callX monx_first_timeN (sa_cons se_var (sa_cons (se_lst sa_nil) (sa_cons se_var (sa_cons (se_un ru_neg se_int) sa_nil))))) (se_callX monx_first_timeN (sa_cons se_var (sa_cons (se_lst sa_nil) (sa_cons se_int (sa_cons se_var sa_nil)))))))))⟩
abbrev s_law_refused : Stmt := topS 86
abbrev n_law_refused : List Str := ["_law_kind", "_law_door", "_law_start", "_law_thing", "_law_row_here", "_law_caught", "error"]
theorem sc_law_refused : FnScope n_law_refused ["_law_kind", "_law_door", "_law_start", "_law_thing", "_law_row_here"] (defScope s_law_refused) := ⟨rfl, rfl, rfl, by decide +kernel, rfl, by decide +kernel, by decide +kernel⟩
theorem ok_law_refused {f : Addr} {fd : FuncData} (F : Fun K "_law_refused" "_law_refused" s_law_refused f fd) (B : Bi mg)   {C_IsRoot C_MissingRoot C_NoNumber C_NoPerson C_NoRoot C_OtherSize : Addr} (xcs : AllL (fun _ C => ExcC K C) [("NoPerson", C_NoPerson), ("OtherSize", C_OtherSize)]) (g_IsRoot : mg "IsRoot" = some (.ref C_IsRoot)) (g_MissingRoot : mg "MissingRoot" = some (.ref C_MissingRoot)) (g_NoNumber : mg "NoNumber" = some (.ref C_NoNumber)) (g_NoPerson : mg "NoPerson" = some (.ref C_NoPerson)) (g_NoRoot : mg "NoRoot" = some (.ref C_NoRoot)) (g_OtherSize : mg "OtherSize" = some (.ref C_OtherSize)) (e_IsRoot_MissingRoot_NoNumber_NoPerson_NoRoot_OtherSize : AllL (fun n C => (["IsRoot", "MissingRoot", "NoNumber", "NoPerson", "NoRoot", "OtherSize"] : List Str).contains n = true → PySem.W.exmAny K (.ref C) [.ref C_IsRoot, .ref C_MissingRoot, .ref C_NoNumber, .ref C_NoPerson, .ref C_NoRoot, .ref C_OtherSize] = some true) [("NoPerson", C_NoPerson), ("OtherSize", C_OtherSize)]) {fx_law_person : Addr} {ex_law_person : FuncData} (x_law_person : CalX P w K mg base (clT [("NoPerson", C_NoPerson), ("OtherSize", C_OtherSize)]) "_law_person" 8 ["_law_door", "_law_start", "_law_odd"] q_law_person fx_law_person ex_law_person) {fx_law_row : Addr} {ex_law_row : FuncData} (x_law_row : CalX P w K mg base (clT [("NoPerson", C_NoPerson), ("OtherSize", C_OtherSize)]) "_law_row" 9 ["_law_door", "_law_start", "_law_row_here"] q_law_row fx_law_row ex_law_row) {fx_law_hall : Addr} {ex_law_hall : FuncData} (x_law_hall : CalX P w K mg base (clT [("NoPerson", C_NoPerson), ("OtherSize", C_OtherSize)]) "_law_hall" 11 ["_law_door", "_law_hall_here", "_law_odd", "_law_row_here"] q_law_hall fx_law_hall ex_law_hall) (i_NoPerson : AllL (fun n C => PySem.W.kitOne K (.ref C) (.ref C_NoPerson) = some (subX n "NoPerson")) [("NoPerson", C_NoPerson), ("OtherSize", C_OtherSize)]) (j_NoPerson : PySem.W.kitOne K (.type "NoneType") (.ref C_NoPerson) = some false) (i_IsRoot_MissingRoot_NoNumber_NoRoot_OtherSize : AllL (fun n C => PySem.W.kitAny K (.ref C) [.ref C_IsRoot, .ref C_MissingRoot, .ref C_NoNumber, .ref C_NoRoot, .ref C_OtherSize] = some ((["IsRoot", "MissingRoot", "NoNumber", "NoRoot", "OtherSize"] : List Str).any (subX n))) [("NoPerson", C_NoPerson), ("OtherSize", C_OtherSize)]) (j_IsRoot_MissingRoot_NoNumber_NoRoot_OtherSize : PySem.W.kitAny K (.type "NoneType") [.ref C_IsRoot, .ref C_MissingRoot, .ref C_NoNumber, .ref C_NoRoot, .ref C_OtherSize] = some false) (i_LookupError : AllL (fun n C => PySem.W.kitOne K (.ref C) (.type "LookupError") = some (subX n "LookupError")) [("NoPerson", C_NoPerson), ("OtherSize", C_OtherSize)]) (j_LookupError : PySem.W.kitOne K (.type "NoneType") (.type "LookupError") = some false) (z_LookupError : mg "LookupError" = none) (at_person : AllL (fun _ C => XfC K C ∧ PySem.W.findIn K (.ref C) "person" = some none) [("NoPerson", C_NoPerson), ("OtherSize", C_OtherSize)])  : FnOk P w K mg base CX0 12 f fd ["_law_kind", "_law_door", "_law_start", "_law_thing", "_law_row_here"] (spD 5 p_law_refused_9) := by
  refine okDC (cl := (clT [("NoPerson", C_NoPerson), ("OtherSize", C_OtherSize)])) (k := 11) F sc_law_refused rfl (fun cdv A outer s H E hr => ?_) m_law_refused_9
  exact ⟨_, (pss_cons (ps_set (i := 5) sc_law_refused.nd rfl (by first | exact Or.inl rfl | exact Or.inr rfl) pe_non)
      (pss_cons (ps_try_tup (i := 6) (ts := fun _ _ _ => tAsg (tVar 6) (gName 5)) rfl rfl sc_law_refused.nd rfl rfl rfl (tst_6 ⟨by rfl, by decide, .inl g_IsRoot⟩ ⟨by rfl, by decide, .inl g_MissingRoot⟩ ⟨by rfl, by decide, .inl g_NoNumber⟩ ⟨by rfl, by decide, .inl g_NoPerson⟩ ⟨by rfl, by decide, .inl g_NoRoot⟩ ⟨by rfl, by decide, .inl g_OtherSize⟩) (fun W pn xe tk1 pw1 => (pss_one (ps_if (pt_cmpR (eqK (K := K) rfl hr.units) (pv 0) pe_int (nomark _)) (pss_one (ps_expr (pe_callS x_law_person.ok (hr.mono (by decide)) (by rfl) x_law_person.g x_law_person.kp x_law_person.bd (fun σ => passAt tk1 σ) (pa_cons (pv 1) (pa_cons (pv 2) (pa_cons (pv 3) pa_nil)))))) (pss_one (ps_if (pt_cmpR (eqK (K := K) rfl hr.units) (pv 0) pe_int (nomark _)) (pss_one (ps_expr (pe_callS x_law_row.ok (hr.mono (by decide)) (by rfl) x_law_row.g x_law_row.kp x_law_row.bd (fun σ => passAt tk1 σ) (pa_cons (pv 1) (pa_cons (pv 2) (pa_cons (pv 4) pa_nil)))))) (pss_one (ps_expr (pe_callS x_law_hall.ok (hr.mono (by decide)) (by rfl) x_law_hall.g x_law_hall.kp x_law_hall.bd (fun σ => passAt tk1 σ) (pa_cons (pv 1) (pa_cons (pv 3) (pa_cons (pe_un un_neg pe_int) (pa_cons (pv 4) pa_nil)))))))))))) (fun a oe cls d pn hz hf => pss_one (ps_set (i := 5) sc_law_refused.nd rfl (by first | exact Or.inl rfl | exact Or.inr rfl) (pv 6))))
      (pss_cons (ps_if (PW.pt (pw_or (pt_not (pt_truth (pe_callB (isXK (K := K) rfl) (by rfl) B.isinstance (by decide +kernel) (pa_cons (pv 5) (pa_cons (pe_glob (v := .ref C_NoPerson) (by rfl) g_NoPerson rfl) pa_nil))) (by intro _; rfl))) (pw_or1 (pt_truth (pe_callB (isXTK (K := K) rfl) (by rfl) B.isinstance (by decide +kernel) (pa_cons (pv 5) (pa_cons (pe_tup (pa_cons (pe_glob (v := .ref C_IsRoot) (by rfl) g_IsRoot rfl) (pa_cons (pe_glob (v := .ref C_MissingRoot) (by rfl) g_MissingRoot rfl) (pa_cons (pe_glob (v := .ref C_NoNumber) (by rfl) g_NoNumber rfl) (pa_cons (pe_glob (v := .ref C_NoRoot) (by rfl) g_NoRoot rfl) (pa_cons (pe_glob (v := .ref C_OtherSize) (by rfl) g_OtherSize rfl) pa_nil)))))) pa_nil))) (by intro _; rfl))))) (pss_one (ps_ret pe_non)) pss_nil)
      (pss_one (ps_ret (pe_ifExp (pt_truth (pe_callB (isXK (K := K) rfl) (by rfl) B.isinstance (by decide +kernel) (pa_cons (pv 5) (pa_cons (pe_bltn (v := .ty "LookupError") (by rfl) z_LookupError (by decide +kernel) rfl) pa_nil))) (by intro _; rfl)) (xgK (K := K) rfl (pe_xg (pv 5))) pe_non)))))),
    (ss_seq (ss_set false se_non)
      (ss_seq (ss_try (fun nm C h1 h2 => allL e_IsRoot_MissingRoot_NoNumber_NoPerson_NoRoot_OtherSize nm C h2 h1) (fun P0 W Ex1 => (ss_if (st_test (se_op r2_eq se_var se_int)) (ss_drop (se_callX monx_law_person (sa_cons se_var (sa_cons se_var (sa_cons se_var sa_nil))))) (ss_if (st_test (se_op r2_eq se_var se_int)) (ss_drop (se_callX monx_law_row (sa_cons se_var (sa_cons se_var (sa_cons se_var sa_nil))))) (ss_drop (se_callX monx_law_hall (sa_cons se_var (sa_cons se_var (sa_cons (se_un ru_neg se_int) (sa_cons se_var sa_nil))))))))))
      (ss_seq (ss_if (st_or (st_not (st_truth (se_isX (allL xcs) (.own C_NoPerson) (allL i_NoPerson) j_NoPerson se_var))) (st_truth (se_isXT (cs := [.ref C_IsRoot, .ref C_MissingRoot, .ref C_NoNumber, .ref C_NoRoot, .ref C_OtherSize]) (allL xcs) (.cons (.own C_IsRoot) (.cons (.own C_MissingRoot) (.cons (.own C_NoNumber) (.cons (.own C_NoRoot) (.cons (.own C_OtherSize) .nil))))) (allL i_IsRoot_MissingRoot_NoNumber_NoRoot_OtherSize) j_IsRoot_MissingRoot_NoNumber_NoRoot_OtherSize se_var (hl := (by decide : 5 ≤ PySem.sizeLine))))) (ss_ret se_non) ss_next)
      (ss_ret (se_if (st_truth (se_isX (allL xcs) (.ty "LookupError") (allL i_LookupError) j_LookupError se_var)) (se_attr (allL at_person) se_var) se_non)))))⟩
abbrev s_law_right : Stmt := topS 87
abbrev n_law_right : List Str := ["_law_source", "_law_size", "_law_start", "_law_odd", "_law_row_here", "_law_turn", "_law_door", "_law_hall_here", "_law_found"]
theorem sc_law_right : FnScope n_law_right ["_law_source"] (defScope s_law_right) := ⟨rfl, rfl, rfl, by decide +kernel, rfl, by decide +kernel, by decide +kernel⟩
theorem ok_law_right {f : Addr} {fd : FuncData} (F : Fun K "_law_right" "_law_right" s_law_right f fd) (B : Bi mg) {f_law_draw : Addr} {e_law_draw : FuncData} (c_law_draw : Cal P w K mg base "_law_draw" 2 ["_law_source", "_law_bound"] (spD 2 p_law_take) f_law_draw e_law_draw) {f_law_random_state : Addr} {e_law_random_state : FuncData} (c_law_random_state : Cal P w K mg base "_law_random_state" 4 ["_law_source", "_law_size"] (spD 2 p_law_random_state) f_law_random_state e_law_random_state) {f_law_same : Addr} {e_law_same : FuncData} (c_law_same : Cal P w K mg base "_law_same" 4 ["_law_found", "_law_due"] (spD 2 (p_law_same_3 3)) f_law_same e_law_same) {f_law_refused : Addr} {e_law_refused : FuncData} (c_law_refused : Cal P w K mg base "_law_refused" 12 ["_law_kind", "_law_door", "_law_start", "_law_thing", "_law_row_here"] (spD 5 p_law_refused_9) f_law_refused e_law_refused)  {C_NoPerson C_OtherSize : Addr} {CiC : Addr} (hF_Circle : FN "Circle" = .ref CiC) {fCi : Addr} {eCi : FuncData} (ci : CirI P w K mg base CiC fCi eCi) {fp_state : Addr} {ep_state : FuncData} (p_state : CirP P w K mg base CiC "state" p_ci_state fp_state ep_state) {fp_deeds : Addr} {ep_deeds : FuncData} (p_deeds : CirP P w K mg base CiC "deeds" p_ci_deeds fp_deeds ep_deeds)  : FnOk P w K mg base CX0 13 f fd ["_law_source"] (spD 1 p_k98_law_right) := by
  refine okDC (cl := (clT [("NoPerson", C_NoPerson), ("OtherSize", C_OtherSize)])) (k := 12) F sc_law_right rfl (fun cdv A outer s H E hr => ?_) m_k98_law_right
  exact ⟨_, (pss_cons (ps_set (i := 1) sc_law_right.nd rfl (by first | exact Or.inl rfl | exact Or.inr rfl) (pe_op (addK (K := K) rfl) pe_int (pe_call c_law_draw.ok (hr.mono (by decide)) (by rfl) c_law_draw.g c_law_draw.kp c_law_draw.bd .nil pass0 (pa_cons (pv 0) (pa_cons pe_int pa_nil)))))
      (pss_cons (ps_set (i := 2) sc_law_right.nd rfl (by first | exact Or.inl rfl | exact Or.inr rfl) (pe_call c_law_random_state.ok (hr.mono (by decide)) (by rfl) c_law_random_state.g c_law_random_state.kp c_law_random_state.bd .nil pass0 (pa_cons (pv 0) (pa_cons (pv 1) pa_nil))))
      (pss_cons (ps_for PassesOwn.never rfl (seqK (K := K) rfl (pe_tupS (pa_cons (pe_un un_neg pe_int) (pa_cons (pv 1) (pa_cons (pe_op (addK (K := K) rfl) (pv 1) pe_int) (pa_cons (pe_op op_pow pe_int pe_int) (pa_cons (pe_op op_sub pe_int (pv 1)) pa_nil))))))) (pg_name (i := 3) sc_law_right.nd rfl (by first | exact Or.inl rfl | exact Or.inr rfl)) (pss_cons (ps_set (i := 4) sc_law_right.nd rfl (by first | exact Or.inl rfl | exact Or.inr rfl) (pe_op (addK (K := K) rfl) (pe_lc (own := [("_law_turn", 5)]) (by rfl) sc_law_right.nd (pi_range1 (by rfl) B.range (pa_cons (pe_call c_law_draw.ok (hr.mono (by decide)) (by rfl) c_law_draw.g c_law_draw.kp c_law_draw.bd .nil pass0 (pa_cons (pv 0) (pa_cons pe_int pa_nil))) pa_nil)) (blkOk_by (own := [("_law_turn", 5)]) (N := n_law_right) (sc := (defScope s_law_right)) (by decide +kernel)) (fun _ _ _ _ _ => (pg_name (i := 5) sc_law_right.nd rfl (by first | exact Or.inl rfl | exact Or.inr rfl))) (fun _ _ _ _ _ => pts_nil) (fun _ _ _ _ _ => (pe_call c_law_draw.ok (hr.mono (by decide)) (by rfl) c_law_draw.g c_law_draw.kp c_law_draw.bd .nil pass0 (pa_cons (pv 0) (pa_cons (pv 1) pa_nil))))) (pe_lst (pa_cons (pv 3) (pa_cons (pe_un un_neg pe_int) pa_nil)))))
      (pss_cons (ps_expr (bmK (K := K) rfl (pe_bm PySem.F.plainAttrs_list PySem.F.slot_list_append PySem.F.type_list_append mt_append (pv 4) (pa_cons (pe_call c_law_draw.ok (hr.mono (by decide)) (by rfl) c_law_draw.g c_law_draw.kp c_law_draw.bd .nil pass0 (pa_cons (pv 0) (pa_cons (pv 1) pa_nil))) pa_nil))))
      (pss_cons (ps_if (pt_not (pt_truth (pe_call c_law_same.ok (hr.mono (by decide)) (by rfl) c_law_same.g c_law_same.kp c_law_same.bd .nil pass0 (pa_cons (pe_lc (own := [("_law_door", 6)]) (by rfl) sc_law_right.nd (pi_range1 (by rfl) B.range (pa_cons pe_int pa_nil)) (blkOk_by (own := [("_law_door", 6)]) (N := n_law_right) (sc := (defScope s_law_right)) (by decide +kernel)) (fun _ _ _ _ _ => (pg_name (i := 6) sc_law_right.nd rfl (by first | exact Or.inl rfl | exact Or.inr rfl))) (fun _ _ _ _ _ => pts_nil) (fun _ _ _ _ _ => (pe_call c_law_refused.ok (hr.mono (by decide)) (by rfl) c_law_refused.g c_law_refused.kp c_law_refused.bd .nil pass0 (pa_cons pe_int (pa_cons (pv 6) (pa_cons (pv 2) (pa_cons (pv 3) (pa_cons (pe_lst pa_nil) pa_nil)))))))) (pa_cons (pe_op op_mulA (pe_lst (pa_cons (pv 3) pa_nil)) pe_int) pa_nil))) (by intro _; rfl))) (pss_one (ps_ret pe_bl)) pss_nil)
      (pss_cons (ps_if (pt_not (pt_truth (pe_call c_law_same.ok (hr.mono (by decide)) (by rfl) c_law_same.g c_law_same.kp c_law_same.bd .nil pass0 (pa_cons (pe_lc (own := [("_law_door", 6)]) (by rfl) sc_law_right.nd (pi_range1 (by rfl) B.range (pa_cons pe_int pa_nil)) (blkOk_by (own := [("_law_door", 6)]) (N := n_law_right) (sc := (defScope s_law_right)) (by decide +kernel)) (fun _ _ _ _ _ => (pg_name (i := 6) sc_law_right.nd rfl (by first | exact Or.inl rfl | exact Or.inr rfl))) (fun _ _ _ _ _ => pts_nil) (fun _ _ _ _ _ => (pe_call c_law_refused.ok (hr.mono (by decide)) (by rfl) c_law_refused.g c_law_refused.kp c_law_refused.bd .nil pass0 (pa_cons pe_int (pa_cons (pv 6) (pa_cons (pv 2) (pa_cons pe_int (pa_cons (pv 4) pa_nil)))))))) (pa_cons (pe_op op_mulA (pe_lst (pa_cons (pv 3) pa_nil)) pe_int) pa_nil))) (by intro _; rfl))) (pss_one (ps_ret pe_bl)) pss_nil)
      (pss_cons (ps_set (i := 7) sc_law_right.nd rfl (by first | exact Or.inl rfl | exact Or.inr rfl) (pe_make ci.mkr ci.ok (hr.mono (by decide)) (by rfl) ci.g ci.bd .nil pass0 (pa_cons (pv 2) pa_nil)))
      (pss_cons (ps_setLc (i := 8) (own := [("_law_door", 6)]) (by rfl) sc_law_right.nd rfl rfl (sw_true rfl rfl rfl (by decide +kernel)) (pi_range1 (by rfl) B.range (pa_cons pe_int pa_nil)) (blkOk_by (own := [("_law_door", 6)]) (N := n_law_right) (sc := (defScope s_law_right)) (by decide +kernel)) (fun _ _ _ _ _ => (pg_name (i := 6) sc_law_right.nd rfl (by first | exact Or.inl rfl | exact Or.inr rfl))) (fun _ _ _ _ _ => pts_nil) (fun _ _ _ _ _ => (pe_call c_law_refused.ok (hr.mono (by decide)) (by rfl) c_law_refused.g c_law_refused.kp c_law_refused.bd .nil pass0 (pa_cons pe_int (pa_cons (pv 6) (pa_cons (pv 2) (pa_cons (pv 7) (pa_cons (pv 4) pa_nil))))))))
      (pss_one (ps_if (PW.pt (pw_or (pt_not (pt_truth (pe_call c_law_same.ok (hr.mono (by decide)) (by rfl) c_law_same.g c_law_same.kp c_law_same.bd .nil pass0 (pa_cons (pv 8) (pa_cons (pe_op (addK (K := K) rfl) (pe_op op_mulA (pe_lst (pa_cons (pe_un un_neg pe_int) pa_nil)) pe_int) (pe_op op_mulA (pe_lst (pa_cons (pv 3) pa_nil)) pe_int)) pa_nil))) (by intro _; rfl))) (pw_or (pt_cmpR (neK (K := K) rfl hr.units) (pe_meth0 (pv 7) p_state.T.cl p_state.mt p_state.ok (hr.mono (by decide)) p_state.bd .nil pass0) (pv 2) (nomark _)) (pw_or1 (pt_cmpR (neK (K := K) rfl hr.units) (pe_meth0 (pv 7) p_deeds.T.cl p_deeds.mt p_deeds.ok (hr.mono (by decide)) p_deeds.bd .nil pass0) pe_int (nomark _)))))) (pss_one (ps_ret pe_bl)) pss_nil)))))))))
      (pss_one (ps_ret pe_bl))))),
    (ss_seq (ss_set false (se_op r2_add se_int (se_call mon_law_take (sa_cons se_var (sa_cons se_int sa_nil)))))
      (ss_seq (ss_set false (se_call mon_law_random_state (sa_cons se_var (sa_cons se_var sa_nil))))
      (ss_seq (ss_for (si_seq (se_tup (sa_cons (se_un ru_neg se_int) (sa_cons se_var (sa_cons (se_op r2_add se_var se_int) (sa_cons (se_op r2_C se_int se_int) (sa_cons (se_op r2_I se_int se_var) sa_nil))))))) sg_name (ss_seq (ss_set true (se_op r2_add (se_lc (si_rng1 (sa_cons (se_call mon_law_take (sa_cons se_var (sa_cons se_int sa_nil))) sa_nil)) sg_name st_yes (se_call mon_law_take (sa_cons se_var (sa_cons se_var sa_nil)))) (se_lst (sa_cons se_var (sa_cons (se_un ru_neg se_int) sa_nil)))))
      (ss_seq (ss_append (se_call mon_law_take (sa_cons se_var (sa_cons se_var sa_nil))))
      (ss_seq (ss_if (st_not (st_truth (se_call (mon_law_same_3 3) (sa_cons (se_lc (si_rng1 (sa_cons se_int sa_nil)) sg_name st_yes (se_call mon_law_refused_9 (sa_cons se_int (sa_cons se_var (sa_cons se_var (sa_cons se_var (sa_cons (se_lst sa_nil) sa_nil))))))) (sa_cons (se_op r2_mul (se_lst (sa_cons se_var sa_nil)) se_int) sa_nil))))) (ss_ret se_bl) ss_next)
      (ss_seq (ss_if (st_not (st_truth (se_call (mon_law_same_3 3) (sa_cons (se_lc (si_rng1 (sa_cons se_int sa_nil)) sg_name st_yes (se_call mon_law_refused_9 (sa_cons se_int (sa_cons se_var (sa_cons se_var (sa_cons se_int (sa_cons se_var sa_nil))))))) (sa_cons (se_op r2_mul (se_lst (sa_cons se_var sa_nil)) se_int) sa_nil))))) (ss_ret se_bl) ss_next)
      (ss_seq (ss_set false (se_mkCir hF_Circle se_var))
      (ss_seq (ss_set false (se_lc (si_rng1 (sa_cons se_int sa_nil)) sg_name st_yes (se_call mon_law_refused_9 (sa_cons se_int (sa_cons se_var (sa_cons se_var (sa_cons se_var (sa_cons se_var sa_nil))))))))
      (ss_if (st_or (st_not (st_truth (se_call (mon_law_same_3 3) (sa_cons se_var (sa_cons (se_op r2_add (se_op r2_mul (se_lst (sa_cons (se_un ru_neg se_int) sa_nil)) se_int) (se_op r2_mul (se_lst (sa_cons se_var sa_nil)) se_int)) sa_nil))))) (st_or (st_test (se_op r2_ne (se_meth hF_Circle (by decide +kernel) (by decide +kernel) mon_ci_state se_var) se_var)) (st_test (se_op r2_ne (se_meth hF_Circle (by decide +kernel) (by decide +kernel) mon_ci_deeds se_var) se_int)))) (ss_ret se_bl) ss_next))))))))
      (ss_ret se_bl))))⟩
abbrev s_law : Stmt := topS 88
abbrev nLaw : List Str := ["_law_script", "_law_cells", "_law_k", "_law_source", "_law_turn"]
theorem scLaw : FnScope nLaw ["_law_script"] (defScope s_law) := ⟨rfl, rfl, rfl, by decide +kernel, rfl, by decide +kernel, by decide +kernel⟩
theorem ok_law {f fC fB fR : Addr} {fd fdC fdB fdR : FuncData} (F : Fun K "law" "law" s_law f fd) (B : Bi mg) (C : Cal P w K mg base "_law_folded" 1 ["_law_script", "_law_most"] (spCells K) fC fdC)
    (X : Cal P w K mg base "_law_stream" 1 ["_law_script", "_law_k"] (spBox K) fB fdB) (R : Cal P w K mg base "_law_right" 13 ["_law_source"] (spD 1 p_k98_law_right) fR fdR) : FnOk P w K mg base CX0 14 f fd ["_law_script"] (spLaw K) := by
  refine Fun.ok (k := 13) F scLaw (fun vs H Q E h => ?_) (fun cdv A outer s H vs Q E hr h => ?_)
  · obtain ⟨a, ns, rfl, _⟩ := h
    rfl
  · obtain ⟨a, ns, rfl, hS, hl, q⟩ := h
    refine ⟨_, pss_cons (ps_set (i := 1) scLaw.nd rfl (.inl rfl) (pe_call C.ok (hr.mono (by decide)) (by rfl) C.g C.kp C.bd .nil pass0 (pa_cons (pv 0) (pa_cons pe_int pa_nil))))
      (pss_cons (ps_for PassesOwn.never rfl (pi_range1 (by rfl) B.range (pa_cons (pe_callB call_len_seq (by rfl) B.len PySem.boot_len (pa_cons (pv 1) pa_nil)) pa_nil)) (pg_name (i := 2) scLaw.nd rfl (.inl rfl))
        (pss_cons (ps_set (i := 3) scLaw.nd rfl (.inr rfl) (pe_call X.ok (hr.mono (by decide)) (by rfl) X.g X.kp X.bd .nil pass0 (pa_cons (pv 1) (pa_cons (pv 2) pa_nil))))
        (pss_one (ps_if (pt_not (pt_val (pe_callB (cr_all rfl) (by rfl) B.all (by decide +kernel) (pa_cons (pe_lc (own := [("_law_turn", 4)]) (g := gName 4) (tt := tYes) (by rfl) scLaw.nd (pi_range1 (by rfl) B.range (pa_cons pe_int pa_nil)) (blkOk_by (own := [("_law_turn", 4)]) (N := nLaw) (sc := defScope s_law) (by decide +kernel))
          (fun _ _ _ _ _ => pg_name (i := 4) scLaw.nd rfl (Or.inl rfl)) (fun _ _ _ _ _ => pts_nil) (fun _ _ _ _ _ => pe_call R.ok hr (by rfl) R.g R.kp R.bd .nil pass0 (pa_cons (pv 3) pa_nil))) pa_nil)))) pss_never pss_nil))))
      (pss_one (ps_ret pe_bl))), ?_⟩
    refine ⟨.ref a, rfl, a, _, ns, rfl, hS, by decide, by decide, fun H1 cA ms s1 nc hc l1 l2 => ?_⟩
    refine ⟨.ref cA, rfl, cA, _, rfl, .inl (SqL.of hc), _, rfl, ?_, ?_, ?_⟩
    · rw [List.length_map]; omega
    · rw [List.length_map]; omega
    refine for_it (walk_range (lo := 0)) (fun _ σ H3 => ∃ y2 y3, σ = [some (.ref a), some (.ref cA), y2, y3, none] ∧ H3 cA = some (.lst (IL ms))) ?_ ?_ ?_ ?_
    · exact ⟨none, none, rfl, hc⟩
    · intros; trivial
    · rintro i x σ H0 G hi ⟨y2, y3, rfl, hcG⟩ ⟨rfl, rfl⟩
      rw [List.length_map] at hi
      refine ⟨.ref cA, rfl, .int (0 + i), rfl, cA, _, ms, rfl, SqL.of hcG, by omega, by omega, fun H4 b s4 nb hB => ?_⟩
      have hc4 := s4 _ _ hcG
      have cb : cA ≠ b := ne_of_none hcG nb
      refine ⟨_, rfl, by decide, by decide, fun D nD => ?_⟩
      have bD : b ≠ D := hB.ne nD
      have cD : cA ≠ D := ne_of_none hc4 nD
      refine lc_range (lo := 0) (fun j H5 => H5 D = some (.lst (List.replicate j (.bl true))) ∧ Box H5 b (1000000 * j) ∧ H5 cA = some (.lst (IL ms))) ⟨upd_same, (hB.new nD).le (by omega), upd_keep hc4 nD⟩ ?_ ?_
      · rintro j H5 hj ⟨hD, hB5, hc5⟩
        have hj' : j < 2 := hj
        refine ⟨rfl, yes_ok ⟨.ref b, rfl, right_do2 (E := fun _ _ _ => False) (N := 1000000) hB5 (fun Q hQ => ⟨rfl, by omega, hQ⟩) fun H6 sb6 hB6 => ?_⟩⟩
        have hD6 := sb6 D _ (Ne.symm bD) hD
        refine ⟨_, hD6, ?_, ?_, ?_, ?_⟩
        · rw [List.length_replicate]; exact szl (by omega)
        · rw [upd_same, rep_app]
        · exact (hB6.put bD).le (by omega)
        · rw [upd_ne cD]; exact sb6 cA _ cb hc5
      · rintro H5 ⟨hD, hB5, hc5⟩
        refine ⟨D, List.replicate 2 true, rfl, ?_, true, ?_, iteF ⟨_, _, rfl, hc5⟩⟩
        · rw [rep_bl]; exact SqL.of hD
        · rw [rep_all]
    · rintro σ H3 ⟨y2, y3, rfl, _⟩
      exact q _

abbrev s_wall : Stmt := topS 0
abbrev s_is_person : Stmt := topS 12
abbrev s_route_from : Stmt := topS 14
abbrev s_turned : Stmt := topS 15
abbrev s_ring_begin : Stmt := topS 16
abbrev s_rings : Stmt := topS 20
abbrev s_components : Stmt := topS 22
abbrev s_check_future : Stmt := topS 35
abbrev s_closed_rings : Stmt := topS 36
abbrev s_missed_way : Stmt := topS 37
abbrev s_second_ring : Stmt := topS 38
abbrev s_meets_first : Stmt := topS 39
abbrev s_order_broken : Stmt := topS 40
abbrev s_first_obstacle : Stmt := topS 41
abbrev s_obstacle : Stmt := topS 42
abbrev s_pointer_later : Stmt := topS 46
abbrev s_common_divisor : Stmt := topS 47
abbrev s_turn_period : Stmt := topS 48
abbrev s_changes_many : Stmt := topS 54
abbrev s_become_deed : Stmt := topS 58
abbrev s_is_deed : Stmt := topS 63
abbrev s_check_deeds : Stmt := topS 64
abbrev s_can_point : Stmt := topS 74
end
theorem all_mk {l : PySem.W.OpenLaw} {w : World} {K : PySem.W.Frag} {h : Heap} {mg : Str → Option Value} {fa : Addr} (X : K.In h) (G : h.Ns mainGlobals mg) (hfa : mg "law" = some (.ref fa)) (Z : Zs K)
    (d0 : Dx K "_wall" s_wall) (d2 : Dx K "kept" s_kept) (d12 : Dx K "is_person" s_is_person) (d13 : Dx K "check_person" s_check_person) (d14 : Dx K "route_from" s_route_from) (d15 : Dx K "turned" s_turned) (d16 : Dx K "ring_begin" s_ring_begin) (d17 : Dx K "way" s_way) (d18 : Dx K "person_after" s_person_after) (d19 : Dx K "ring_of" s_ring_of) (d20 : Dx K "rings" s_rings) (d21 : Dx K "height" s_height) (d22 : Dx K "components" s_components) (d24 : Dx K "check_word" s_check_word) (d25 : Dx K "called" s_called) (d26 : Dx K "called_all" s_called_all) (d27 : Dx K "states_along" s_states_along) (d28 : Dx K "idle_calls" s_idle_calls) (d30 : Dx K "number_without" s_number_without) (d31 : Dx K "bypassed" s_bypassed) (d32 : Dx K "part_of" s_part_of) (d34 : Dx K "check_size" s_check_size) (d35 : Dx K "check_future" s_check_future) (d36 : Dx K "closed_rings" s_closed_rings) (d37 : Dx K "missed_way" s_missed_way) (d38 : Dx K "second_ring" s_second_ring) (d39 : Dx K "meets_first" s_meets_first) (d40 : Dx K "order_broken" s_order_broken) (d41 : Dx K "first_obstacle" s_first_obstacle) (d42 : Dx K "obstacle" s_obstacle) (d44 : Dx K "is_settled" s_is_settled) (d45 : Dx K "states_until_settled" s_states_until_settled) (d46 : Dx K "pointer_later" s_pointer_later) (d47 : Dx K "common_divisor" s_common_divisor) (d48 : Dx K "turn_period" s_turn_period) (d49 : Dx K "repeated" s_repeated) (d50 : Dx K "settles" s_settles) (d51 : Dx K "turning" s_turning) (d52 : Dx K "first_time" s_first_time) (d54 : Dx K "changes_many" s_changes_many) (d55 : Dx K "call_deed" s_call_deed) (d56 : Dx K "run_deed" s_run_deed) (d57 : Dx K "repeat_deed" s_repeat_deed) (d58 : Dx K "become_deed" s_become_deed) (d60 : Dx K "leave_deed" s_leave_deed) (d63 : Dx K "is_deed" s_is_deed) (d64 : Dx K "check_deeds" s_check_deeds) (d67 : Dx K "check_roots" s_check_roots) (d68 : Dx K "rest_with" s_rest_with) (d69 : Dx K "people_astray" s_people_astray) (d70 : Dx K "fewest_to_rest" s_fewest_to_rest) (d71 : Dx K "word_to_rest" s_word_to_rest) (d72 : Dx K "shows_fewest" s_shows_fewest) (d74 : Dx K "can_point" s_can_point) (d75 : Dx K "pointers_for" s_pointers_for) (d77 : Dx K "_law_stream" sBox) (d78 : Dx K "_law_draw" sTake) (d79 : Dx K "_law_folded" sCells) (d80 : Dx K "_law_same" s_law_same) (d81 : Dx K "_law_shuffled" s_law_shuffled) (d82 : Dx K "_law_random_state" s_law_random_state) (d83 : Dx K "_law_person" s_law_person) (d84 : Dx K "_law_row" s_law_row) (d85 : Dx K "_law_hall" s_law_hall) (d86 : Dx K "_law_refused" s_law_refused) (d87 : Dx K "_law_right" s_law_right) (d88 : Dx K "law" s_law) {C_IsRoot C_MissingRoot C_NoNumber C_NoPerson C_NoRoot C_OtherSize : Addr} {fI_NoPerson fI_OtherSize : Addr} {CiC CiD fCi : Addr} {fm_act fm_state fm_deeds fm_call fm_leave fm_come fm_run fm_repeat : Addr}  (cg_IsRoot : PySem.W.nsIn K mainGlobals "IsRoot" = some (some (.ref C_IsRoot))) (cg_MissingRoot : PySem.W.nsIn K mainGlobals "MissingRoot" = some (some (.ref C_MissingRoot))) (cg_NoNumber : PySem.W.nsIn K mainGlobals "NoNumber" = some (some (.ref C_NoNumber))) (cg_NoPerson : PySem.W.nsIn K mainGlobals "NoPerson" = some (some (.ref C_NoPerson))) (cg_NoRoot : PySem.W.nsIn K mainGlobals "NoRoot" = some (some (.ref C_NoRoot))) (cg_OtherSize : PySem.W.nsIn K mainGlobals "OtherSize" = some (some (.ref C_OtherSize))) (cf_NoPerson : ClF K C_NoPerson bm_LookupError "LookupError.__new__") (ci_NoPerson : PySem.W.findIn K (.ref C_NoPerson) "__init__" = some (some (.ref fI_NoPerson))) (ct_NoPerson : PySem.W.typeIn K (.ref fI_NoPerson) = some (.type "function")) (cn_NoPerson : PySem.W.findIn K (.ref C_NoPerson) "person" = some none) (ce_NoPerson : ∃ fd, Fun K "__init__" "NoPerson.__init__" s_init_NoPerson fI_NoPerson fd) (ca_NoPerson_person : PySem.W.findIn K (.ref C_NoPerson) "person" = some none) (cf_OtherSize : ClF K C_OtherSize bm_ValueError "ValueError.__new__") (ci_OtherSize : PySem.W.findIn K (.ref C_OtherSize) "__init__" = some (some (.ref fI_OtherSize))) (ct_OtherSize : PySem.W.typeIn K (.ref fI_OtherSize) = some (.type "function")) (cn_OtherSize : PySem.W.findIn K (.ref C_OtherSize) "size" = some none) (ce_OtherSize : ∃ fd, Fun K "__init__" "OtherSize.__init__" s_init_OtherSize fI_OtherSize fd) (ca_OtherSize_person : PySem.W.findIn K (.ref C_OtherSize) "person" = some none) (cz_LookupError : PySem.W.nsIn K mainGlobals "LookupError" = some none) (cz_ValueError : PySem.W.nsIn K mainGlobals "ValueError" = some none) (cv_LookupError : PySem.W.findCls K (.type "LookupError") (.type "type") "__init__" = some (.val (.builtin "LookupError.__init__"))) (cv_ValueError : PySem.W.findCls K (.type "ValueError") (.type "type") "__init__" = some (.val (.builtin "ValueError.__init__"))) (e_IsRoot_MissingRoot_NoNumber_NoPerson_NoRoot_OtherSize : AllL (fun n C => (["IsRoot", "MissingRoot", "NoNumber", "NoPerson", "NoRoot", "OtherSize"] : List Str).contains n = true → PySem.W.exmAny K (.ref C) [.ref C_IsRoot, .ref C_MissingRoot, .ref C_NoNumber, .ref C_NoPerson, .ref C_NoRoot, .ref C_OtherSize] = some true) [("NoPerson", C_NoPerson), ("OtherSize", C_OtherSize)]) (i_NoPerson : AllL (fun n C => PySem.W.kitOne K (.ref C) (.ref C_NoPerson) = some (subX n "NoPerson")) [("NoPerson", C_NoPerson), ("OtherSize", C_OtherSize)]) (j_NoPerson : PySem.W.kitOne K (.type "NoneType") (.ref C_NoPerson) = some false) (i_IsRoot_MissingRoot_NoNumber_NoRoot_OtherSize : AllL (fun n C => PySem.W.kitAny K (.ref C) [.ref C_IsRoot, .ref C_MissingRoot, .ref C_NoNumber, .ref C_NoRoot, .ref C_OtherSize] = some ((["IsRoot", "MissingRoot", "NoNumber", "NoRoot", "OtherSize"] : List Str).any (subX n))) [("NoPerson", C_NoPerson), ("OtherSize", C_OtherSize)]) (j_IsRoot_MissingRoot_NoNumber_NoRoot_OtherSize : PySem.W.kitAny K (.type "NoneType") [.ref C_IsRoot, .ref C_MissingRoot, .ref C_NoNumber, .ref C_NoRoot, .ref C_OtherSize] = some false) (i_LookupError : AllL (fun n C => PySem.W.kitOne K (.ref C) (.type "LookupError") = some (subX n "LookupError")) [("NoPerson", C_NoPerson), ("OtherSize", C_OtherSize)]) (j_LookupError : PySem.W.kitOne K (.type "NoneType") (.type "LookupError") = some false) (cgCi : PySem.W.nsIn K mainGlobals "Circle" = some (some (.ref CiC))) (cdCi : PySem.W.nsIn K mainGlobals "DEEDS" = some (some (.ref CiD))) (cx0 : PySem.W.makesIn K CiC = true) (cx1 : PySem.W.findIn K (.ref CiC) "__init__" = some (some (.ref fCi))) (cx2 : PySem.W.isFn K (.ref fCi) = true) (cx3 : PySem.W.keepIn K (.ref CiC) = true) (cx4 : PySem.W.plainGet K CiC Str.empty = true) (cx5 : PySem.W.hasDictIn K CiC = true) (cx6 : PySem.W.plainOver K CiC = true) (cx7 : PySem.W.findIn K (.ref CiC) "__setattr__" = some (some (.builtin "object.__setattr__"))) (cx8 : PySem.W.findIn K (.ref CiC) "along" = some none) (cx9 : PySem.W.findIn K (.ref CiC) "entries" = some none) (ceI : ∃ fd, Fun K "__init__" "Circle.__init__" s_ci_init fCi fd) (cfm_act : PySem.W.findIn K (.ref CiC) "act" = some (some (.ref fm_act))) (cim_act : PySem.W.isFn K (.ref fm_act) = true) (ckm_act : PySem.W.keepIn K (.ref fm_act) = true) (cem_act : ∃ fd, Fun K "act" "Circle.act" s_ci_act fm_act fd) (cfm_state : PySem.W.findIn K (.ref CiC) "state" = some (some (.ref fm_state))) (cim_state : PySem.W.isFn K (.ref fm_state) = true) (ckm_state : PySem.W.keepIn K (.ref fm_state) = true) (cem_state : ∃ fd, Fun K "state" "Circle.state" s_ci_state fm_state fd) (cfm_deeds : PySem.W.findIn K (.ref CiC) "deeds" = some (some (.ref fm_deeds))) (cim_deeds : PySem.W.isFn K (.ref fm_deeds) = true) (ckm_deeds : PySem.W.keepIn K (.ref fm_deeds) = true) (cem_deeds : ∃ fd, Fun K "deeds" "Circle.deeds" s_ci_deeds fm_deeds fd) (cfm_call : PySem.W.findIn K (.ref CiC) "call" = some (some (.ref fm_call))) (cim_call : PySem.W.isFn K (.ref fm_call) = true) (ckm_call : PySem.W.keepIn K (.ref fm_call) = true) (cem_call : ∃ fd, Fun K "call" "Circle.call" s_ci_call fm_call fd) (cfm_leave : PySem.W.findIn K (.ref CiC) "leave" = some (some (.ref fm_leave))) (cim_leave : PySem.W.isFn K (.ref fm_leave) = true) (ckm_leave : PySem.W.keepIn K (.ref fm_leave) = true) (cem_leave : ∃ fd, Fun K "leave" "Circle.leave" s_ci_leave fm_leave fd) (cfm_come : PySem.W.findIn K (.ref CiC) "come" = some (some (.ref fm_come))) (cim_come : PySem.W.isFn K (.ref fm_come) = true) (ckm_come : PySem.W.keepIn K (.ref fm_come) = true) (cem_come : ∃ fd, FunDX K "come" "Circle.come" s_ci_come [.non] fm_come fd) (cfm_run : PySem.W.findIn K (.ref CiC) "run" = some (some (.ref fm_run))) (cim_run : PySem.W.isFn K (.ref fm_run) = true) (ckm_run : PySem.W.keepIn K (.ref fm_run) = true) (cem_run : ∃ fd, Fun K "run" "Circle.run" s_ci_run fm_run fd) (cfm_repeat : PySem.W.findIn K (.ref CiC) "repeat" = some (some (.ref fm_repeat))) (cim_repeat : PySem.W.isFn K (.ref fm_repeat) = true) (ckm_repeat : PySem.W.keepIn K (.ref fm_repeat) = true) (cem_repeat : ∃ fd, Fun K "repeat" "Circle.repeat" s_ci_repeat fm_repeat fd) (cDD : ∃ es n, KDict K w CiD es n) (ckd_call : ∃ f, PySem.W.nsIn K mainGlobals "call_deed" = some (some (.ref f)) ∧ PySem.W.nsIn K CiD "call" = some (some (.ref f))) (ckd_leave : ∃ f, PySem.W.nsIn K mainGlobals "leave_deed" = some (some (.ref f)) ∧ PySem.W.nsIn K CiD "leave" = some (some (.ref f))) (ckd_come : ∃ f, PySem.W.nsIn K mainGlobals "come_deed" = some (some (.ref f)) ∧ PySem.W.nsIn K CiD "come" = some (some (.ref f))) (ckd_run : ∃ f, PySem.W.nsIn K mainGlobals "run_deed" = some (some (.ref f)) ∧ PySem.W.nsIn K CiD "run" = some (some (.ref f))) (ckd_repeat : ∃ f, PySem.W.nsIn K mainGlobals "repeat_deed" = some (some (.ref f)) ∧ PySem.W.nsIn K CiD "repeat" = some (some (.ref f))) (cdx_come_deed : ∃ f, DxD K "come_deed" s_come_deed f) :
    ∃ fd : FuncData, (∀ (s : Shared) (v : Value), BindsTo s fd ⟨[v], []⟩ [("_law_script", v)]) ∧ ∀ base : Heap, K.In base → base.Ns mainGlobals mg → FnOk l.prog w K mg base CX0 14 fa fd ["_law_script"] (spLaw K) := by
  have B := Z.bi X G
  obtain ⟨f0, e0, F0, g0⟩ := d0.fn X G
  obtain ⟨f2, e2, F2, g2⟩ := d2.fn X G
  obtain ⟨f12, e12, F12, g12⟩ := d12.fn X G
  obtain ⟨f13, e13, F13, g13⟩ := d13.fn X G
  obtain ⟨f14, e14, F14, g14⟩ := d14.fn X G
  obtain ⟨f15, e15, F15, g15⟩ := d15.fn X G
  obtain ⟨f16, e16, F16, g16⟩ := d16.fn X G
  obtain ⟨f17, e17, F17, g17⟩ := d17.fn X G
  obtain ⟨f18, e18, F18, g18⟩ := d18.fn X G
  obtain ⟨f19, e19, F19, g19⟩ := d19.fn X G
  obtain ⟨f20, e20, F20, g20⟩ := d20.fn X G
  obtain ⟨f21, e21, F21, g21⟩ := d21.fn X G
  obtain ⟨f22, e22, F22, g22⟩ := d22.fn X G
  obtain ⟨f24, e24, F24, g24⟩ := d24.fn X G
  obtain ⟨f25, e25, F25, g25⟩ := d25.fn X G
  obtain ⟨f26, e26, F26, g26⟩ := d26.fn X G
  obtain ⟨f27, e27, F27, g27⟩ := d27.fn X G
  obtain ⟨f28, e28, F28, g28⟩ := d28.fn X G
  obtain ⟨f30, e30, F30, g30⟩ := d30.fn X G
  obtain ⟨f31, e31, F31, g31⟩ := d31.fn X G
  obtain ⟨f32, e32, F32, g32⟩ := d32.fn X G
  obtain ⟨f34, e34, F34, g34⟩ := d34.fn X G
  obtain ⟨f35, e35, F35, g35⟩ := d35.fn X G
  obtain ⟨f36, e36, F36, g36⟩ := d36.fn X G
  obtain ⟨f37, e37, F37, g37⟩ := d37.fn X G
  obtain ⟨f38, e38, F38, g38⟩ := d38.fn X G
  obtain ⟨f39, e39, F39, g39⟩ := d39.fn X G
  obtain ⟨f40, e40, F40, g40⟩ := d40.fn X G
  obtain ⟨f41, e41, F41, g41⟩ := d41.fn X G
  obtain ⟨f42, e42, F42, g42⟩ := d42.fn X G
  obtain ⟨f44, e44, F44, g44⟩ := d44.fn X G
  obtain ⟨f45, e45, F45, g45⟩ := d45.fn X G
  obtain ⟨f46, e46, F46, g46⟩ := d46.fn X G
  obtain ⟨f47, e47, F47, g47⟩ := d47.fn X G
  obtain ⟨f48, e48, F48, g48⟩ := d48.fn X G
  obtain ⟨f49, e49, F49, g49⟩ := d49.fn X G
  obtain ⟨f50, e50, F50, g50⟩ := d50.fn X G
  obtain ⟨f51, e51, F51, g51⟩ := d51.fn X G
  obtain ⟨f52, e52, F52, g52⟩ := d52.fn X G
  obtain ⟨f54, e54, F54, g54⟩ := d54.fn X G
  obtain ⟨f55, e55, F55, g55⟩ := d55.fn X G
  obtain ⟨f56, e56, F56, g56⟩ := d56.fn X G
  obtain ⟨f57, e57, F57, g57⟩ := d57.fn X G
  obtain ⟨f58, e58, F58, g58⟩ := d58.fn X G
  obtain ⟨f60, e60, F60, g60⟩ := d60.fn X G
  obtain ⟨f63, e63, F63, g63⟩ := d63.fn X G
  obtain ⟨f64, e64, F64, g64⟩ := d64.fn X G
  obtain ⟨f67, e67, F67, g67⟩ := d67.fn X G
  obtain ⟨f68, e68, F68, g68⟩ := d68.fn X G
  obtain ⟨f69, e69, F69, g69⟩ := d69.fn X G
  obtain ⟨f70, e70, F70, g70⟩ := d70.fn X G
  obtain ⟨f71, e71, F71, g71⟩ := d71.fn X G
  obtain ⟨f72, e72, F72, g72⟩ := d72.fn X G
  obtain ⟨f74, e74, F74, g74⟩ := d74.fn X G
  obtain ⟨f75, e75, F75, g75⟩ := d75.fn X G
  obtain ⟨f77, e77, F77, g77⟩ := d77.fn X G
  obtain ⟨f78, e78, F78, g78⟩ := d78.fn X G
  obtain ⟨f79, e79, F79, g79⟩ := d79.fn X G
  obtain ⟨f80, e80, F80, g80⟩ := d80.fn X G
  obtain ⟨f81, e81, F81, g81⟩ := d81.fn X G
  obtain ⟨f82, e82, F82, g82⟩ := d82.fn X G
  obtain ⟨f83, e83, F83, g83⟩ := d83.fn X G
  obtain ⟨f84, e84, F84, g84⟩ := d84.fn X G
  obtain ⟨f85, e85, F85, g85⟩ := d85.fn X G
  obtain ⟨f86, e86, F86, g86⟩ := d86.fn X G
  obtain ⟨f87, e87, F87, g87⟩ := d87.fn X G
  obtain ⟨f88, e88, F88, g88⟩ := d88.fn X G
  have g_IsRoot := PySem.W.mg_of X G cg_IsRoot
  have g_MissingRoot := PySem.W.mg_of X G cg_MissingRoot
  have g_NoNumber := PySem.W.mg_of X G cg_NoNumber
  have g_NoPerson := PySem.W.mg_of X G cg_NoPerson
  have g_NoRoot := PySem.W.mg_of X G cg_NoRoot
  have g_OtherSize := PySem.W.mg_of X G cg_OtherSize
  have gCi := PySem.W.mg_of X G cgCi
  have gCD := PySem.W.mg_of X G cdCi
  obtain ⟨edI, FiI⟩ := ceI
  obtain ⟨eDD, nDD, KDD⟩ := cDD
  obtain ⟨ed_act, Fm_act⟩ := cem_act
  obtain ⟨ed_state, Fm_state⟩ := cem_state
  obtain ⟨ed_deeds, Fm_deeds⟩ := cem_deeds
  obtain ⟨ed_call, Fm_call⟩ := cem_call
  obtain ⟨ed_leave, Fm_leave⟩ := cem_leave
  obtain ⟨ed_come, Fm_come⟩ := cem_come
  obtain ⟨ed_run, Fm_run⟩ := cem_run
  obtain ⟨ed_repeat, Fm_repeat⟩ := cem_repeat
  obtain ⟨f59, a59, e59, F59⟩ := cdx_come_deed
  have g59 := PySem.W.mg_of X G a59
  have z_LookupError := PySem.W.mg_none_of X G cz_LookupError
  have z_ValueError := PySem.W.mg_none_of X G cz_ValueError
  obtain ⟨ed_NoPerson, Fi_NoPerson⟩ := ce_NoPerson
  obtain ⟨ed_OtherSize, Fi_OtherSize⟩ := ce_OtherSize
  have xcs : AllL (fun _ C => ExcC K C) [("NoPerson", C_NoPerson), ("OtherSize", C_OtherSize)] := ⟨cf_NoPerson.xc, cf_OtherSize.xc, trivial⟩
  have at_person : AllL (fun _ C => XfC K C ∧ PySem.W.findIn K (.ref C) "person" = some none) [("NoPerson", C_NoPerson), ("OtherSize", C_OtherSize)] := ⟨⟨cf_NoPerson.xf, ca_NoPerson_person⟩, ⟨cf_OtherSize.xf, ca_OtherSize_person⟩, trivial⟩
  cases hfa.symm.trans g88
  refine ⟨e88, fun s v => ?_, fun base _ _ => ?_⟩
  · obtain ⟨oc, od, kV, doc, pm, an, cdv, ct, osl, rfl, lk, hcd⟩ := F88.ex
    exact .of_eq rfl
  · letI : Fns := ⟨fun n => if n = ("Circle" : Str) then .ref CiC else .non⟩
    have hF_Circle : FN "Circle" = .ref CiC := by first | rfl | (show (if _ then _ else _) = _; simp) | simp [FN, Fns.v]
    have bd78 : Binds K e78 ["_law_source", "_law_bound"] [] := b2 F78 fun _ _ _ _ _ _ _ _ => rfl
    have u78 : Cal l.prog w K mg base "_law_draw" 1 ["_law_source", "_law_bound"] spTake f78 e78 := ⟨ok_take F78, g78, F78.kp, bd78⟩
    have t78 : Cal l.prog w K mg base "_law_draw" 2 ["_law_source", "_law_bound"] (spD 2 p_law_take) f78 e78 := ⟨FnOk.imp (ok_takeW F78 u78) fun _ _ _ _ h => take_imp h, g78, F78.kp, bd78⟩
    have bd77 : Binds K e77 ["_law_script", "_law_k"] [] := b2 F77 fun _ _ _ _ _ _ _ _ => rfl
    have t77 : Cal l.prog w K mg base "_law_stream" 1 ["_law_script", "_law_k"] (spBox K) f77 e77 := ⟨ok_box F77 B, g77, F77.kp, bd77⟩
    have bd2 : Binds K e2 ["value"] [] := b1 F2 fun _ _ _ _ _ _ _ => rfl
    have t2 : Cal l.prog w K mg base "kept" 1 ["value"] spKept f2 e2 := ⟨okX_kept F2 B, g2, F2.kp, bd2⟩
    have r_NoPerson : Ini l.prog w K mg base "NoPerson" "person" C_NoPerson 1 := ⟨_, _, _, _, fI_NoPerson, ed_NoPerson, cf_NoPerson.ox_LookupError, ci_NoPerson, ct_NoPerson, ok_init_NoPerson Fi_NoPerson B z_LookupError cv_LookupError cf_NoPerson.ox_LookupError cn_NoPerson, Fi_NoPerson.binds fun kV doc pm an cdv ct us hl => match us, hl with | [u, v], _ => rfl⟩
    have r_OtherSize : Ini l.prog w K mg base "OtherSize" "size" C_OtherSize 1 := ⟨_, _, _, _, fI_OtherSize, ed_OtherSize, cf_OtherSize.ox_ValueError, ci_OtherSize, ct_OtherSize, ok_init_OtherSize Fi_OtherSize B z_ValueError cv_ValueError cf_OtherSize.ox_ValueError cn_OtherSize, Fi_OtherSize.binds fun kV doc pm an cdv ct us hl => match us, hl with | [u, v], _ => rfl⟩
    have T_ci : CirT K CiC := ⟨⟨cx4, cx5, cx6, cx7⟩, cx8, cx9⟩
    have t_ci : CirI l.prog w K mg base CiC fCi edI := ⟨⟨cx0, cx1, cx2, cx3⟩, ok_ci_init FiI B T_ci, gCi, FiI.binds fun kV doc pm an cdv ct us hl => match us, hl with | [u0, u1], _ => rfl⟩
    have tp_state : CirP l.prog w K mg base CiC "state" p_ci_state fm_state ed_state := ⟨ok_ci_state Fm_state T_ci hF_Circle, ⟨cfm_state, cim_state, ckm_state⟩, Fm_state.binds fun kV doc pm an cdv ct us hl => match us, hl with | [u0], _ => rfl, T_ci⟩
    have tp_deeds : CirP l.prog w K mg base CiC "deeds" p_ci_deeds fm_deeds ed_deeds := ⟨ok_ci_deeds Fm_deeds B T_ci hF_Circle, ⟨cfm_deeds, cim_deeds, ckm_deeds⟩, Fm_deeds.binds fun kV doc pm an cdv ct us hl => match us, hl with | [u0], _ => rfl, T_ci⟩
    have bd21 : Binds K e21 ["state", "person"] [] := b2 F21 fun _ _ _ _ _ _ _ _ => rfl
    have t21 : Cal l.prog w K mg base "height" 1 ["state", "person"] (spD 2 p_heightN) f21 e21 := ⟨ok_height F21 B     , g21, F21.kp, bd21⟩
    have bd44 : Binds K e44 ["state", "word"] [] := b2 F44 fun _ _ _ _ _ _ _ _ => rfl
    have t44 : Cal l.prog w K mg base "is_settled" 2 ["state", "word"] (spD 2 p_is_settledN) f44 e44 := ⟨ok_is_settled F44 B t21    , g44, F44.kp, bd44⟩
    have bd80 : Binds K e80 ["_law_found", "_law_due"] [] := b2 F80 fun _ _ _ _ _ _ _ _ => rfl
    have t80 : Cal l.prog w K mg base "_law_same" 4 ["_law_found", "_law_due"] (spD 2 (p_law_same_3 3)) f80 e80 := ⟨ok_law_same F80 B g80 bd80 3, g80, F80.kp, bd80⟩
    have bd81 : Binds K e81 ["_law_source", "_law_some"] [] := b2 F81 fun _ _ _ _ _ _ _ _ => rfl
    have t81 : Cal l.prog w K mg base "_law_shuffled" 3 ["_law_source", "_law_some"] (spD 2 p_law_strewn_2) f81 e81 := ⟨ok_law_shuffled F81 B t78    , g81, F81.kp, bd81⟩
    have bd82 : Binds K e82 ["_law_source", "_law_size"] [] := b2 F82 fun _ _ _ _ _ _ _ _ => rfl
    have t82 : Cal l.prog w K mg base "_law_random_state" 4 ["_law_source", "_law_size"] (spD 2 p_law_random_state) f82 e82 := ⟨ok_law_random_state F82 B t81 t78    , g82, F82.kp, bd82⟩
    have bd13 : Binds K e13 ["state", "person"] [] := b2 F13 fun _ _ _ _ _ _ _ _ => rfl
    have tx13 : CalX l.prog w K mg base (clT [("NoPerson", C_NoPerson), ("OtherSize", C_OtherSize)]) "check_person" 3 ["state", "person"] q_check_personN f13 e13 := ⟨okx_check_person F13 B    r_NoPerson g_NoPerson , g13, F13.kp, bd13⟩
    have bd24 : Binds K e24 ["state", "word"] [] := b2 F24 fun _ _ _ _ _ _ _ _ => rfl
    have tx24 : CalX l.prog w K mg base (clT [("NoPerson", C_NoPerson), ("OtherSize", C_OtherSize)]) "check_word" 4 ["state", "word"] q_check_wordN f24 e24 := ⟨okx_check_word F24 B    tx13 , g24, F24.kp, bd24⟩
    have bd26 : Binds K e26 ["state", "word"] [] := b2 F26 fun _ _ _ _ _ _ _ _ => rfl
    have tx26 : CalX l.prog w K mg base (clT [("NoPerson", C_NoPerson), ("OtherSize", C_OtherSize)]) "called_all" 5 ["state", "word"] q_called_allN f26 e26 := ⟨okx_called_all F26 B    tx24 , g26, F26.kp, bd26⟩
    have bd45 : Binds K e45 ["state", "word"] [] := b2 F45 fun _ _ _ _ _ _ _ _ => rfl
    have tx45 : CalX l.prog w K mg base (clT [("NoPerson", C_NoPerson), ("OtherSize", C_OtherSize)]) "states_until_settled" 6 ["state", "word"] q_states_until_settledN f45 e45 := ⟨okx_states_until_settled F45 B t44   tx24 tx26 , g45, F45.kp, bd45⟩
    have bd49 : Binds K e49 ["state", "word", "many"] [] := b3 F49 fun _ _ _ _ _ _ _ _ _ => rfl
    have tx49 : CalX l.prog w K mg base (clT [("NoPerson", C_NoPerson), ("OtherSize", C_OtherSize)]) "repeated" 7 ["state", "word", "many"] q_repeatedN f49 e49 := ⟨okx_repeated F49 B    tx45 , g49, F49.kp, bd49⟩
    have bd57 : Binds K e57 ["state", "word", "many"] [] := b3 F57 fun _ _ _ _ _ _ _ _ _ => rfl
    have tx57 : CalX l.prog w K mg base (clT [("NoPerson", C_NoPerson), ("OtherSize", C_OtherSize)]) "repeat_deed" 8 ["state", "word", "many"] q_repeat_deedN f57 e57 := ⟨okx_repeat_deed F57 B    tx49 , g57, F57.kp, bd57⟩
    have kd_repeat : KDct K w CiD "repeat" (.ref f57) := by
      obtain ⟨fk, ka, kb⟩ := ckd_repeat
      cases (PySem.W.mg_of X G ka).symm.trans g57
      exact ⟨eDD, nDD, _, KDD.at_, KDD.lit, kb, rfl⟩
    have tm_repeat : CirM l.prog w K mg base (clT [("NoPerson", C_NoPerson), ("OtherSize", C_OtherSize)]) CiC "repeat" 10 ["self", "word", "many"] (q_ci q_repeat_deedN) fm_repeat ed_repeat := ⟨ok_ci_repeat Fm_repeat T_ci ⟨cfm_act, cim_act, ckm_act⟩ (ok_ci_act (cl := (clT [("NoPerson", C_NoPerson), ("OtherSize", C_OtherSize)])) (k := 8) Fm_act gCD tp_state (by decide) hF_Circle) ⟨_, _, _, kd_repeat, rfl, tx57.ok, tx57.kp, tx57.bd⟩ monx_repeat_deedN hF_Circle, ⟨cfm_repeat, cim_repeat, ckm_repeat⟩, Fm_repeat.binds fun kV doc pm an cdv ct us hl => match us, hl with | [u0, u1, u2], _ => rfl, T_ci⟩
    have bd27 : Binds K e27 ["state", "word"] [] := b2 F27 fun _ _ _ _ _ _ _ _ => rfl
    have tx27 : CalX l.prog w K mg base (clT [("NoPerson", C_NoPerson), ("OtherSize", C_OtherSize)]) "states_along" 5 ["state", "word"] q_states_alongN f27 e27 := ⟨okx_states_along F27 B    tx24 , g27, F27.kp, bd27⟩
    have bd28 : Binds K e28 ["state", "word"] [] := b2 F28 fun _ _ _ _ _ _ _ _ => rfl
    have tx28 : CalX l.prog w K mg base (clT [("NoPerson", C_NoPerson), ("OtherSize", C_OtherSize)]) "idle_calls" 6 ["state", "word"] q_idle_callsN f28 e28 := ⟨okx_idle_calls F28 B    tx27 , g28, F28.kp, bd28⟩
    have bd56 : Binds K e56 ["state", "word"] [] := b2 F56 fun _ _ _ _ _ _ _ _ => rfl
    have tx56 : CalX l.prog w K mg base (clT [("NoPerson", C_NoPerson), ("OtherSize", C_OtherSize)]) "run_deed" 7 ["state", "word"] q_run_deedN f56 e56 := ⟨okx_run_deed F56 B    tx28 tx26 , g56, F56.kp, bd56⟩
    have kd_run : KDct K w CiD "run" (.ref f56) := by
      obtain ⟨fk, ka, kb⟩ := ckd_run
      cases (PySem.W.mg_of X G ka).symm.trans g56
      exact ⟨eDD, nDD, _, KDD.at_, KDD.lit, kb, rfl⟩
    have tm_run : CirM l.prog w K mg base (clT [("NoPerson", C_NoPerson), ("OtherSize", C_OtherSize)]) CiC "run" 9 ["self", "word"] (q_ci q_run_deedN) fm_run ed_run := ⟨ok_ci_run Fm_run T_ci ⟨cfm_act, cim_act, ckm_act⟩ (ok_ci_act (cl := (clT [("NoPerson", C_NoPerson), ("OtherSize", C_OtherSize)])) (k := 7) Fm_act gCD tp_state (by decide) hF_Circle) ⟨_, _, _, kd_run, rfl, tx56.ok, tx56.kp, tx56.bd⟩ monx_run_deedN hF_Circle, ⟨cfm_run, cim_run, ckm_run⟩, Fm_run.binds fun kV doc pm an cdv ct us hl => match us, hl with | [u0, u1], _ => rfl, T_ci⟩
    have bd59 : Binds K e59 ["state", "target"] [] := (let ⟨ds_, h1_, h2_⟩ := FunD.binds1 (ps := ["state", "target"]) F59 2 1 (fun h_ => nomatch h_) rfl (fun T kV doc pm an cdv ct us its hl hi => match us, its, hl, hi with | [u0, u1], [d0], _, _ => ⟨_, rfl, rfl⟩); by cases h1_; exact h2_)
    have tx59 : CalX l.prog w K mg base (clT [("NoPerson", C_NoPerson), ("OtherSize", C_OtherSize)]) "come_deed" 4 ["state", "target"] q_come_deedN f59 e59 := ⟨okx_come_deed F59 B    tx13 , g59, F59.kp, bd59⟩
    have kd_come : KDct K w CiD "come" (.ref f59) := by
      obtain ⟨fk, ka, kb⟩ := ckd_come
      cases (PySem.W.mg_of X G ka).symm.trans g59
      exact ⟨eDD, nDD, _, KDD.at_, KDD.lit, kb, rfl⟩
    have tm_come : CirM l.prog w K mg base (clT [("NoPerson", C_NoPerson), ("OtherSize", C_OtherSize)]) CiC "come" 6 ["self", "target"] (q_ci q_come_deedN) fm_come ed_come := ⟨ok_ci_come Fm_come T_ci ⟨cfm_act, cim_act, ckm_act⟩ (ok_ci_act (cl := (clT [("NoPerson", C_NoPerson), ("OtherSize", C_OtherSize)])) (k := 4) Fm_act gCD tp_state (by decide) hF_Circle) ⟨_, _, _, kd_come, rfl, tx59.ok, tx59.kp, tx59.bd⟩ monx_come_deedN hF_Circle, ⟨cfm_come, cim_come, ckm_come⟩, (let ⟨ds_, h1_, h2_⟩ := FunD.binds1 (ps := ["self", "target"]) Fm_come 2 1 (fun h_ => nomatch h_) rfl (fun T kV doc pm an cdv ct us its hl hi => match us, its, hl, hi with | [u0, u1], [d0], _, _ => ⟨_, rfl, rfl⟩); by cases h1_; exact h2_), T_ci⟩
    have bd31 : Binds K e31 ["state", "person"] [] := b2 F31 fun _ _ _ _ _ _ _ _ => rfl
    have tx31 : CalX l.prog w K mg base (clT [("NoPerson", C_NoPerson), ("OtherSize", C_OtherSize)]) "bypassed" 4 ["state", "person"] q_bypassedN f31 e31 := ⟨okx_bypassed F31 B    tx13 , g31, F31.kp, bd31⟩
    have bd30 : Binds K e30 ["number", "person"] [] := b2 F30 fun _ _ _ _ _ _ _ _ => rfl
    have tx30 : CalX l.prog w K mg base (clT [("NoPerson", C_NoPerson), ("OtherSize", C_OtherSize)]) "number_without" 1 ["number", "person"] q_number_withoutN f30 e30 := ⟨okx_number_without F30 B     , g30, F30.kp, bd30⟩
    have bd60 : Binds K e60 ["state", "person"] [] := b2 F60 fun _ _ _ _ _ _ _ _ => rfl
    have tx60 : CalX l.prog w K mg base (clT [("NoPerson", C_NoPerson), ("OtherSize", C_OtherSize)]) "leave_deed" 5 ["state", "person"] q_leave_deedN f60 e60 := ⟨okx_leave_deed F60 B    tx30 tx31 , g60, F60.kp, bd60⟩
    have kd_leave : KDct K w CiD "leave" (.ref f60) := by
      obtain ⟨fk, ka, kb⟩ := ckd_leave
      cases (PySem.W.mg_of X G ka).symm.trans g60
      exact ⟨eDD, nDD, _, KDD.at_, KDD.lit, kb, rfl⟩
    have tm_leave : CirM l.prog w K mg base (clT [("NoPerson", C_NoPerson), ("OtherSize", C_OtherSize)]) CiC "leave" 7 ["self", "person"] (q_ci q_leave_deedN) fm_leave ed_leave := ⟨ok_ci_leave Fm_leave T_ci ⟨cfm_act, cim_act, ckm_act⟩ (ok_ci_act (cl := (clT [("NoPerson", C_NoPerson), ("OtherSize", C_OtherSize)])) (k := 5) Fm_act gCD tp_state (by decide) hF_Circle) ⟨_, _, _, kd_leave, rfl, tx60.ok, tx60.kp, tx60.bd⟩ monx_leave_deedN hF_Circle, ⟨cfm_leave, cim_leave, ckm_leave⟩, Fm_leave.binds fun kV doc pm an cdv ct us hl => match us, hl with | [u0, u1], _ => rfl, T_ci⟩
    have bd25 : Binds K e25 ["state", "person"] [] := b2 F25 fun _ _ _ _ _ _ _ _ => rfl
    have tx25 : CalX l.prog w K mg base (clT [("NoPerson", C_NoPerson), ("OtherSize", C_OtherSize)]) "called" 6 ["state", "person"] q_calledN f25 e25 := ⟨okx_called F25 B    tx26 , g25, F25.kp, bd25⟩
    have bd55 : Binds K e55 ["state", "person"] [] := b2 F55 fun _ _ _ _ _ _ _ _ => rfl
    have tx55 : CalX l.prog w K mg base (clT [("NoPerson", C_NoPerson), ("OtherSize", C_OtherSize)]) "call_deed" 7 ["state", "person"] q_call_deedN f55 e55 := ⟨okx_call_deed F55 B    tx25 , g55, F55.kp, bd55⟩
    have kd_call : KDct K w CiD "call" (.ref f55) := by
      obtain ⟨fk, ka, kb⟩ := ckd_call
      cases (PySem.W.mg_of X G ka).symm.trans g55
      exact ⟨eDD, nDD, _, KDD.at_, KDD.lit, kb, rfl⟩
    have tm_call : CirM l.prog w K mg base (clT [("NoPerson", C_NoPerson), ("OtherSize", C_OtherSize)]) CiC "call" 9 ["self", "person"] (q_ci q_call_deedN) fm_call ed_call := ⟨ok_ci_call Fm_call T_ci ⟨cfm_act, cim_act, ckm_act⟩ (ok_ci_act (cl := (clT [("NoPerson", C_NoPerson), ("OtherSize", C_OtherSize)])) (k := 7) Fm_act gCD tp_state (by decide) hF_Circle) ⟨_, _, _, kd_call, rfl, tx55.ok, tx55.kp, tx55.bd⟩ monx_call_deedN hF_Circle, ⟨cfm_call, cim_call, ckm_call⟩, Fm_call.binds fun kV doc pm an cdv ct us hl => match us, hl with | [u0, u1], _ => rfl, T_ci⟩
    have bd85 : Binds K e85 ["_law_door", "_law_hall_here", "_law_odd", "_law_row_here"] [] := b4 F85 fun _ _ _ _ _ _ _ _ _ _ => rfl
    have tx85 : CalX l.prog w K mg base (clT [("NoPerson", C_NoPerson), ("OtherSize", C_OtherSize)]) "_law_hall" 11 ["_law_door", "_law_hall_here", "_law_odd", "_law_row_here"] q_law_hall f85 e85 := ⟨okx_law_hall F85 B    hF_Circle tx55 tm_call tx60 tm_leave tx59 tm_come tx56 tm_run tx57 tm_repeat , g85, F85.kp, bd85⟩
    have bd52 : Binds K e52 ["state", "word", "person", "target"] [] := b4 F52 fun _ _ _ _ _ _ _ _ _ _ => rfl
    have tx52 : CalX l.prog w K mg base (clT [("NoPerson", C_NoPerson), ("OtherSize", C_OtherSize)]) "first_time" 7 ["state", "word", "person", "target"] q_first_timeN f52 e52 := ⟨okx_first_time F52 B    tx45 tx13 , g52, F52.kp, bd52⟩
    have bd67 : Binds K e67 ["state", "roots"] [] := b2 F67 fun _ _ _ _ _ _ _ _ => rfl
    have tx67 : CalX l.prog w K mg base (clT [("NoPerson", C_NoPerson), ("OtherSize", C_OtherSize)]) "check_roots" 5 ["state", "roots"] q_check_rootsN f67 e67 := ⟨okx_check_roots F67 B    tx24 , g67, F67.kp, bd67⟩
    have bd68 : Binds K e68 ["state", "roots"] [] := b2 F68 fun _ _ _ _ _ _ _ _ => rfl
    have tx68 : CalX l.prog w K mg base (clT [("NoPerson", C_NoPerson), ("OtherSize", C_OtherSize)]) "rest_with" 6 ["state", "roots"] q_rest_withN f68 e68 := ⟨okx_rest_with F68 B    tx67 , g68, F68.kp, bd68⟩
    have bd69 : Binds K e69 ["state", "roots"] [] := b2 F69 fun _ _ _ _ _ _ _ _ => rfl
    have tx69 : CalX l.prog w K mg base (clT [("NoPerson", C_NoPerson), ("OtherSize", C_OtherSize)]) "people_astray" 7 ["state", "roots"] q_people_astrayN f69 e69 := ⟨okx_people_astray F69 B    tx68 , g69, F69.kp, bd69⟩
    have bd72 : Binds K e72 ["state", "roots", "value"] [] := b3 F72 fun _ _ _ _ _ _ _ _ _ => rfl
    have tx72 : CalX l.prog w K mg base (clT [("NoPerson", C_NoPerson), ("OtherSize", C_OtherSize)]) "shows_fewest" 8 ["state", "roots", "value"] q_shows_fewestN f72 e72 := ⟨okx_shows_fewest F72 B    tx69 , g72, F72.kp, bd72⟩
    have bd71 : Binds K e71 ["state", "roots"] [] := b2 F71 fun _ _ _ _ _ _ _ _ => rfl
    have tx71 : CalX l.prog w K mg base (clT [("NoPerson", C_NoPerson), ("OtherSize", C_OtherSize)]) "word_to_rest" 7 ["state", "roots"] q_word_to_restN f71 e71 := ⟨okx_word_to_rest F71 B    tx68 , g71, F71.kp, bd71⟩
    have bd70 : Binds K e70 ["state", "roots"] [] := b2 F70 fun _ _ _ _ _ _ _ _ => rfl
    have tx70 : CalX l.prog w K mg base (clT [("NoPerson", C_NoPerson), ("OtherSize", C_OtherSize)]) "fewest_to_rest" 8 ["state", "roots"] q_fewest_to_restN f70 e70 := ⟨okx_fewest_to_rest F70 B    tx69 , g70, F70.kp, bd70⟩
    have bd51 : Binds K e51 ["state", "word"] [] := b2 F51 fun _ _ _ _ _ _ _ _ => rfl
    have tx51 : CalX l.prog w K mg base (clT [("NoPerson", C_NoPerson), ("OtherSize", C_OtherSize)]) "turning" 7 ["state", "word"] q_turningN f51 e51 := ⟨okx_turning F51 B    tx45 , g51, F51.kp, bd51⟩
    have bd50 : Binds K e50 ["state", "word"] [] := b2 F50 fun _ _ _ _ _ _ _ _ => rfl
    have tx50 : CalX l.prog w K mg base (clT [("NoPerson", C_NoPerson), ("OtherSize", C_OtherSize)]) "settles" 7 ["state", "word"] q_settlesN f50 e50 := ⟨okx_settles F50 B    tx45 , g50, F50.kp, bd50⟩
    have bd84 : Binds K e84 ["_law_door", "_law_start", "_law_row_here"] [] := b3 F84 fun _ _ _ _ _ _ _ _ _ => rfl
    have tx84 : CalX l.prog w K mg base (clT [("NoPerson", C_NoPerson), ("OtherSize", C_OtherSize)]) "_law_row" 9 ["_law_door", "_law_start", "_law_row_here"] q_law_row f84 e84 := ⟨okx_law_row F84 B    tx26 tx27 tx28 tx50 tx51 tx68 tx70 tx71 tx72 tx49 tx52 , g84, F84.kp, bd84⟩
    have bd34 : Binds K e34 ["state", "other"] [] := b2 F34 fun _ _ _ _ _ _ _ _ => rfl
    have tx34 : CalX l.prog w K mg base (clT [("NoPerson", C_NoPerson), ("OtherSize", C_OtherSize)]) "check_size" 3 ["state", "other"] q_check_sizeN f34 e34 := ⟨okx_check_size F34 B    r_OtherSize g_OtherSize , g34, F34.kp, bd34⟩
    have bd75 : Binds K e75 ["state", "wish", "person"] [] := b3 F75 fun _ _ _ _ _ _ _ _ _ => rfl
    have tx75 : CalX l.prog w K mg base (clT [("NoPerson", C_NoPerson), ("OtherSize", C_OtherSize)]) "pointers_for" 4 ["state", "wish", "person"] q_pointers_forN f75 e75 := ⟨okx_pointers_for F75 B    tx34 tx13 , g75, F75.kp, bd75⟩
    have bd18 : Binds K e18 ["state", "person", "steps"] [] := b3 F18 fun _ _ _ _ _ _ _ _ _ => rfl
    have tx18 : CalX l.prog w K mg base (clT [("NoPerson", C_NoPerson), ("OtherSize", C_OtherSize)]) "person_after" 4 ["state", "person", "steps"] q_person_afterN f18 e18 := ⟨okx_person_after F18 B    tx13 , g18, F18.kp, bd18⟩
    have bd32 : Binds K e32 ["state", "person"] [] := b2 F32 fun _ _ _ _ _ _ _ _ => rfl
    have tx32 : CalX l.prog w K mg base (clT [("NoPerson", C_NoPerson), ("OtherSize", C_OtherSize)]) "part_of" 4 ["state", "person"] q_part_ofN f32 e32 := ⟨okx_part_of F32 B    tx13 , g32, F32.kp, bd32⟩
    have tx21 : CalX l.prog w K mg base (clT [("NoPerson", C_NoPerson), ("OtherSize", C_OtherSize)]) "height" 4 ["state", "person"] q_heightN f21 e21 := ⟨okx_height F21 B    tx13 , g21, F21.kp, bd21⟩
    have bd19 : Binds K e19 ["state", "person"] [] := b2 F19 fun _ _ _ _ _ _ _ _ => rfl
    have tx19 : CalX l.prog w K mg base (clT [("NoPerson", C_NoPerson), ("OtherSize", C_OtherSize)]) "ring_of" 4 ["state", "person"] q_ring_ofN f19 e19 := ⟨okx_ring_of F19 B    tx13 , g19, F19.kp, bd19⟩
    have bd17 : Binds K e17 ["state", "person"] [] := b2 F17 fun _ _ _ _ _ _ _ _ => rfl
    have tx17 : CalX l.prog w K mg base (clT [("NoPerson", C_NoPerson), ("OtherSize", C_OtherSize)]) "way" 4 ["state", "person"] q_wayN f17 e17 := ⟨okx_way F17 B    tx13 , g17, F17.kp, bd17⟩
    have bd83 : Binds K e83 ["_law_door", "_law_start", "_law_odd"] [] := b3 F83 fun _ _ _ _ _ _ _ _ _ => rfl
    have tx83 : CalX l.prog w K mg base (clT [("NoPerson", C_NoPerson), ("OtherSize", C_OtherSize)]) "_law_person" 8 ["_law_door", "_law_start", "_law_odd"] q_law_person f83 e83 := ⟨okx_law_person F83 B    tx17 tx19 tx21 tx25 tx31 tx32 tx18 tx75 tx52 , g83, F83.kp, bd83⟩
    have bd86 : Binds K e86 ["_law_kind", "_law_door", "_law_start", "_law_thing", "_law_row_here"] [] := b5 F86 fun _ _ _ _ _ _ _ _ _ _ _ => rfl
    have t86 : Cal l.prog w K mg base "_law_refused" 12 ["_law_kind", "_law_door", "_law_start", "_law_thing", "_law_row_here"] (spD 5 p_law_refused_9) f86 e86 := ⟨ok_law_refused F86 B    xcs g_IsRoot g_MissingRoot g_NoNumber g_NoPerson g_NoRoot g_OtherSize e_IsRoot_MissingRoot_NoNumber_NoPerson_NoRoot_OtherSize tx83 tx84 tx85 i_NoPerson j_NoPerson i_IsRoot_MissingRoot_NoNumber_NoRoot_OtherSize j_IsRoot_MissingRoot_NoNumber_NoRoot_OtherSize i_LookupError j_LookupError z_LookupError at_person , g86, F86.kp, bd86⟩
    have bd87 : Binds K e87 ["_law_source"] [] := b1 F87 fun _ _ _ _ _ _ _ => rfl
    have t87 : Cal l.prog w K mg base "_law_right" 13 ["_law_source"] (spD 1 p_k98_law_right) f87 e87 := ⟨ok_law_right (C_NoPerson := C_NoPerson) (C_OtherSize := C_OtherSize) F87 B t78 t82 t80 t86   hF_Circle t_ci tp_state tp_deeds , g87, F87.kp, bd87⟩
    have bd79 : Binds K e79 ["_law_script", "_law_most"] [] := b2 F79 fun _ _ _ _ _ _ _ _ => rfl
    have t79 : Cal l.prog w K mg base "_law_folded" 1 ["_law_script", "_law_most"] (spCells K) f79 e79 := ⟨ok_cells F79 B, g79, F79.kp, bd79⟩
    exact ok_law F88 B t79 t77 t87
end Lp

open PySem PySem.W PyProof.Rows
set_option maxHeartbeats 0 in
theorem PySem.Challenge.cw_lookpast_k98_people_who_are_not_there_holds : PySem.Challenge.rw_lookpast_k98_people_who_are_not_there.Holds := by
  w_on; o_law; k_head; (case hw => w_witness2)
  k_fill
  refine L2.walk_of (l := PySem.Challenge.rw_lookpast_k98_people_who_are_not_there) (n := 63) (k := 14) (x := "_law_script") (CX := fun _ => L2.CX0) (sp := fun w => Lp.spLaw _) rfl (by decide) rfl ⟨rfl, by decide, by decide⟩ (fun w h Y => PySem.W.kIn_of Y) ?F (fun _ _ a ns hl _ hS => ⟨a, ns, rfl, hS, hl, fun _ => rfl⟩) (fun _ _ _ _ _ h => h)
  case F =>
    intro w mg fa h KX G hmg
    refine' Lp.all_mk KX G hmg ?z ?d0 ?d2 ?d12 ?d13 ?d14 ?d15 ?d16 ?d17 ?d18 ?d19 ?d20 ?d21 ?d22 ?d24 ?d25 ?d26 ?d27 ?d28 ?d30 ?d31 ?d32 ?d34 ?d35 ?d36 ?d37 ?d38 ?d39 ?d40 ?d41 ?d42 ?d44 ?d45 ?d46 ?d47 ?d48 ?d49 ?d50 ?d51 ?d52 ?d54 ?d55 ?d56 ?d57 ?d58 ?d60 ?d63 ?d64 ?d67 ?d68 ?d69 ?d70 ?d71 ?d72 ?d74 ?d75 ?d77 ?d78 ?d79 ?d80 ?d81 ?d82 ?d83 ?d84 ?d85 ?d86 ?d87 ?d88  ?cg_IsRoot ?cg_MissingRoot ?cg_NoNumber ?cg_NoPerson ?cg_NoRoot ?cg_OtherSize ?cf_NoPerson ?ci_NoPerson ?ct_NoPerson ?cn_NoPerson ?ce_NoPerson ?ca_NoPerson_person ?cf_OtherSize ?ci_OtherSize ?ct_OtherSize ?cn_OtherSize ?ce_OtherSize ?ca_OtherSize_person ?cz_LookupError ?cz_ValueError ?cv_LookupError ?cv_ValueError ?e_IsRoot_MissingRoot_NoNumber_NoPerson_NoRoot_OtherSize ?i_NoPerson ?j_NoPerson ?i_IsRoot_MissingRoot_NoNumber_NoRoot_OtherSize ?j_IsRoot_MissingRoot_NoNumber_NoRoot_OtherSize ?i_LookupError ?j_LookupError ?cgCi ?cdCi ?cx0 ?cx1 ?cx2 ?cx3 ?cx4 ?cx5 ?cx6 ?cx7 ?cx8 ?cx9 ?ceI ?cfm_act ?cim_act ?ckm_act ?cem_act ?cfm_state ?cim_state ?ckm_state ?cem_state ?cfm_deeds ?cim_deeds ?ckm_deeds ?cem_deeds ?cfm_call ?cim_call ?ckm_call ?cem_call ?cfm_leave ?cim_leave ?ckm_leave ?cem_leave ?cfm_come ?cim_come ?ckm_come ?cem_come ?cfm_run ?cim_run ?ckm_run ?cem_run ?cfm_repeat ?cim_repeat ?ckm_repeat ?cem_repeat ?cDD ?ckd_call ?ckd_leave ?ckd_come ?ckd_run ?ckd_repeat ?cdx_come_deed
    (case z => refine' ⟨?_, ?_, ?_, ?_, ?_, ?_, ?_, ?_, ?_, ?_, ?_, ?_, ?_, ?_, ?_, ?_, ?_, ?_, ?_⟩ <;> k_is)
    (case d0 => refine' Lp.dx_mk ?a ?l ?c ?k; (case a => k_is); (case l => k_is); (case c => k_is); (case k => k_is))
    (case d2 => refine' Lp.dx_mk ?a ?l ?c ?k; (case a => k_is); (case l => k_is); (case c => k_is); (case k => k_is))
    (case d12 => refine' Lp.dx_mk ?a ?l ?c ?k; (case a => k_is); (case l => k_is); (case c => k_is); (case k => k_is))
    (case d13 => refine' Lp.dx_mk ?a ?l ?c ?k; (case a => k_is); (case l => k_is); (case c => k_is); (case k => k_is))
    (case d14 => refine' Lp.dx_mk ?a ?l ?c ?k; (case a => k_is); (case l => k_is); (case c => k_is); (case k => k_is))
    (case d15 => refine' Lp.dx_mk ?a ?l ?c ?k; (case a => k_is); (case l => k_is); (case c => k_is); (case k => k_is))
    (case d16 => refine' Lp.dx_mk ?a ?l ?c ?k; (case a => k_is); (case l => k_is); (case c => k_is); (case k => k_is))
    (case d17 => refine' Lp.dx_mk ?a ?l ?c ?k; (case a => k_is); (case l => k_is); (case c => k_is); (case k => k_is))
    (case d18 => refine' Lp.dx_mk ?a ?l ?c ?k; (case a => k_is); (case l => k_is); (case c => k_is); (case k => k_is))
    (case d19 => refine' Lp.dx_mk ?a ?l ?c ?k; (case a => k_is); (case l => k_is); (case c => k_is); (case k => k_is))
    (case d20 => refine' Lp.dx_mk ?a ?l ?c ?k; (case a => k_is); (case l => k_is); (case c => k_is); (case k => k_is))
    (case d21 => refine' Lp.dx_mk ?a ?l ?c ?k; (case a => k_is); (case l => k_is); (case c => k_is); (case k => k_is))
    (case d22 => refine' Lp.dx_mk ?a ?l ?c ?k; (case a => k_is); (case l => k_is); (case c => k_is); (case k => k_is))
    (case d24 => refine' Lp.dx_mk ?a ?l ?c ?k; (case a => k_is); (case l => k_is); (case c => k_is); (case k => k_is))
    (case d25 => refine' Lp.dx_mk ?a ?l ?c ?k; (case a => k_is); (case l => k_is); (case c => k_is); (case k => k_is))
    (case d26 => refine' Lp.dx_mk ?a ?l ?c ?k; (case a => k_is); (case l => k_is); (case c => k_is); (case k => k_is))
    (case d27 => refine' Lp.dx_mk ?a ?l ?c ?k; (case a => k_is); (case l => k_is); (case c => k_is); (case k => k_is))
    (case d28 => refine' Lp.dx_mk ?a ?l ?c ?k; (case a => k_is); (case l => k_is); (case c => k_is); (case k => k_is))
    (case d30 => refine' Lp.dx_mk ?a ?l ?c ?k; (case a => k_is); (case l => k_is); (case c => k_is); (case k => k_is))
    (case d31 => refine' Lp.dx_mk ?a ?l ?c ?k; (case a => k_is); (case l => k_is); (case c => k_is); (case k => k_is))
    (case d32 => refine' Lp.dx_mk ?a ?l ?c ?k; (case a => k_is); (case l => k_is); (case c => k_is); (case k => k_is))
    (case d34 => refine' Lp.dx_mk ?a ?l ?c ?k; (case a => k_is); (case l => k_is); (case c => k_is); (case k => k_is))
    (case d35 => refine' Lp.dx_mk ?a ?l ?c ?k; (case a => k_is); (case l => k_is); (case c => k_is); (case k => k_is))
    (case d36 => refine' Lp.dx_mk ?a ?l ?c ?k; (case a => k_is); (case l => k_is); (case c => k_is); (case k => k_is))
    (case d37 => refine' Lp.dx_mk ?a ?l ?c ?k; (case a => k_is); (case l => k_is); (case c => k_is); (case k => k_is))
    (case d38 => refine' Lp.dx_mk ?a ?l ?c ?k; (case a => k_is); (case l => k_is); (case c => k_is); (case k => k_is))
    (case d39 => refine' Lp.dx_mk ?a ?l ?c ?k; (case a => k_is); (case l => k_is); (case c => k_is); (case k => k_is))
    (case d40 => refine' Lp.dx_mk ?a ?l ?c ?k; (case a => k_is); (case l => k_is); (case c => k_is); (case k => k_is))
    (case d41 => refine' Lp.dx_mk ?a ?l ?c ?k; (case a => k_is); (case l => k_is); (case c => k_is); (case k => k_is))
    (case d42 => refine' Lp.dx_mk ?a ?l ?c ?k; (case a => k_is); (case l => k_is); (case c => k_is); (case k => k_is))
    (case d44 => refine' Lp.dx_mk ?a ?l ?c ?k; (case a => k_is); (case l => k_is); (case c => k_is); (case k => k_is))
    (case d45 => refine' Lp.dx_mk ?a ?l ?c ?k; (case a => k_is); (case l => k_is); (case c => k_is); (case k => k_is))
    (case d46 => refine' Lp.dx_mk ?a ?l ?c ?k; (case a => k_is); (case l => k_is); (case c => k_is); (case k => k_is))
    (case d47 => refine' Lp.dx_mk ?a ?l ?c ?k; (case a => k_is); (case l => k_is); (case c => k_is); (case k => k_is))
    (case d48 => refine' Lp.dx_mk ?a ?l ?c ?k; (case a => k_is); (case l => k_is); (case c => k_is); (case k => k_is))
    (case d49 => refine' Lp.dx_mk ?a ?l ?c ?k; (case a => k_is); (case l => k_is); (case c => k_is); (case k => k_is))
    (case d50 => refine' Lp.dx_mk ?a ?l ?c ?k; (case a => k_is); (case l => k_is); (case c => k_is); (case k => k_is))
    (case d51 => refine' Lp.dx_mk ?a ?l ?c ?k; (case a => k_is); (case l => k_is); (case c => k_is); (case k => k_is))
    (case d52 => refine' Lp.dx_mk ?a ?l ?c ?k; (case a => k_is); (case l => k_is); (case c => k_is); (case k => k_is))
    (case d54 => refine' Lp.dx_mk ?a ?l ?c ?k; (case a => k_is); (case l => k_is); (case c => k_is); (case k => k_is))
    (case d55 => refine' Lp.dx_mk ?a ?l ?c ?k; (case a => k_is); (case l => k_is); (case c => k_is); (case k => k_is))
    (case d56 => refine' Lp.dx_mk ?a ?l ?c ?k; (case a => k_is); (case l => k_is); (case c => k_is); (case k => k_is))
    (case d57 => refine' Lp.dx_mk ?a ?l ?c ?k; (case a => k_is); (case l => k_is); (case c => k_is); (case k => k_is))
    (case d58 => refine' Lp.dx_mk ?a ?l ?c ?k; (case a => k_is); (case l => k_is); (case c => k_is); (case k => k_is))
    (case d60 => refine' Lp.dx_mk ?a ?l ?c ?k; (case a => k_is); (case l => k_is); (case c => k_is); (case k => k_is))
    (case d63 => refine' Lp.dx_mk ?a ?l ?c ?k; (case a => k_is); (case l => k_is); (case c => k_is); (case k => k_is))
    (case d64 => refine' Lp.dx_mk ?a ?l ?c ?k; (case a => k_is); (case l => k_is); (case c => k_is); (case k => k_is))
    (case d67 => refine' Lp.dx_mk ?a ?l ?c ?k; (case a => k_is); (case l => k_is); (case c => k_is); (case k => k_is))
    (case d68 => refine' Lp.dx_mk ?a ?l ?c ?k; (case a => k_is); (case l => k_is); (case c => k_is); (case k => k_is))
    (case d69 => refine' Lp.dx_mk ?a ?l ?c ?k; (case a => k_is); (case l => k_is); (case c => k_is); (case k => k_is))
    (case d70 => refine' Lp.dx_mk ?a ?l ?c ?k; (case a => k_is); (case l => k_is); (case c => k_is); (case k => k_is))
    (case d71 => refine' Lp.dx_mk ?a ?l ?c ?k; (case a => k_is); (case l => k_is); (case c => k_is); (case k => k_is))
    (case d72 => refine' Lp.dx_mk ?a ?l ?c ?k; (case a => k_is); (case l => k_is); (case c => k_is); (case k => k_is))
    (case d74 => refine' Lp.dx_mk ?a ?l ?c ?k; (case a => k_is); (case l => k_is); (case c => k_is); (case k => k_is))
    (case d75 => refine' Lp.dx_mk ?a ?l ?c ?k; (case a => k_is); (case l => k_is); (case c => k_is); (case k => k_is))
    (case d77 => refine' Lp.dx_mk ?a ?l ?c ?k; (case a => k_is); (case l => k_is); (case c => k_is); (case k => k_is))
    (case d78 => refine' Lp.dx_mk ?a ?l ?c ?k; (case a => k_is); (case l => k_is); (case c => k_is); (case k => k_is))
    (case d79 => refine' Lp.dx_mk ?a ?l ?c ?k; (case a => k_is); (case l => k_is); (case c => k_is); (case k => k_is))
    (case d80 => refine' Lp.dx_mk ?a ?l ?c ?k; (case a => k_is); (case l => k_is); (case c => k_is); (case k => k_is))
    (case d81 => refine' Lp.dx_mk ?a ?l ?c ?k; (case a => k_is); (case l => k_is); (case c => k_is); (case k => k_is))
    (case d82 => refine' Lp.dx_mk ?a ?l ?c ?k; (case a => k_is); (case l => k_is); (case c => k_is); (case k => k_is))
    (case d83 => refine' Lp.dx_mk ?a ?l ?c ?k; (case a => k_is); (case l => k_is); (case c => k_is); (case k => k_is))
    (case d84 => refine' Lp.dx_mk ?a ?l ?c ?k; (case a => k_is); (case l => k_is); (case c => k_is); (case k => k_is))
    (case d85 => refine' Lp.dx_mk ?a ?l ?c ?k; (case a => k_is); (case l => k_is); (case c => k_is); (case k => k_is))
    (case d86 => refine' Lp.dx_mk ?a ?l ?c ?k; (case a => k_is); (case l => k_is); (case c => k_is); (case k => k_is))
    (case d87 => refine' Lp.dx_mk ?a ?l ?c ?k; (case a => k_is); (case l => k_is); (case c => k_is); (case k => k_is))
    (case d88 => refine' Lp.dx_mk ?a ?l ?c ?k; (case a => k_is); (case l => k_is); (case c => k_is); (case k => k_is))
    (case cg_IsRoot => k_is)
    (case cg_MissingRoot => k_is)
    (case cg_NoNumber => k_is)
    (case cg_NoPerson => k_is)
    (case cg_NoRoot => k_is)
    (case cg_OtherSize => k_is)
    (case cf_NoPerson => refine' Lp.clf_mk ?c1 ?c2 ?c3 ?c4 ?c5 ?c6 ?c7 ?c8 ?c9 ?c10 ?c11 ?c12; (case c1 => k_is); (case c2 => k_is); (case c3 => k_is); (case c4 => k_is); (case c5 => k_is); (case c6 => k_is); (case c7 => k_is); (case c8 => k_is); (case c9 => k_is); (case c10 => k_is); (case c11 => k_is); (case c12 => k_is))
    (case ci_NoPerson => k_is)
    (case ct_NoPerson => k_is)
    (case cn_NoPerson => k_is)
    (case ce_NoPerson => refine' Lp.funI_mk ?l ?c ?k; (case l => k_is); (case c => k_is); (case k => k_is))
    (case ca_NoPerson_person => k_is)
    (case cf_OtherSize => refine' Lp.clf_mk ?c1 ?c2 ?c3 ?c4 ?c5 ?c6 ?c7 ?c8 ?c9 ?c10 ?c11 ?c12; (case c1 => k_is); (case c2 => k_is); (case c3 => k_is); (case c4 => k_is); (case c5 => k_is); (case c6 => k_is); (case c7 => k_is); (case c8 => k_is); (case c9 => k_is); (case c10 => k_is); (case c11 => k_is); (case c12 => k_is))
    (case ci_OtherSize => k_is)
    (case ct_OtherSize => k_is)
    (case cn_OtherSize => k_is)
    (case ce_OtherSize => refine' Lp.funI_mk ?l ?c ?k; (case l => k_is); (case c => k_is); (case k => k_is))
    (case ca_OtherSize_person => k_is)
    (case cz_LookupError => k_is)
    (case cz_ValueError => k_is)
    (case cv_LookupError => k_is)
    (case cv_ValueError => k_is)
    (case e_IsRoot_MissingRoot_NoNumber_NoPerson_NoRoot_OtherSize => refine' ⟨fun _ => ?_, fun _ => ?_, trivial⟩ <;> first | exact rfl | kernel_rfl | k_is)
    (case i_NoPerson => refine' ⟨?_, ?_, trivial⟩ <;> first | exact rfl | kernel_rfl | k_is)
    (case j_NoPerson => first | exact rfl | kernel_rfl | k_is)
    (case i_IsRoot_MissingRoot_NoNumber_NoRoot_OtherSize => refine' ⟨?_, ?_, trivial⟩ <;> first | exact rfl | kernel_rfl | k_is)
    (case j_IsRoot_MissingRoot_NoNumber_NoRoot_OtherSize => first | exact rfl | kernel_rfl | k_is)
    (case i_LookupError => refine' ⟨?_, ?_, trivial⟩ <;> first | exact rfl | kernel_rfl | k_is)
    (case j_LookupError => first | exact rfl | kernel_rfl | k_is)
    (case cgCi => k_is)
    (case cdCi => k_is)
    (case cx0 => k_is)
    (case cx1 => k_is)
    (case cx2 => k_is)
    (case cx3 => k_is)
    (case cx4 => k_is)
    (case cx5 => k_is)
    (case cx6 => k_is)
    (case cx7 => k_is)
    (case cx8 => k_is)
    (case cx9 => k_is)
    (case ceI => refine' Lp.funI_mk ?l ?c ?k; (case l => k_is); (case c => k_is); (case k => k_is))
    (case cfm_act => k_is)
    (case cim_act => k_is)
    (case ckm_act => k_is)
    (case cem_act => refine' Lp.funI_mk ?l ?c ?k; (case l => k_is); (case c => k_is); (case k => k_is))
    (case cfm_state => k_is)
    (case cim_state => k_is)
    (case ckm_state => k_is)
    (case cem_state => refine' Lp.funI_mk ?l ?c ?k; (case l => k_is); (case c => k_is); (case k => k_is))
    (case cfm_deeds => k_is)
    (case cim_deeds => k_is)
    (case ckm_deeds => k_is)
    (case cem_deeds => refine' Lp.funI_mk ?l ?c ?k; (case l => k_is); (case c => k_is); (case k => k_is))
    (case cfm_call => k_is)
    (case cim_call => k_is)
    (case ckm_call => k_is)
    (case cem_call => refine' Lp.funI_mk ?l ?c ?k; (case l => k_is); (case c => k_is); (case k => k_is))
    (case cfm_leave => k_is)
    (case cim_leave => k_is)
    (case ckm_leave => k_is)
    (case cem_leave => refine' Lp.funI_mk ?l ?c ?k; (case l => k_is); (case c => k_is); (case k => k_is))
    (case cfm_come => k_is)
    (case cim_come => k_is)
    (case ckm_come => k_is)
    (case cem_come => refine' Lp.fund_mk ?l ?c ?k ?t ?d; (case l => k_is); (case c => k_is); (case k => k_is); (case t => k_is); (case d => first | rfl | k_is))
    (case cfm_run => k_is)
    (case cim_run => k_is)
    (case ckm_run => k_is)
    (case cem_run => refine' Lp.funI_mk ?l ?c ?k; (case l => k_is); (case c => k_is); (case k => k_is))
    (case cfm_repeat => k_is)
    (case cim_repeat => k_is)
    (case ckm_repeat => k_is)
    (case cem_repeat => refine' Lp.funI_mk ?l ?c ?k; (case l => k_is); (case c => k_is); (case k => k_is))
    (case cDD => exact He.dicW_ok (ks := ["call", "run", "repeat", "become", "come", "leave"]) (by first | rfl | kernel_rfl | k_is))
    (case ckd_call => refine' Lp.ckd_mk ?a ?b; (case a => k_is); (case b => k_is))
    (case ckd_leave => refine' Lp.ckd_mk ?a ?b; (case a => k_is); (case b => k_is))
    (case ckd_come => refine' Lp.ckd_mk ?a ?b; (case a => k_is); (case b => k_is))
    (case ckd_run => refine' Lp.ckd_mk ?a ?b; (case a => k_is); (case b => k_is))
    (case ckd_repeat => refine' Lp.ckd_mk ?a ?b; (case a => k_is); (case b => k_is))
    (case cdx_come_deed => refine' Lp.dxd_mk ?a ?l ?c ?k ?t ?d; (case a => k_is); (case l => k_is); (case c => k_is); (case k => k_is); (case t => k_is); (case d => first | rfl | k_is))


