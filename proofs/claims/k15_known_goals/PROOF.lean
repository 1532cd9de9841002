import PyProof.Rows.All
import Wide.All
import OpenK.AllK
import Wide.FinOn
import HandS.ForMost
import HandS.Walk
import HandS.IsInst
import HandS.Conv
import HandS.Zip
import HandS.Style
import HandS.Flow
import HandS.Strs
import HandS.Wide
import HandS.TupAny
import HandS.TupSets
import KE.KDictDisplayH
import HandS.DictComp
import HandS.SetBool
import HandS.Deep
import HandS.TupMul
import HandS.SortInts
import HandS.SortOrd
import PyProof.ReprRoads
import PyProof.Rows.RegFStrParts
import KE.GoesMore
import HandS.TupLe
import HandS.SetFor
import HandS.ExcInit
import KE.KExcInit
import HandS.ExcOwn
import HandS.WordsExc
import KE.KTryMore
import KE.KExcIs
import HandS.ExcField
import HandS.ExcIs
import HandS.CallLocal
import PySem.Challenge.RW_lookpast_k15_known_goals
set_option Elab.async false
set_option linter.all false
set_option maxRecDepth 100000
set_option maxHeartbeats 4000000
namespace Lp
open PySem PySem.Spec PyProof.Rows L2
def Sol (H : Hp) (a : Addr) (xs : List V) : Prop := ∃ o : Obj, o.dict = none ∧ H a = some (.frz o (.tup xs))
theorem Sol.seq {K : PySem.W.Frag} {H : Hp} {a : Addr} {xs : List V} (h : Sol H a xs) : SqT K H a xs := by
  obtain ⟨o, _, e⟩ := h
  exact .inl (.inr ⟨o, e⟩)
theorem Sol.to {H H' : Hp} {a : Addr} {xs : List V} (h : Sol H a xs) (s : Same H H') : Sol H' a xs := by
  obtain ⟨o, d, e⟩ := h
  exact ⟨o, d, s _ _ e⟩
theorem Sol.there {H : Hp} {a : Addr} {xs : List V} (h : Sol H a xs) : H a ≠ none := by
  obtain ⟨o, d, e⟩ := h
  rw [e]; exact fun z => nomatch z
theorem Sol.inj {H : Hp} {a : Addr} {xs ys : List V} (h : Sol H a xs) (k : Sol H a ys) : xs = ys := by
  obtain ⟨o, d, e⟩ := h
  obtain ⟨o', d', e'⟩ := k
  rw [e] at e'
  cases e'; rfl
abbrev objT (us : List Value) : Obj := { cls := .type "tuple", data := .seq us.toArray }
section
variable {X : Cx} {pins : List (Addr × Obj)} {σ : L2.St} {H : Hp} {s : Shared}
/-- a new tuple -/
theorem laidT {xs : List V} {us : List Value} (J : Inv X pins σ H s) (rel : Vals xs us) (few : xs.length ≤ sizeLine) : Inv X pins σ (upd H s.heap.objs.size (.frz (objT us) (.tup xs))) { s with heap := s.heap.push (objT us) } := by
  refine J.laid (t' := s.toks) (fun _ _ q => Heap.get?_push_of_some _ q) (Nat.le_refl _) ⟨Heap.get?_push_size _ rfl, few, us, rel, IsTup.new _ _⟩
theorem newT {xs : List V} {us : List Value} {Q : VK} (J : Inv X pins σ H s) (rel : Vals xs us) (few : xs.length ≤ sizeLine) (q : ∀ p o, H p = none → o.dict = none → Q (.ref p) (upd H p (.frz o (.tup xs)))) : EP X pins σ Q (.ref s.heap.objs.size) { s with heap := s.heap.push (objT us) } :=
  ⟨.ref s.heap.objs.size, _, laidT J rel few, rfl, q _ _ (J.hok.fresh (Nat.le_refl _)) rfl⟩
end
section
variable {X : Cx}
/-- (a, b, ..) -/
def tTupS (t : TA) : TE := fun σ H Q => t σ H fun xs H1 => xs.length ≤ sizeLine ∧ ∀ p o, H1 p = none → o.dict = none → Q (.ref p) (upd H1 p (.frz o (.tup xs)))
theorem pe_tupS {es : List Expr} {t : TA} {k : Nat} {pos : Pos} (args : PA X es t) : PE X (.Tuple es k pos) (tTupS t) := by
  constructor
  intro pins s σ H Q J want
  refine wpAny_Tuple_spliced (thn (args.run pos pins s σ H _ J want) ?_)
  rintro us s' ⟨xs, H', J', rel, few, q⟩
  exact ⟨by rw [← rel.length]; exact few, newT J' rel few q⟩
/-- tuple(xs) -/
def rTuple (K : PySem.W.Frag) : List V → Hp → VK → Prop := fun xs H Q => ∃ p ys, xs = [.ref p] ∧ ((SqL K H p ys ∧ ∀ l o, H l = none → o.dict = none → Q (.ref l) (upd H l (.frz o (.tup ys)))) ∨ (SqT K H p ys ∧ Q (.ref p) H))
theorem call_tupleS : CallR X (.type "tuple") (rTuple X.K) := by
  rintro pins s σ H xs us Q J rel ⟨p, ys, rfl, ways⟩
  obtain ⟨u, rfl, ru⟩ := vals1 rel
  cases ru
  rcases ways with ⟨at_p, q⟩ | ⟨at_p, q⟩
  · obtain ⟨its, rv, pl, few⟩ := J.list at_p
    have many := rv.length
    refine call_tuple_list pl.isList (fun h' keep => ?_) (by simp only [List.size_toArray]; omega)
    have J' : Inv X pins σ H { s with heap := h' } := J.kept (t' := s.toks) keep
    exact newT J' rv few q
  · obtain ⟨its, rv, pl, few⟩ := J.tuple at_p
    exact call_tuple_same pl ⟨.ref p, H, J, rfl, q⟩
/-- t + u -/
def rCatS (K : PySem.W.Frag) : R2 := fun x y H Q => ∃ a b xs ys, x = .ref a ∧ y = .ref b ∧ SqT K H a xs ∧ SqT K H b ys ∧ xs.length + ys.length ≤ sizeLine ∧
  (xs = [] → Q (.ref b) H) ∧ (ys = [] → Q (.ref a) H) ∧ ∀ p o, H p = none → o.dict = none → Q (.ref p) (upd H p (.frz o (.tup (xs ++ ys))))
theorem op_catS : OpR X (binaryOp .Add) (rCatS X.K) := by
  rintro pins s σ H x y v u Q J rx ry ⟨a, b, xs, ys, rfl, rfl, at_a, at_b, few, q0, q1, q2⟩
  cases rx
  cases ry
  obtain ⟨its, r1, p1, _⟩ := J.tuple at_a
  obtain ⟨jts, r2, p2, _⟩ := J.tuple at_b
  by_cases none_ : xs = []
  · subst none_
    cases r1
    exact cat_tup0 p1 p2 ⟨.ref b, H, J, rfl, q0 rfl⟩
  · refine HT.cat_tup p1 p2 (fun z => none_ (r1.nil_iff.mp z)) (fun z => ⟨.ref a, H, J, rfl, q1 (r2.nil_iff.mp z)⟩) (fun _ => ?_) (by rw [← r1.length, ← r2.length]; exact few)
    exact newT J (r1.append r2) (by rw [List.length_append]; exact few) q2
/-- t[lo:hi] -/
def rSlS (K : PySem.W.Frag) : V → Option Int → Option Int → Hp → VK → Prop := fun x lo hi H Q => ∃ a xs, x = .ref a ∧ SqT K H a xs ∧
  (cutV xs lo hi = xs → Q (.ref a) H) ∧ ∀ p o, H p = none → o.dict = none → Q (.ref p) (upd H p (.frz o (.tup (cutV xs lo hi))))
theorem sl_tupS : SlR X (rSlS X.K) := by
  rintro pins s σ H x v vl vu lo hi sl Q J rx hs pl pu ⟨a, xs, rfl, at_a, q1, q2⟩
  by_cases whole : HT.sIx xs.length 0 lo = 0 ∧ HT.sIx xs.length xs.length hi = xs.length
  · refine sl_tupA pins s σ H _ v vl vu lo hi sl Q J rx hs pl pu ⟨a, xs, rfl, at_a, fun _ => q1 ?_, fun z => absurd whole z⟩
    unfold cutV
    rw [whole.1, whole.2, List.drop_zero, Nat.sub_zero, List.take_length]
  · cases rx
    obtain ⟨its, rv, pt, few⟩ := J.tuple at_a
    have many : its.toArray.size = xs.length := by rw [List.size_toArray]; exact rv.length.symm
    refine ⟨"tuple", _, PyProof.Rows.slot_tuple_getitem.lookup, pt.typeIs, ?_⟩
    refine HT.getItem_tuple_cut pt hs pl pu (by rw [many]; exact whole) ?_ (by rw [many]; exact few)
    rw [many]
    exact newT J ((rv.drop (HT.sIx xs.length 0 lo)).take (HT.sIx xs.length xs.length hi - HT.sIx xs.length 0 lo)) (Nat.le_trans (cutV_length xs lo hi) few) q2
end
end Lp

namespace Lp
open PySem PySem.Spec PyProof.Rows L2
/-- a row of a dict: its key, the key's address, its value, the value as data -/
structure DRow where
  k : List Int
  b : Addr
  v : V
  d : PyData
abbrev tHash (k : List Int) : Int := reduceHash (Builtin.Tuple.tupleHashOf (k.map hashInt))
def dEnt (y : List Int × Addr × Value) : DictEntry := ⟨tHash y.1, .ref y.2.1, y.2.2⟩
def DRel (x : DRow) (y : List Int × Addr × Value) : Prop := x.k = y.1 ∧ x.b = y.2.1 ∧ RelV x.v y.2.2
def DT0 (h : Heap) (a : Addr) (xs : List DRow) : Prop := xs.length ≤ sizeLine ∧ (a == sysModules) = false ∧ (xs.map DRow.k).Nodup ∧ ∃ ys, Paired DRel xs ys ∧ ∃ o es ep, h.get? a = some o ∧ o.ExactDict ∧ o.data = .dict es ep ∧ es.toList = ys.map dEnt
/-- ob is the dict itself -/
def DctO (ob : Obj) (a : Addr) (xs : List DRow) : HO := .ext fun h => h.get? a = some ob ∧ DT0 h a xs
/-- there is such a dict at a -/
def IsDct (H : Hp) (a : Addr) (xs : List DRow) : Prop := ∃ ob, H a = some (DctO ob a xs)
theorem IsDct.ne {H : Hp} {a : Addr} {xs : List DRow} (x : IsDct H a xs) : H a ≠ none := by
  obtain ⟨ob, h⟩ := x
  rw [h]; exact fun z => nomatch z
theorem IsDct.mk {H : Hp} {ob : Obj} {a : Addr} {xs : List DRow} : IsDct (upd H a (DctO ob a xs)) a xs := ⟨ob, upd_same⟩
theorem DRel.keys : ∀ {xs : List DRow} {ys : List (List Int × Addr × Value)}, Paired DRel xs ys → xs.map DRow.k = ys.map (·.1)
  | _, _, .nil => rfl
  | _, _, .cons r t => by rw [List.map_cons, List.map_cons, r.1, DRel.keys t]
theorem DRel.mem : ∀ {xs : List DRow} {ys : List (List Int × Addr × Value)}, Paired DRel xs ys → ∀ y ∈ ys, ∃ x ∈ xs, DRel x y
  | _, _, .nil, y, h => nomatch h
  | _, _, .cons (a := x) r t, y, h => by
    rcases List.mem_cons.mp h with e | e
    · exact ⟨x, List.mem_cons_self, e ▸ r⟩
    · obtain ⟨z, hz, q⟩ := DRel.mem t y e
      exact ⟨z, List.mem_cons_of_mem _ hz, q⟩
theorem DT0.full {P : Program} {w : World} {h : Heap} {a : Addr} {xs : List DRow} (R : DT0 h a xs) (hk : ∀ x ∈ xs, IsT P w h x.k x.b) : ∃ ys, Paired DRel xs ys ∧ h.DictOfH (tupleKind (intKind P w)) a ys := by
  obtain ⟨h1, h2, h3, ys, h4, o, es, ep, ho, hx, hd, he⟩ := R
  refine ⟨ys, h4, o, es, ep, ho, hx, hd, he, fun y hy => ?_, by rw [← DRel.keys h4]; exact h3⟩
  obtain ⟨x, hx, r⟩ := DRel.mem h4 y hy
  rw [← r.1, ← r.2.1]
  exact hk x hx
theorem DT0.of {P : Program} {w : World} {h : Heap} {a : Addr} {xs : List DRow} {ys : List (List Int × Addr × Value)} (dd : h.DictOfH (tupleKind (intKind P w)) a ys) (r : Paired DRel xs ys) (hl : xs.length ≤ sizeLine) (hd : (a == sysModules) = false) : DT0 h a xs := by
  obtain ⟨o, es, ep, ho, hx, hd', he, _, nd⟩ := dd
  exact ⟨hl, hd, by rw [DRel.keys r]; exact nd, ys, r, o, es, ep, ho, hx, hd', he⟩
/-- at a: a dict with the rows xs -/
def DAtH (K : PySem.W.Frag) (H : Hp) (a : Addr) (xs : List DRow) : Prop := IsDct H a xs ∧ ∀ x ∈ xs, SqT K H x.b (x.k.map V.int)
section
variable {X : Cx} {pins : List (Addr × Obj)} {σ : L2.St} {H : Hp} {s : Shared} {a : Addr} {xs : List DRow}
theorem DAtH.full (I : Inv X pins σ H s) (x : DAtH X.K H a xs) : xs.length ≤ sizeLine ∧ (a == sysModules) = false ∧ ∃ ys, Paired DRel xs ys ∧ s.heap.DictOfH (tupleKind (intKind X.prog X.w)) a ys := by
  obtain ⟨ob, x1⟩ := x.1
  have R0 : DT0 s.heap a xs := (I.hok a _ x1).1.2
  exact ⟨R0.1, R0.2.1, R0.full fun y hy => I.isT (x.2 y hy)⟩
end
end Lp

namespace Lp
open PySem PySem.Spec PyProof.Rows L2
section
variable {P : Program} {w : World} {A : Around} {E : Value → Shared → Prop} {s : Shared} {a : Addr} {L : List (Addr × List Int)} {es : Array (Int × Value)} {ep : Nat} {t : SetTable}
end
/-- the set at a, as the world sees it -/
def SetTI (w : World) (a : Addr) (M : List (Addr × List Int)) : HO := .ext fun h => ∃ P, SetT0 P w h a M
section
variable {X : Cx} {pins : List (Addr × Obj)} {σ : L2.St} {H : Hp} {s : Shared} {a : Addr} {M : List (Addr × List Int)}
end
section
variable {X : Cx}
end
end Lp

namespace Lp
open PySem PySem.Spec PyProof.Rows L2
/-- the drawing box: its three numbers; c: at most so many draws so far -/
def Box (H : Hp) (b : Addr) (c : Nat) : Prop := ∃ x0 x1 x2 : Int, H b = some (.lst [.int x0, .int x1, .int x2]) ∧ 0 ≤ x0 ∧ 0 ≤ x1 ∧ x1 < 4611686018427387904 ∧ 0 ≤ x2 ∧ x2 ≤ (c : Int)
theorem Box.le {H : Hp} {b : Addr} {c d : Nat} (x : Box H b c) (h : c ≤ d) : Box H b d := by
  obtain ⟨x0, x1, x2, e, h0, h1, h2, h3, h4⟩ := x
  exact ⟨x0, x1, x2, e, h0, h1, h2, h3, by omega⟩
theorem Box.there {H : Hp} {b : Addr} {c : Nat} (x : Box H b c) : H b ≠ none := by
  obtain ⟨x0, x1, x2, e, _⟩ := x
  rw [e]; exact fun h => nomatch h
theorem Box.keep {H H' : Hp} {b : Addr} {c : Nat} (x : Box H b c) (h : H' b = H b) : Box H' b c := by
  obtain ⟨x0, x1, x2, e, r⟩ := x
  exact ⟨x0, x1, x2, h.trans e, r⟩
/-- the rows of a dict as data -/
def kvT (xs : List DRow) : List (PyData × PyData) := xs.map fun x => (.tuple (x.k.map PyData.int), x.d)
def kvI (ks : List Int) (ds : List PyData) : List (PyData × PyData) := (ks.zip ds).map fun p => (.int p.1, p.2)
def dkI (ks : List Int) (vs : List V) : List (Key × V) := (ks.zip vs).map fun p => (.inl p.1, p.2)
mutual
inductive DV (H : Hp) : V → PyData → Prop
  | non : DV H .non .none
  | bl (b : Bool) : DV H (.bl b) (.bool b)
  | int (i : Int) : DV H (.int i) (.int i)
  | str (x : Str) : DV H (.str x) (.str x)
  | lst {a : Addr} {xs : List V} {ds : List PyData} : H a = some (.lst xs) → DVs H xs ds → DV H (.ref a) (.list ds)
  | tup {a : Addr} {xs : List V} {ds : List PyData} : Sol H a xs → DVs H xs ds → DV H (.ref a) (.tuple ds)
  | dct {a : Addr} {xs : List DRow} : IsDct H a xs → (∀ x ∈ xs, Sol H x.b (x.k.map V.int)) → DVs H (xs.map DRow.v) (xs.map DRow.d) → DV H (.ref a) (.dict (kvT xs))
  | dci {a : Addr} {o : Obj} {ks : List Int} {vs : List V} {ds : List PyData} : H a = some (.frz o (.dK (dkI ks vs))) → ks.length = vs.length → ks.Nodup → DVs H vs ds → DV H (.ref a) (.dict ((.none, .none) :: kvI ks ds))
inductive DVs (H : Hp) : List V → List PyData → Prop
  | nil : DVs H [] []
  | cons {v : V} {vs : List V} {d : PyData} {ds : List PyData} : DV H v d → DVs H vs ds → DVs H (v :: vs) (d :: ds)
end
theorem IsDct.to {H H' : Hp} {a : Addr} {xs : List DRow} (s : Same H H') (h : IsDct H a xs) : IsDct H' a xs := by
  obtain ⟨ob, h⟩ := h
  exact ⟨ob, s _ _ h⟩
theorem DV.mono {H H' : Hp} (s : Same H H') (d : PyData) (v : V) (h : DV H v d) : DV H' v d :=
  DV.rec (motive_1 := fun v d _ => DV H' v d) (motive_2 := fun vs ds _ => DVs H' vs ds) .non (fun b => .bl b) (fun i => .int i) (fun x => .str x)
    (fun e _ r => .lst (s _ _ e) r) (fun e _ r => .tup (e.to s) r) (fun e k _ r => .dct (e.to s) (fun x hx => (k x hx).to s) r) (fun e l n _ r => .dci (s _ _ e) l n r) .nil (fun _ _ a r => .cons a r) h
theorem DVs.mono {H H' : Hp} (s : Same H H') (ds : List PyData) (vs : List V) (h : DVs H vs ds) : DVs H' vs ds :=
  DVs.rec (motive_1 := fun v d _ => DV H' v d) (motive_2 := fun vs ds _ => DVs H' vs ds) .non (fun b => .bl b) (fun i => .int i) (fun x => .str x)
    (fun e _ r => .lst (s _ _ e) r) (fun e _ r => .tup (e.to s) r) (fun e k _ r => .dct (e.to s) (fun x hx => (k x hx).to s) r) (fun e l n _ r => .dci (s _ _ e) l n r) .nil (fun _ _ a r => .cons a r) h
mutual
theorem DV.dp {K : PySem.W.Frag} {H : Hp} : ∀ (d : PyData) (v : V), d.hasDict = false → DV H v d → Dp K H v d
  | .none, _, _, h => by cases h; exact .non
  | .bool b, _, _, h => by cases h; exact .bl b
  | .int i, _, _, h => by cases h; exact .int i
  | .str x, _, _, h => by cases h; exact .str x
  | .list ds, _, n, h => by
    cases h with
    | lst e r => exact .lst (SqL.of e) (DVs.dp ds _ (by unfold PyData.hasDict at n; exact n) r)
  | .tuple ds, _, n, h => by
    cases h with
    | tup e r => exact .tup e.seq (DVs.dp ds _ (by unfold PyData.hasDict at n; exact n) r)
  | .dict _, _, n, h => by unfold PyData.hasDict at n; cases n
theorem DVs.dp {K : PySem.W.Frag} {H : Hp} : ∀ (ds : List PyData) (vs : List V), PyData.hasDictAll ds = false → DVs H vs ds → DpAll K H vs ds
  | [], _, _, h => by cases h; exact .nil
  | d :: ds, _, n, h => by
    unfold PyData.hasDictAll at n
    rw [Bool.or_eq_false_iff] at n
    cases h with
    | cons a r => exact .cons (DV.dp d _ n.1 a) (DVs.dp ds _ n.2 r)
end
/-- what can be told apart holds no dict -/
theorem sh_nd {d : PyData} (h : SeqAt.shaped d = true) : d.hasDict = false := PyData.hasDict_of_canLay d (SeqAt.canLay_of_shaped h)
theorem DV.to {H H' : Hp} {v : V} {d : PyData} (h : DV H v d) (s : Same H H') : DV H' v d := DV.mono s d v h
theorem DVs.to {H H' : Hp} {v : List V} {d : List PyData} (h : DVs H v d) (s : Same H H') : DVs H' v d := DVs.mono s d v h
theorem DVs.len {H : Hp} : ∀ {vs : List V} {ds : List PyData}, DVs H vs ds → vs.length = ds.length
  | _, _, .nil => rfl
  | _, _, .cons _ r => by rw [List.length_cons, List.length_cons, r.len]
theorem DVs.get {H : Hp} : ∀ {vs : List V} {ds : List PyData} {i : Nat} {d : PyData}, DVs H vs ds → ds[i]? = some d → ∃ v, vs[i]? = some v ∧ DV H v d
  | _, _, _, _, .nil, e => by simp at e
  | _, _, 0, _, .cons a _, e => by simp at e; subst e; exact ⟨_, rfl, a⟩
  | _, _, i + 1, d, .cons _ r, e => by
    obtain ⟨v, h1, h2⟩ := DVs.get (i := i) (d := d) r (by simpa using e)
    exact ⟨v, by simpa using h1, h2⟩
theorem DVs.app {H : Hp} : ∀ {vs us : List V} {ds es : List PyData}, DVs H vs ds → DVs H us es → DVs H (vs ++ us) (ds ++ es)
  | _, _, _, _, .nil, s => s
  | _, _, _, _, .cons a r, s => .cons a (r.app s)
theorem DVs.take {H : Hp} : ∀ {vs : List V} {ds : List PyData} (n : Nat), DVs H vs ds → DVs H (vs.take n) (ds.take n)
  | _, _, 0, _ => by rw [List.take_zero, List.take_zero]; exact .nil
  | _, _, _ + 1, .nil => .nil
  | _, _, n + 1, .cons a r => .cons a (r.take n)
theorem DVs.drop {H : Hp} : ∀ {vs : List V} {ds : List PyData} (n : Nat), DVs H vs ds → DVs H (vs.drop n) (ds.drop n)
  | _, _, 0, r => by rw [List.drop_zero, List.drop_zero]; exact r
  | _, _, _ + 1, .nil => .nil
  | _, _, n + 1, .cons a r => r.drop n
theorem DVs.set {H : Hp} {v : V} {d : PyData} (h : DV H v d) : ∀ {vs : List V} {ds : List PyData} (n : Nat), DVs H vs ds → DVs H (vs.set n v) (ds.set n d)
  | _, _, _, .nil => .nil
  | _, _, 0, .cons _ r => .cons h r
  | _, _, n + 1, .cons a r => .cons a (DVs.set h n r)
theorem DVs.one {H : Hp} {v : V} {d : PyData} (h : DV H v d) : DVs H [v] [d] := .cons h .nil
mutual
def imm : PyData → Bool
  | .list _ => false
  | .dict _ => false
  | .tuple ds => imms ds
  | _ => true
def imms : List PyData → Bool
  | [] => true
  | d :: ds => imm d && imms ds
end
mutual
theorem DV.imm {H H' : Hp} (s : ∀ a xs, Sol H a xs → Sol H' a xs) : ∀ (d : PyData) (v : V), imm d = true → DV H v d → DV H' v d
  | .none, _, _, h => by cases h; exact .non
  | .bool b, _, _, h => by cases h; exact .bl b
  | .int i, _, _, h => by cases h; exact .int i
  | .str x, _, _, h => by cases h; exact .str x
  | .list ds, _, i, h => by unfold Lp.imm at i; cases i
  | .tuple ds, _, i, h => by
    unfold Lp.imm at i
    cases h with
    | tup e r => exact .tup (s _ _ e) (DVs.imm s ds _ i r)
  | .dict _, _, i, h => by unfold Lp.imm at i; cases i
theorem DVs.imm {H H' : Hp} (s : ∀ a xs, Sol H a xs → Sol H' a xs) : ∀ (ds : List PyData) (vs : List V), imms ds = true → DVs H vs ds → DVs H' vs ds
  | [], _, _, h => by cases h; exact .nil
  | d :: ds, _, i, h => by
    unfold Lp.imms at i
    rw [Bool.and_eq_true] at i
    cases h with
    | cons a r => exact .cons (DV.imm s d _ i.1 a) (DVs.imm s ds _ i.2 r)
end
theorem ne_at {H : Hp} {a p : Addr} (h : H a ≠ none) (n : H p = none) : a ≠ p := fun z => h (by rw [z]; exact n)

/-- L: what stands still; from (L, H) to (L', H'): nothing that stood still moves, what is (but the box b) stays, and what was there and not of L stays out of L -/
structure Ext (b : Option Addr) (L H L' H' : Hp) : Prop where
  ll : Same L L'
  hh : ∀ a o, H a = some o → b ≠ some a → H' a = some o
  dom : ∀ a, H a ≠ none → H' a ≠ none
  fr : ∀ a, L a = none → H a ≠ none → L' a = none
theorem Ext.refl (b : Option Addr) (L H : Hp) : Ext b L H L H := ⟨Same.refl L, fun _ _ h _ => h, fun _ h => h, fun _ h _ => h⟩
theorem Ext.trans {b : Option Addr} {L H L1 H1 L2 H2 : Hp} (x : Ext b L H L1 H1) (y : Ext b L1 H1 L2 H2) : Ext b L H L2 H2 :=
  ⟨x.ll.trans y.ll, fun a o h n => y.hh a o (x.hh a o h n) n, fun a h => y.dom a (x.dom a h), fun a h n => y.fr a (x.fr a h n) (x.dom a n)⟩
theorem Ext.free {b : Option Addr} {L H L' H' : Hp} (x : Ext b L H L' H') {a : Addr} (h : H' a = none) : H a = none := by
  cases q : H a with
  | none => rfl
  | some o => exact absurd h (x.dom a (by rw [q]; exact fun z => nomatch z))
theorem Ext.any {b : Option Addr} {L H L' H' : Hp} (x : Ext none L H L' H') : Ext b L H L' H' := ⟨x.ll, fun a o h _ => x.hh a o h (fun z => nomatch z), x.dom, x.fr⟩
theorem Same.dom {H H' : Hp} (s : Same H H') (a : Addr) (h : H a ≠ none) : H' a ≠ none := by
  cases q : H a with
  | none => exact absurd q h
  | some o => rw [s a o q]; exact fun z => nomatch z
/-- a new object that stands still -/
theorem Ext.new {b : Option Addr} {L H : Hp} {p : Addr} {o : HO} (s : Same L H) (n : H p = none) : Ext b L H (upd L p o) (upd H p o) := by
  refine ⟨fun a u h => ?_, fun a u h _ => ?_, fun a h => ?_, fun a h d => ?_⟩
  · rw [upd_ne (ne_of_none h (s.free n))]; exact h
  · rw [upd_ne (ne_of_none h n)]; exact h
  · rw [upd_ne (ne_at h n)]; exact h
  · rw [upd_ne (ne_at d n)]; exact h
/-- a new object beside -/
theorem Ext.own {b : Option Addr} {L H : Hp} {p : Addr} {o : HO} (n : H p = none) : Ext b L H L (upd H p o) := by
  refine ⟨Same.refl L, fun a u h _ => ?_, fun a h => ?_, fun a h _ => h⟩
  · rw [upd_ne (ne_of_none h n)]; exact h
  · rw [upd_ne (ne_at h n)]; exact h
theorem same_own {L H : Hp} {p : Addr} {o : HO} (s : Same L H) (n : L p = none) : Same L (upd H p o) := fun a u h => by
  rw [upd_ne (ne_of_none h n)]; exact s a u h
theorem same_both {L H : Hp} {p : Addr} {o : HO} (s : Same L H) : Same (upd L p o) (upd H p o) := fun a u h => by
  by_cases e : a = p
  · subst e; rw [upd_same] at h ⊢; exact h
  · rw [upd_ne e] at h ⊢; exact s a u h
/-- what is published -/
theorem same_pub {L H : Hp} {p : Addr} {o : HO} (s : Same L H) (e : H p = some o) : Same (upd L p o) H := fun a u h => by
  by_cases q : a = p
  · subst q; rw [upd_same] at h; rw [e]; exact h
  · rw [upd_ne q] at h; exact s a u h
theorem same_upd {L : Hp} {p : Addr} {o : HO} (n : L p = none) : Same L (upd L p o) := fun a u h => by
  rw [upd_ne (ne_of_none h n)]; exact h
/-- what a body knows of its caller -/
structure Zx where
  b : Option Addr
  L0 : Hp
  H0 : Hp
  P : Hp
/-- an exception: the name of its class, its fields -/
structure Xn where
  cls : Str
  fs : List (Str × PyData)
/-- what is taken for granted: the world, the classes of exceptions by name, what is known of the caller -/
structure Wx where
  w : World
  cl : Str → Option Addr
  Φ : Zx → Prop
  up : ∀ (Z : Zx) (P : Hp), Same Z.P P → Φ Z → Φ { Z with P := P }
  hp : ∀ (Z : Zx) (a : Addr) (o : HO), Z.H0 a = none → Z.b ≠ some a → Φ Z → Φ { Z with H0 := upd Z.H0 a o }
instance : Coe Wx World := ⟨Wx.w⟩
abbrev W0 (w : World) : Wx := ⟨w, fun _ => none, fun _ => True, fun _ _ _ _ => trivial, fun _ _ _ _ _ _ => trivial⟩
/-- at a: an exception of the class at C that was caught, its dict at d -/
def exc (a : Addr) (c : Value) (d : Option Addr) : HO := .ext fun h => ∃ oe vs, h.get? a = some oe ∧ oe.cls = c ∧ oe.dict = d ∧ oe.data = .fields vs
inductive FVs (H : Hp) : List (Str × V) → List (Str × PyData) → Prop
  | nil : FVs H [] []
  | cons {f : Str} {v : V} {d : PyData} {vs : List (Str × V)} {ds : List (Str × PyData)} : DV H v d → FVs H vs ds → FVs H ((f, v) :: vs) ((f, d) :: ds)
theorem FVs.to {H H' : Hp} (s : Same H H') : ∀ {vs : List (Str × V)} {ds : List (Str × PyData)}, FVs H vs ds → FVs H' vs ds
  | _, _, .nil => .nil
  | _, _, .cons a r => .cons (DV.to a s) (FVs.to s r)
/-- the fields of an exception -/
def XF (H : Hp) (d : Option Addr) (fs : List (Str × PyData)) : Prop := match d with
  | none => fs = []
  | some dx => ∃ vs, H dx = some (.xd vs) ∧ FVs H vs fs
theorem XF.to {H H' : Hp} (s : Same H H') {d : Option Addr} {fs : List (Str × PyData)} (x : XF H d fs) : XF H' d fs := by
  cases d with
  | none => exact x
  | some dx =>
    obtain ⟨vs, h1, h2⟩ := x
    exact ⟨vs, s _ _ h1, h2.to s⟩
def XV (w : Wx) (H : Hp) (v : V) (x : Xn) : Prop := ∃ a C d, v = .ref a ∧ w.cl x.cls = some C ∧ H a = some (exc a (.ref C) d) ∧ XF H d x.fs
theorem XV.to {w : Wx} {H H' : Hp} {v : V} {x : Xn} (h : XV w H v x) (s : Same H H') : XV w H' v x := by
  obtain ⟨a, C, d, h1, h2, h3, h4⟩ := h
  exact ⟨a, C, d, h1, h2, s _ _ h3, h4.to s⟩
/-- the rows of a dict stand still -/
def KD (L : Hp) (xs : List DRow) : Prop := ∀ x ∈ xs, Sol L x.b (x.k.map V.int) ∧ DV L x.v x.d
theorem KD.to {L L' : Hp} {xs : List DRow} (s : Same L L') (h : KD L xs) : KD L' xs := fun x hx => ⟨(h x hx).1.to s, (h x hx).2.to s⟩
/-- the members of a set of tuples stand still; M: the members, some perhaps more than once -/
def TSM (L : Hp) (A : List (Addr × List Int)) (M : List (List Int)) : Prop := (∀ p ∈ A, Sol L p.1 (p.2.map V.int)) ∧ A.length ≤ M.length ∧ ∀ k, k ∈ A.map (·.2) ↔ k ∈ M
theorem TSM.to {L L' : Hp} {A : List (Addr × List Int)} {M : List (List Int)} (h : TSM L A M) (s : Same L L') : TSM L' A M := ⟨fun p hp => (h.1 p hp).to s, h.2⟩
def DVd (L : Hp) (v : V) (xs : List DRow) : Prop := ∃ a, v = .ref a ∧ IsDct L a xs ∧ KD L xs
theorem DVd.to {L L' : Hp} {v : V} {xs : List DRow} (s : Same L L') (h : DVd L v xs) : DVd L' v xs := by
  obtain ⟨a, h1, h2, h3⟩ := h
  obtain ⟨ob, h2⟩ := h2
  exact ⟨a, h1, ⟨ob, s _ _ h2⟩, h3.to s⟩
/-- a shared thing of any kind: what it is, in the heap that stands still -/
structure Gn where
  ok : Hp → V → Prop
  mono : ∀ {H H' : Hp} {v : V}, Same H H' → ok H v → ok H' v
inductive SV where
  | un | sh (d : PyData) | ow (ds : List PyData) | bx | st (S : Int → Bool) (n : Nat) | raw (v : V) | exn (x : Xn) | dco (xs : List DRow) | dsh (xs : List DRow) | sto (M : List (List Int)) | gen (g : Gn)
structure Env where
  s : List SV
  c : Nat
def Env.set (ε : Env) (i : Nat) (x : SV) : Env := ⟨ε.s.set i x, ε.c⟩
def Own : SV → Bool
  | .ow _ => true
  | .st _ _ => true
  | .dco _ => true
  | .sto _ => true
  | _ => false
def SlotR (w : Wx) (Z : Zx) (O : Addr → Prop) (L H : Hp) (o : Option V) : SV → Prop
  | .un => True
  | .sh d => ∃ v, o = some v ∧ DV L v d
  | .ow ds => ∃ a xs, o = some (.ref a) ∧ O a ∧ L a = none ∧ Z.H0 a = none ∧ H a = some (.lst xs) ∧ DVs L xs ds
  | .bx => ∃ b, Z.b = some b ∧ o = some (.ref b)
  | .st S n => ∃ a, o = some (.ref a) ∧ O a ∧ L a = none ∧ Z.H0 a = none ∧ H a = some (SetO w a S n)
  | .raw v => o = some v
  | .exn x => ∃ v, o = some v ∧ XV w L v x
  | .dco xs => ∃ a, o = some (.ref a) ∧ O a ∧ L a = none ∧ Z.H0 a = none ∧ IsDct H a xs ∧ KD L xs
  | .dsh xs => ∃ v, o = some v ∧ DVd L v xs
  | .gen g => ∃ v, o = some v ∧ g.ok L v
  | .sto M => ∃ a A, o = some (.ref a) ∧ O a ∧ L a = none ∧ Z.H0 a = none ∧ H a = some (SetTI w.w a A) ∧ TSM L A M
structure Rep (w : Wx) (Z : Zx) (O : Addr → Prop) (L H : Hp) (σ : L2.St) (ε : Env) : Prop where
  lh : Same L H
  pn : Same Z.P L
  ex : Ext Z.b Z.L0 Z.H0 L H
  bo : ∀ b, Z.b = some b → L b = none ∧ Box H b ε.c ∧ Z.H0 b ≠ none
  oh : ∀ a, O a → H a ≠ none ∧ Z.H0 a = none
  len : σ.length = ε.s.length
  sl : ∀ (i : Nat) (x : SV), ε.s[i]? = some x → ∃ o, σ[i]? = some o ∧ SlotR w Z O L H o x
  di : ∀ (i j : Nat) (x y : SV) (a : Addr), i ≠ j → ε.s[i]? = some x → ε.s[j]? = some y → Own x = true → Own y = true → σ[i]? = some (some (.ref a)) → σ[j]? ≠ some (some (.ref a))
  ph : w.Φ Z
inductive R where
  | sh (d : PyData) | nw (ds : List PyData) | br (i : Nat) (ds : List PyData) | bx | raw (v : V) | sr (i : Nat) (S : Int → Bool) (n : Nat) | exn (x : Xn) | dnw (xs : List DRow) | dbr (i : Nat) (xs : List DRow) | dsh (xs : List DRow) | srt (i : Nat) (M : List (List Int)) | gen (g : Gn)
def VR (w : Wx) (Z : Zx) (O : Addr → Prop) (σ : L2.St) (Hs L H : Hp) (v : V) : R → Prop
  | .sh d => DV L v d
  | .nw ds => ∃ a xs, v = .ref a ∧ Hs a = none ∧ ¬ O a ∧ Z.H0 a = none ∧ L a = none ∧ H a = some (.lst xs) ∧ DVs L xs ds
  | .br i ds => ∃ a xs, v = .ref a ∧ σ[i]? = some (some (.ref a)) ∧ O a ∧ Z.H0 a = none ∧ L a = none ∧ H a = some (.lst xs) ∧ DVs L xs ds
  | .bx => ∃ b, Z.b = some b ∧ v = .ref b
  | .raw u => v = u
  | .sr i S n => ∃ a, v = .ref a ∧ σ[i]? = some (some (.ref a)) ∧ O a ∧ Z.H0 a = none ∧ L a = none ∧ H a = some (SetO w a S n)
  | .exn x => XV w L v x
  | .dnw xs => ∃ a, v = .ref a ∧ Hs a = none ∧ ¬ O a ∧ Z.H0 a = none ∧ L a = none ∧ IsDct H a xs ∧ KD L xs
  | .dbr i xs => ∃ a, v = .ref a ∧ σ[i]? = some (some (.ref a)) ∧ O a ∧ Z.H0 a = none ∧ L a = none ∧ IsDct H a xs ∧ KD L xs
  | .dsh xs => DVd L v xs
  | .gen g => g.ok L v
  | .srt i M => ∃ a A, v = .ref a ∧ σ[i]? = some (some (.ref a)) ∧ O a ∧ Z.H0 a = none ∧ L a = none ∧ H a = some (SetTI w.w a A) ∧ TSM L A M
/-- as VR, for what operations give: nothing of the slots -/
def VR0 (Hs L H : Hp) (v : V) : R → Prop
  | .sh d => DV L v d
  | .nw ds => ∃ a xs, v = .ref a ∧ Hs a = none ∧ L a = none ∧ H a = some (.lst xs) ∧ DVs L xs ds
  | .dnw xs => ∃ a, v = .ref a ∧ Hs a = none ∧ L a = none ∧ IsDct H a xs ∧ KD L xs
  | .dsh xs => DVd L v xs
  | .gen g => g.ok L v
  | _ => False
section
variable {w : Wx} {Z : Zx} {O : Addr → Prop} {σ : L2.St} {ε : Env} {Hs L H L' H' : Hp} {v : V} {r : R}
theorem Rep.nob (x : Rep w Z O L H σ ε) {a : Addr} (h : Z.H0 a = none) : Z.b ≠ some a := fun e => (x.bo a e).2.2 h
theorem VR.mono (x : VR w Z O σ Hs L H v r) (y : Rep w Z O L H σ ε) (e : Ext Z.b L H L' H') : VR w Z O σ Hs L' H' v r := by
  cases r with
  | sh d => exact DV.to x e.ll
  | nw ds =>
    obtain ⟨a, xs, rfl, h1, h2, h3, h4, h5, h6⟩ := x
    exact ⟨a, xs, rfl, h1, h2, h3, e.fr a h4 (by rw [h5]; exact fun z => nomatch z), e.hh a _ h5 (y.nob h3), h6.to e.ll⟩
  | br i ds =>
    obtain ⟨a, xs, rfl, h1, h2, h3, h4, h5, h6⟩ := x
    exact ⟨a, xs, rfl, h1, h2, h3, e.fr a h4 (by rw [h5]; exact fun z => nomatch z), e.hh a _ h5 (y.nob h3), h6.to e.ll⟩
  | bx => exact x
  | raw u => exact x
  | exn y => exact XV.to x e.ll
  | sr i S n =>
    obtain ⟨a, rfl, h1, h2, h3, h4, h5⟩ := x
    exact ⟨a, rfl, h1, h2, h3, e.fr a h4 (by rw [h5]; exact fun z => nomatch z), e.hh a _ h5 (y.nob h3)⟩
  | dnw xs =>
    obtain ⟨a, rfl, h1, h2, h3, h4, ⟨ob, h5⟩, h6⟩ := x
    exact ⟨a, rfl, h1, h2, h3, e.fr a h4 (by rw [h5]; exact fun z => nomatch z), ⟨ob, e.hh a _ h5 (y.nob h3)⟩, h6.to e.ll⟩
  | dbr i xs =>
    obtain ⟨a, rfl, h1, h2, h3, h4, ⟨ob, h5⟩, h6⟩ := x
    exact ⟨a, rfl, h1, h2, h3, e.fr a h4 (by rw [h5]; exact fun z => nomatch z), ⟨ob, e.hh a _ h5 (y.nob h3)⟩, h6.to e.ll⟩
  | srt i M =>
    obtain ⟨a, A, rfl, h1, h2, h3, h4, h5, h6⟩ := x
    exact ⟨a, A, rfl, h1, h2, h3, e.fr a h4 (by rw [h5]; exact fun z => nomatch z), e.hh a _ h5 (y.nob h3), h6.to e.ll⟩
  | dsh xs => exact DVd.to e.ll x
  | gen g => exact g.mono e.ll x
theorem VR.back (x : VR w Z O σ Hs L H v r) {Hr Lr : Hp} (e : Ext Z.b Lr Hr L' Hs) : VR w Z O σ Hr L H v r := by
  cases r with
  | nw ds =>
    obtain ⟨a, xs, rfl, h1, h2, h3, h4, h5, h6⟩ := x
    exact ⟨a, xs, rfl, e.free h1, h2, h3, h4, h5, h6⟩
  | dnw xs =>
    obtain ⟨a, rfl, h1, h2, h3, h4, h5, h6⟩ := x
    exact ⟨a, rfl, e.free h1, h2, h3, h4, h5, h6⟩
  | _ => exact x
theorem VR0.vr (x : VR0 Hs L H v r) (y : Rep w Z O L' Hs σ ε) : VR w Z O σ Hs L H v r := by
  cases r with
  | sh d => exact x
  | nw ds =>
    obtain ⟨a, xs, rfl, h1, h4, h5, h6⟩ := x
    exact ⟨a, xs, rfl, h1, fun o => (y.oh a o).1 h1, y.ex.free h1, h4, h5, h6⟩
  | br i ds => exact x.elim
  | bx => exact x.elim
  | raw u => exact x.elim
  | sr i S n => exact x.elim
  | exn y => exact x.elim
  | dnw xs =>
    obtain ⟨a, rfl, h1, h4, h5, h6⟩ := x
    exact ⟨a, rfl, h1, fun o => (y.oh a o).1 h1, y.ex.free h1, h4, h5, h6⟩
  | dbr i xs => exact x.elim
  | srt i M => exact x.elim
  | dsh xs => exact x
  | gen g => exact x
/-- what an operation leaves, the slots hold -/
theorem Rep.step (x : Rep w Z O L H σ ε) (e : Ext none L H L' H') (s : Same L' H') : Rep w Z O L' H' σ ε := by
  have hh : ∀ a o, H a = some o → H' a = some o := fun a o h => e.hh a o h fun z => nomatch z
  refine ⟨s, x.pn.trans e.ll, x.ex.trans e.any, fun b hb => ?_, fun a h => ⟨e.dom a (x.oh a h).1, (x.oh a h).2⟩, x.len, fun i y hy => ?_, x.di, x.ph⟩
  · obtain ⟨h1, h2, h3⟩ := x.bo b hb
    refine ⟨e.fr b h1 h2.there, ?_, h3⟩
    obtain ⟨x0, x1, x2, q, r⟩ := h2
    exact ⟨x0, x1, x2, hh _ _ q, r⟩
  · obtain ⟨o, h1, h2⟩ := x.sl i y hy
    refine ⟨o, h1, ?_⟩
    cases y with
    | un => trivial
    | sh d =>
      obtain ⟨v, e1, e2⟩ := h2
      exact ⟨v, e1, e2.to e.ll⟩
    | ow ds =>
      obtain ⟨a, xs, e1, e2, e3, e4, e5, e6⟩ := h2
      exact ⟨a, xs, e1, e2, e.fr a e3 (by rw [e5]; exact fun z => nomatch z), e4, hh _ _ e5, e6.to e.ll⟩
    | bx => exact h2
    | st S n =>
      obtain ⟨a, e1, e2, e3, e4, e5⟩ := h2
      exact ⟨a, e1, e2, e.fr a e3 (by rw [e5]; exact fun z => nomatch z), e4, hh _ _ e5⟩
    | raw u => exact h2
    | exn x => obtain ⟨v, e1, e2⟩ := h2; exact ⟨v, e1, e2.to e.ll⟩
    | dco xs =>
      obtain ⟨a, e1, e2, e3, e4, ⟨ob, e5⟩, e6⟩ := h2
      exact ⟨a, e1, e2, e.fr a e3 (by rw [e5]; exact fun z => nomatch z), e4, ⟨ob, hh _ _ e5⟩, e6.to e.ll⟩
    | sto M =>
      obtain ⟨a, A, e1, e2, e3, e4, e5, e6⟩ := h2
      exact ⟨a, A, e1, e2, e.fr a e3 (by rw [e5]; exact fun z => nomatch z), e4, hh _ _ e5, e6.to e.ll⟩
    | dsh xs => obtain ⟨v, e1, e2⟩ := h2; exact ⟨v, e1, e2.to e.ll⟩
    | gen g => obtain ⟨v, e1, e2⟩ := h2; exact ⟨v, e1, g.mono e.ll e2⟩
/-- what was held apart is as before -/
theorem VR.thaw0 {Z : Zx} {a0 : Addr} {o : HO} (h : VR w { Z with H0 := upd Z.H0 a0 o } O σ Hs L H v r) : VR w Z O σ Hs L H v r := by
  have back : ∀ b, upd Z.H0 a0 o b = none → Z.H0 b = none := fun b e => by
    by_cases q : b = a0
    · rw [q, upd_same] at e; cases e
    · rw [upd_ne q] at e; exact e
  cases r with
  | nw ds =>
    obtain ⟨a, xs, rfl, h1, h2, h3, h4⟩ := h
    exact ⟨a, xs, rfl, h1, h2, back a h3, h4⟩
  | br i ds =>
    obtain ⟨a, xs, rfl, h1, h2, h3, h4⟩ := h
    exact ⟨a, xs, rfl, h1, h2, back a h3, h4⟩
  | sr i S n =>
    obtain ⟨a, rfl, h1, h2, h3, h4⟩ := h
    exact ⟨a, rfl, h1, h2, back a h3, h4⟩
  | dnw xs =>
    obtain ⟨a, rfl, h1, h2, h3, h4⟩ := h
    exact ⟨a, rfl, h1, h2, back a h3, h4⟩
  | dbr i xs =>
    obtain ⟨a, rfl, h1, h2, h3, h4⟩ := h
    exact ⟨a, rfl, h1, h2, back a h3, h4⟩
  | srt i M =>
    obtain ⟨a, A, rfl, h1, h2, h3, h4⟩ := h
    exact ⟨a, A, rfl, h1, h2, back a h3, h4⟩
  | _ => exact h
theorem Rep.thaw0 {Z : Zx} {a0 : Addr} {o : HO} (h0 : Z.H0 a0 = none) (hb : Z.b ≠ some a0) (ph : w.Φ Z) (x : Rep w { Z with H0 := upd Z.H0 a0 o } O L H σ ε) : Rep w Z O L H σ ε := by
  have back : ∀ b, upd Z.H0 a0 o b = none → Z.H0 b = none := fun b e => by
    by_cases q : b = a0
    · rw [q, upd_same] at e; cases e
    · rw [upd_ne q] at e; exact e
  have up : ∀ b u, Z.H0 b = some u → upd Z.H0 a0 o b = some u := fun b u e => by
    by_cases q : b = a0
    · rw [q, h0] at e; cases e
    · rw [upd_ne q]; exact e
  have upn : ∀ b, Z.H0 b ≠ none → upd Z.H0 a0 o b ≠ none := fun b e => by
    by_cases q : b = a0
    · rw [q, upd_same]; exact fun z => nomatch z
    · rw [upd_ne q]; exact e
  refine ⟨x.lh, x.pn, ⟨x.ex.ll, fun b u e nb => x.ex.hh b u (up b u e) nb, fun b e => x.ex.dom b (upn b e), fun b l e => x.ex.fr b l (upn b e)⟩, fun b e => ?_, fun b e => ⟨(x.oh b e).1, back b (x.oh b e).2⟩, x.len, fun i y hy => ?_, x.di, ph⟩
  · obtain ⟨q1, q2, q3⟩ := x.bo b e
    refine ⟨q1, q2, ?_⟩
    have ne : b ≠ a0 := fun q => hb (by rw [← q]; exact e)
    have q3 : upd Z.H0 a0 o b ≠ none := q3
    rw [upd_ne ne] at q3
    exact q3
  · obtain ⟨u, q1, q2⟩ := x.sl i y hy
    refine ⟨u, q1, ?_⟩
    cases y with
    | ow ds =>
      obtain ⟨b, xs, e1, e2, e3, e4, e5⟩ := q2
      exact ⟨b, xs, e1, e2, e3, back b e4, e5⟩
    | st S n =>
      obtain ⟨b, e1, e2, e3, e4, e5⟩ := q2
      exact ⟨b, e1, e2, e3, back b e4, e5⟩
    | dco xs =>
      obtain ⟨b, e1, e2, e3, e4, e5⟩ := q2
      exact ⟨b, e1, e2, e3, back b e4, e5⟩
    | sto M =>
      obtain ⟨b, A, e1, e2, e3, e4, e5⟩ := q2
      exact ⟨b, A, e1, e2, e3, back b e4, e5⟩
    | _ => exact q2
/-- a new list that nobody holds is published -/
theorem pub (x : Rep w Z O L' H' σ ε) (e : Ext Z.b L H L' H') {ds : List PyData} (h : VR w Z O σ H L' H' v (.nw ds)) : ∃ L2, Rep w Z O L2 H' σ ε ∧ Ext Z.b L H L2 H' ∧ DV L2 v (.list ds) := by
  obtain ⟨a, xs, rfl, h1, h2, h3, h4, h5, h6⟩ := h
  have s1 : Same L' (upd L' a (.lst xs)) := same_upd h4
  refine ⟨upd L' a (.lst xs), ⟨same_pub x.lh h5, x.pn.trans s1, ⟨x.ex.ll.trans s1, x.ex.hh, x.ex.dom, fun b hb hd => ?_⟩, fun b hb => ?_, x.oh, x.len, fun i y hy => ?_, x.di, x.ph⟩, ⟨e.ll.trans s1, e.hh, e.dom, fun b hb hd => ?_⟩, .lst upd_same (h6.to s1)⟩
  · rw [upd_ne (ne_at hd h3)]; exact x.ex.fr b hb hd
  · obtain ⟨q1, q2, q3⟩ := x.bo b hb
    exact ⟨by rw [upd_ne (ne_at q3 h3)]; exact q1, q2, q3⟩
  · obtain ⟨o, q1, q2⟩ := x.sl i y hy
    refine ⟨o, q1, ?_⟩
    cases y with
    | un => trivial
    | sh d =>
      obtain ⟨v, e1, e2⟩ := q2
      exact ⟨v, e1, e2.to s1⟩
    | ow ds =>
      obtain ⟨b, ys, e1, e2, e3, e4, e5, e6⟩ := q2
      exact ⟨b, ys, e1, e2, by rw [upd_ne (fun z => h2 (by rw [← z]; exact e2))]; exact e3, e4, e5, e6.to s1⟩
    | bx => exact q2
    | st S n =>
      obtain ⟨b, e1, e2, e3, e4, e5⟩ := q2
      exact ⟨b, e1, e2, by rw [upd_ne (fun z => h2 (by rw [← z]; exact e2))]; exact e3, e4, e5⟩
    | raw u => exact q2
    | exn x => obtain ⟨v, e1, e2⟩ := q2; exact ⟨v, e1, e2.to s1⟩
    | dco xs =>
      obtain ⟨b, e1, e2, e3, e4, e5, e6⟩ := q2
      exact ⟨b, e1, e2, by rw [upd_ne (fun z => h2 (by rw [← z]; exact e2))]; exact e3, e4, e5, e6.to s1⟩
    | sto M =>
      obtain ⟨b, A, e1, e2, e3, e4, e5, e6⟩ := q2
      exact ⟨b, A, e1, e2, by rw [upd_ne (fun z => h2 (by rw [← z]; exact e2))]; exact e3, e4, e5, e6.to s1⟩
    | dsh xs => obtain ⟨v, e1, e2⟩ := q2; exact ⟨v, e1, e2.to s1⟩
    | gen g => obtain ⟨v, e1, e2⟩ := q2; exact ⟨v, e1, g.mono s1 e2⟩
  · rw [upd_ne (ne_at hd h1)]; exact e.fr b hb hd
end
/-- a value as data, its own list (if it is one) as it stands in H -/
def VL (L H : Hp) (v : V) (d : PyData) : Prop := DV L v d ∨ ∃ a xs ds, d = .list ds ∧ v = .ref a ∧ H a = some (.lst xs) ∧ DVs L xs ds
section
variable {L H : Hp} {v : V}
theorem VL.dv {d : PyData} (x : VL L H v d) (s : Same L H) : DV H v d := by
  rcases x with x | ⟨a, xs, ds, rfl, rfl, h, r⟩
  · exact x.to s
  · exact .lst h (r.to s)
theorem VL.lst {ds : List PyData} (x : VL L H v (.list ds)) (s : Same L H) : ∃ a xs, v = .ref a ∧ H a = some (.lst xs) ∧ DVs L xs ds := by
  rcases x with x | ⟨a, xs, es, e, rfl, h, r⟩
  · cases x with
    | lst h r => exact ⟨_, _, rfl, s _ _ h, r⟩
  · cases e; exact ⟨a, xs, rfl, h, r⟩
theorem VL.tup {ds : List PyData} (x : VL L H v (.tuple ds)) : ∃ a xs, v = .ref a ∧ Sol L a xs ∧ DVs L xs ds := by
  rcases x with x | ⟨a, xs, es, e, rfl, h, r⟩
  · cases x with
    | tup h r => exact ⟨_, _, rfl, h, r⟩
  · cases e
theorem VL.int {i : Int} (x : VL L H v (.int i)) : v = .int i := by
  rcases x with x | ⟨a, xs, es, e, _⟩
  · cases x; rfl
  · cases e
theorem VL.bl {i : Bool} (x : VL L H v (.bool i)) : v = .bl i := by
  rcases x with x | ⟨a, xs, es, e, _⟩
  · cases x; rfl
  · cases e
theorem VL.str {i : Str} (x : VL L H v (.str i)) : v = .str i := by
  rcases x with x | ⟨a, xs, es, e, _⟩
  · cases x; rfl
  · cases e
theorem VL.non (x : VL L H v .none) : v = .non := by
  rcases x with x | ⟨a, xs, es, e, _⟩
  · cases x; rfl
  · cases e
end
/-- as data, a pair just made by a walk taken as it stands -/
def VT (L H : Hp) (v : V) (d : PyData) : Prop := DV L v d ∨ ∃ a xs ds, d = .tuple ds ∧ v = .ref a ∧ H a = some (.tup xs) ∧ DVs L xs ds
def VI (pk : Bool) (L H : Hp) (v : V) (d : PyData) : Prop := match pk with
  | true => VT L H v d
  | false => DV L v d
theorem VI.of {pk : Bool} {L H : Hp} {v : V} {d : PyData} (h : DV L v d) : VI pk L H v d := by
  cases pk with
  | true => exact .inl h
  | false => exact h
def R.dat : R → Option PyData
  | .sh d => some d
  | .nw ds => some (.list ds)
  | .br _ ds => some (.list ds)
  | _ => none
theorem VR.vl {w : Wx} {Z : Zx} {O : Addr → Prop} {σ : L2.St} {Hs L H : Hp} {v : V} {r : R} {d : PyData} (x : VR w Z O σ Hs L H v r) (e : r.dat = some d) : VL L H v d := by
  cases r with
  | sh d => cases e; exact .inl x
  | nw ds =>
    cases e
    obtain ⟨a, xs, rfl, h1, h2, h3, h4, h5, h6⟩ := x
    exact .inr ⟨a, xs, ds, rfl, rfl, h5, h6⟩
  | br i ds =>
    cases e
    obtain ⟨a, xs, rfl, h1, h2, h3, h4, h5, h6⟩ := x
    exact .inr ⟨a, xs, ds, rfl, rfl, h5, h6⟩
  | bx => cases e
  | raw u => cases e
  | sr i S n => cases e
  | exn y => cases e
  | dnw xs => cases e
  | dbr i xs => cases e
  | srt i M => cases e
  | dsh xs => cases e
  | gen g => cases e
end Lp

namespace Lp
open PySem PySem.Spec PyProof.Rows L2
abbrev DTE := Env → (R → Env → Prop) → Prop
abbrev DTT := Env → (Bool → Env → Prop) → Prop
abbrev DTA := Env → (List R → Env → Prop) → Prop
structure SE (w : Wx) (t : TE) (f : DTE) : Prop where
  mono : ∀ ε (A B : R → Env → Prop), (∀ r ε', A r ε' → B r ε') → f ε A → f ε B
  run : ∀ (Z : Zx) (O : Addr → Prop) (σ : L2.St) (ε : Env) (L H : Hp) (Q : VK), Rep w Z O L H σ ε → f ε (fun r ε' => ∀ v L' H', Rep w Z O L' H' σ ε' → Ext Z.b L H L' H' → VR w Z O σ H L' H' v r → Q v H') → t σ H Q
structure ST (w : Wx) (t : TT) (f : DTT) : Prop where
  mono : ∀ ε (A B : Bool → Env → Prop), (∀ r ε', A r ε' → B r ε') → f ε A → f ε B
  run : ∀ (Z : Zx) (O : Addr → Prop) (σ : L2.St) (ε : Env) (L H : Hp) (Q : Bool → Hp → Prop), Rep w Z O L H σ ε → f ε (fun b ε' => ∀ L' H', Rep w Z O L' H' σ ε' → Ext Z.b L H L' H' → Q b H') → t σ H Q
inductive VRs (w : Wx) (Z : Zx) (O : Addr → Prop) (σ : L2.St) (Hs L H : Hp) : List V → List R → Prop
  | nil : VRs w Z O σ Hs L H [] []
  | cons {v : V} {vs : List V} {r : R} {rs : List R} : VR w Z O σ Hs L H v r → VRs w Z O σ Hs L H vs rs → VRs w Z O σ Hs L H (v :: vs) (r :: rs)
/-- n arguments, each published -/
structure SA (w : Wx) (n : Nat) (t : TA) (f : DTA) : Prop where
  mono : ∀ ε (A B : List R → Env → Prop), (∀ r ε', A r ε' → B r ε') → f ε A → f ε B
  run : ∀ (Z : Zx) (O : Addr → Prop) (σ : L2.St) (ε : Env) (L H : Hp) (Q : List V → Hp → Prop), Rep w Z O L H σ ε → f ε (fun rs ε' => ∀ vs L' H', Rep w Z O L' H' σ ε' → Ext Z.b L H L' H' → VRs w Z O σ H L' H' vs rs → rs.length = n → (∀ r ∈ rs, ∀ ds, r ≠ .nw ds) → Q vs H') → t σ H Q
section
variable {w : Wx} {ta tb tc : TE} {f g h : DTE}
theorem VRs.mono {Z : Zx} {O : Addr → Prop} {σ : L2.St} {ε : Env} {Hs L H L' H' : Hp} (y : Rep w Z O L H σ ε) (e : Ext Z.b L H L' H') : ∀ {vs : List V} {rs : List R}, VRs w Z O σ Hs L H vs rs → VRs w Z O σ Hs L' H' vs rs
  | _, _, .nil => .nil
  | _, _, .cons a r => .cons (a.mono y e) (VRs.mono y e r)
theorem VRs.back {Z : Zx} {O : Addr → Prop} {σ : L2.St} {Hs L H L' Hr Lr : Hp} (e : Ext Z.b Lr Hr L' Hs) : ∀ {vs : List V} {rs : List R}, VRs w Z O σ Hs L H vs rs → VRs w Z O σ Hr L H vs rs
  | _, _, .nil => .nil
  | _, _, .cons a r => .cons (a.back e) (VRs.back e r)
theorem VRs.len {Z : Zx} {O : Addr → Prop} {σ : L2.St} {Hs L H : Hp} : ∀ {vs : List V} {rs : List R}, VRs w Z O σ Hs L H vs rs → vs.length = rs.length
  | _, _, .nil => rfl
  | _, _, .cons _ r => by rw [List.length_cons, List.length_cons, r.len]
def dVar (i : Nat)  (ε : Env) (Q : R → Env → Prop) : Prop := match ε.s[i]? with
  | some (.sh d) => Q (.sh d) ε
  | some (.ow ds) => Q (.br i ds) ε
  | some .bx => Q .bx ε
  | some (.raw v) => Q (.raw v) ε
  | some (.st S n) => Q (.sr i S n) ε
  | some (.exn x) => Q (.exn x) ε
  | some (.dco xs) => Q (.dbr i xs) ε
  | some (.sto M) => Q (.srt i M) ε
  | some (.dsh xs) => Q (.dsh xs) ε
  | some (.gen g) => Q (.gen g) ε
  | _ => False
theorem se_var {i : Nat} : SE w (tVar i) (dVar i) := by
  constructor
  · intro ε A B h q
    unfold dVar at q ⊢
    split at q
    all_goals first | exact h _ _ q | exact q.elim
  · intro Z O σ ε L H Q x q
    unfold dVar at q
    have e0 := Ext.refl Z.b L H
    split at q
    · rename_i d hd
      obtain ⟨o, h1, v, h2, h3⟩ := x.sl i _ hd
      subst h2
      exact ⟨v, h1, q v L H x e0 h3⟩
    · rename_i ds hd
      obtain ⟨o, h1, a, xs, h2, h3, h4, h5, h6, h7⟩ := x.sl i _ hd
      subst h2
      exact ⟨.ref a, h1, q _ L H x e0 ⟨a, xs, rfl, h1, h3, h5, h4, h6, h7⟩⟩
    · rename_i hd
      obtain ⟨o, h1, b, h2, h3⟩ := x.sl i _ hd
      subst h3
      exact ⟨.ref b, h1, q _ L H x e0 ⟨b, h2, rfl⟩⟩
    · rename_i v hd
      obtain ⟨o, h1, h2⟩ := x.sl i _ hd
      have h2' : o = some v := h2
      subst h2'
      exact ⟨v, h1, q _ L H x e0 rfl⟩
    · rename_i S n hd
      obtain ⟨o, h1, a, h2, h3, h4, h5, h6⟩ := x.sl i _ hd
      subst h2
      exact ⟨.ref a, h1, q _ L H x e0 ⟨a, rfl, h1, h3, h5, h4, h6⟩⟩
    · rename_i y hd
      obtain ⟨o, h1, v, h2, h3⟩ := x.sl i _ hd
      subst h2
      exact ⟨v, h1, q v L H x e0 h3⟩
    · rename_i xs hd
      obtain ⟨o, h1, a, h2, h3, h4, h5, h6, h7⟩ := x.sl i _ hd
      subst h2
      exact ⟨.ref a, h1, q _ L H x e0 ⟨a, rfl, h1, h3, h5, h4, h6, h7⟩⟩
    · rename_i M hd
      obtain ⟨o, h1, a, A, h2, h3, h4, h5, h6, h7⟩ := x.sl i _ hd
      subst h2
      exact ⟨.ref a, h1, q _ L H x e0 ⟨a, A, rfl, h1, h3, h5, h4, h6, h7⟩⟩
    · rename_i xs hd
      obtain ⟨o, h1, v, h2, h3⟩ := x.sl i _ hd
      subst h2
      exact ⟨v, h1, q v L H x e0 h3⟩
    · rename_i g hd
      obtain ⟨o, h1, v, h2, h3⟩ := x.sl i _ hd
      subst h2
      exact ⟨v, h1, q v L H x e0 h3⟩
    · exact q.elim
def dC (d : PyData)  (ε : Env) (Q : R → Env → Prop) : Prop := Q (.sh d) ε
theorem se_int {i : Int} : SE w (tC (.int i)) (dC (.int i)) := ⟨fun ε A B h q => h _ _ q, fun Z O σ ε L H Q x q => q _ L H x (Ext.refl _ _ _) (.int i)⟩
theorem se_bl {i : Bool} : SE w (tC (.bl i)) (dC (.bool i)) := ⟨fun ε A B h q => h _ _ q, fun Z O σ ε L H Q x q => q _ L H x (Ext.refl _ _ _) (.bl i)⟩
theorem se_str {i : Str} : SE w (tC (.str i)) (dC (.str i)) := ⟨fun ε A B h q => h _ _ q, fun Z O σ ε L H Q x q => q _ L H x (Ext.refl _ _ _) (.str i)⟩
theorem se_non : SE w (tC .non) (dC .none) := ⟨fun ε A B h q => h _ _ q, fun Z O σ ε L H Q x q => q _ L H x (Ext.refl _ _ _) .non⟩
def dRaw (v : V)  (ε : Env) (Q : R → Env → Prop) : Prop := Q (.raw v) ε
structure R2K (r : R2) (φ : PyData → PyData → (R → Prop) → Prop) : Prop where
  mono : ∀ x y (A B : R → Prop), (∀ r, A r → B r) → φ x y A → φ x y B
  run : ∀ (L H : Hp) (x y : V) (dx dy : PyData) (Q : VK), Same L H → VL L H x dx → VL L H y dy → φ dx dy (fun r => ∀ v L' H', Ext none L H L' H' → Same L' H' → VR0 H L' H' v r → Q v H') → r x y H Q
def dOp (φ : PyData → PyData → (R → Prop) → Prop) (f g : DTE)  (ε : Env) (Q : R → Env → Prop) : Prop := f ε fun x ε1 => g ε1 fun y ε2 => match x.dat, y.dat with
  | some dx, some dy => φ dx dy fun r => Q r ε2
  | _, _ => False
theorem se_op {r : R2} {φ : PyData → PyData → (R → Prop) → Prop} (k : R2K r φ) (hf : SE w ta f) (hg : SE w tb g) : SE w (tOp r ta tb) (dOp φ f g) := by
  constructor
  · intro ε A B h q
    refine hf.mono _ _ _ (fun x ε1 q => hg.mono _ _ _ (fun y ε2 q => ?_) q) q
    show match x.dat, y.dat with
      | some dx, some dy => φ dx dy fun r => B r ε2
      | _, _ => False
    split at q
    · exact k.mono _ _ _ _ (fun r q => h _ _ q) q
    · exact q.elim
  · intro Z O σ ε L H Q X q
    refine hf.run Z O σ ε L H _ X (hf.mono _ _ _ (fun x ε1 q => ?_) q)
    intro v L1 H1 X1 e1 r1
    refine hg.run Z O σ ε1 L1 H1 _ X1 (hg.mono _ _ _ (fun y ε2 q => ?_) q)
    intro u L2 H2 X2 e2 r2
    have r1' := r1.mono X1 e2
    split at q
    · rename_i dx dy ex ey
      refine k.run L2 H2 v u dx dy Q X2.lh (r1'.vl ex) (r2.vl ey) (k.mono _ _ _ _ (fun r q => ?_) q)
      intro z L3 H3 e3 s3 r3
      exact q z L3 H3 (X2.step e3 s3) ((e1.trans e2).trans e3.any) ((r3.vr X2).back (e1.trans e2))
    · exact q.elim
structure RUK (r : V → Hp → VK → Prop) (φ : PyData → (R → Prop) → Prop) : Prop where
  mono : ∀ x (A B : R → Prop), (∀ r, A r → B r) → φ x A → φ x B
  run : ∀ (L H : Hp) (x : V) (dx : PyData) (Q : VK), Same L H → VL L H x dx → φ dx (fun r => ∀ v L' H', Ext none L H L' H' → Same L' H' → VR0 H L' H' v r → Q v H') → r x H Q
def dUn (φ : PyData → (R → Prop) → Prop) (f : DTE)  (ε : Env) (Q : R → Env → Prop) : Prop := f ε fun x ε1 => match x.dat with
  | some dx => φ dx fun r => Q r ε1
  | _ => False
theorem se_un {r : V → Hp → VK → Prop} {φ : PyData → (R → Prop) → Prop} (k : RUK r φ) (hf : SE w ta f) : SE w (tUn r ta) (dUn φ f) := by
  constructor
  · intro ε A B h q
    refine hf.mono _ _ _ (fun x ε1 q => ?_) q
    show match x.dat with
      | some dx => φ dx fun r => B r ε1
      | _ => False
    split at q
    · exact k.mono _ _ _ (fun r q => h _ _ q) q
    · exact q.elim
  · intro Z O σ ε L H Q X q
    refine hf.run Z O σ ε L H _ X (hf.mono _ _ _ (fun x ε1 q => ?_) q)
    intro v L1 H1 X1 e1 r1
    split at q
    · rename_i dx ex
      refine k.run L1 H1 v dx Q X1.lh (r1.vl ex) (k.mono _ _ _ (fun r q => ?_) q)
      intro z L3 H3 e3 s3 r3
      exact q z L3 H3 (X1.step e3 s3) (e1.trans e3.any) ((r3.vr X1).back e1)
    · exact q.elim
def dTest (f : DTE)  (ε : Env) (Q : Bool → Env → Prop) : Prop := f ε fun r ε1 => match r.dat with
  | some (.bool k) => Q k ε1
  | _ => False
theorem st_test (hf : SE w ta f) : ST w (tTest ta) (dTest f) := by
  constructor
  · intro ε A B h q
    refine hf.mono _ _ _ (fun r ε1 q => ?_) q
    show match r.dat with
      | some (.bool k) => B k ε1
      | _ => False
    split at q
    · exact h _ _ q
    · exact q.elim
  · intro Z O σ ε L H Q X q
    refine hf.run Z O σ ε L H _ X (hf.mono _ _ _ (fun r ε1 q => ?_) q)
    intro v L1 H1 X1 e1 r1
    split at q
    · rename_i k ek
      exact ⟨k, (r1.vl ek).bl, q L1 H1 X1 e1⟩
    · exact q.elim
def truD : PyData → Option Bool
  | .none => some false
  | .bool b => some b
  | .int i => some (i != 0)
  | .list ds => some (!ds.isEmpty)
  | .tuple ds => some (!ds.isEmpty)
  | _ => none
theorem isE {H : Hp} {xs : List V} {ds : List PyData} (h : DVs H xs ds) : xs.isEmpty = ds.isEmpty := by cases h <;> rfl
def dTruth (f : DTE)  (ε : Env) (Q : Bool → Env → Prop) : Prop := f ε fun r ε1 => match r.dat.bind truD with
  | some k => Q k ε1
  | _ => False
theorem tru_of {K : PySem.W.Frag} {L H : Hp} {v : V} {d : PyData} {k : Bool} (x : VL L H v d) (s : Same L H) (e : truD d = some k) : TruV K v H k := by
  cases d with
  | none => rw [x.non]; cases e; rfl
  | bool b => rw [x.bl]; cases e; rfl
  | int i => rw [x.int]; cases e; rfl
  | list ds =>
    obtain ⟨a, xs, rfl, h1, h2⟩ := x.lst s
    cases e
    exact .inl ⟨xs, SqL.of h1, by rw [isE h2]⟩
  | tuple ds =>
    obtain ⟨a, xs, rfl, h1, h2⟩ := x.tup
    cases e
    exact .inr (.inl ⟨xs, (h1.to s).seq, by rw [isE h2]⟩)
  | str _ => cases e
  | dict _ => cases e
theorem st_truth {K : PySem.W.Frag} (hf : SE w ta f) : ST w (fun σ H Q => ta σ H fun x H1 => ∃ k, TruV K x H1 k ∧ Q k H1) (dTruth f) := by
  constructor
  · intro ε A B h q
    refine hf.mono _ _ _ (fun r ε1 q => ?_) q
    show match r.dat.bind truD with
      | some k => B k ε1
      | _ => False
    split at q
    · exact h _ _ q
    · exact q.elim
  · intro Z O σ ε L H Q X q
    refine hf.run Z O σ ε L H _ X (hf.mono _ _ _ (fun r ε1 q => ?_) q)
    intro v L1 H1 X1 e1 r1
    split at q
    · rename_i k ek
      cases ed : r.dat with
      | none => rw [ed] at ek; cases ek
      | some d =>
        rw [ed] at ek
        exact ⟨k, tru_of (r1.vl ed) X1.lh ek, q L1 H1 X1 e1⟩
    · exact q.elim
def dAnd (f g : DTT)  (ε : Env) (Q : Bool → Env → Prop) : Prop := f ε fun c ε1 => if c = true then g ε1 Q else Q false ε1
def dOr (f g : DTT)  (ε : Env) (Q : Bool → Env → Prop) : Prop := f ε fun c ε1 => if c = true then Q true ε1 else g ε1 Q
def dNot (f : DTT)  (ε : Env) (Q : Bool → Env → Prop) : Prop := f ε fun c ε1 => Q (!c) ε1
variable {t u : TT} {p q : DTT}
theorem st_and (hf : ST w t p) (hg : ST w u q) : ST w (tAnd t u) (dAnd p q) := by
  constructor
  · intro ε A B h z
    refine hf.mono _ _ _ (fun c ε1 z => ?_) z
    cases c with
    | true => exact iteT (hg.mono _ _ _ h (by rw [if_pos rfl] at z; exact z))
    | false => exact iteF (h _ _ (by rw [if_neg Bool.false_ne_true] at z; exact z))
  · intro Z O σ ε L H Q X z
    refine hf.run Z O σ ε L H _ X (hf.mono _ _ _ (fun c ε1 z => ?_) z)
    intro L1 H1 X1 e1
    cases c with
    | true =>
      rw [if_pos rfl] at z
      exact iteT (hg.run Z O σ ε1 L1 H1 _ X1 (hg.mono _ _ _ (fun b ε2 z L2 H2 X2 e2 => z L2 H2 X2 (e1.trans e2)) z))
    | false =>
      rw [if_neg Bool.false_ne_true] at z
      exact iteF (z L1 H1 X1 e1)
theorem st_or (hf : ST w t p) (hg : ST w u q) : ST w (tOr t u) (dOr p q) := by
  constructor
  · intro ε A B h z
    refine hf.mono _ _ _ (fun c ε1 z => ?_) z
    cases c with
    | false => exact iteF (hg.mono _ _ _ h (by rw [if_neg Bool.false_ne_true] at z; exact z))
    | true => exact iteT (h _ _ (by rw [if_pos rfl] at z; exact z))
  · intro Z O σ ε L H Q X z
    refine hf.run Z O σ ε L H _ X (hf.mono _ _ _ (fun c ε1 z => ?_) z)
    intro L1 H1 X1 e1
    cases c with
    | false =>
      rw [if_neg Bool.false_ne_true] at z
      exact iteF (hg.run Z O σ ε1 L1 H1 _ X1 (hg.mono _ _ _ (fun b ε2 z L2 H2 X2 e2 => z L2 H2 X2 (e1.trans e2)) z))
    | true =>
      rw [if_pos rfl] at z
      exact iteT (z L1 H1 X1 e1)
theorem st_not (hf : ST w t p) : ST w (tNot t) (dNot p) := by
  constructor
  · intro ε A B h z
    exact hf.mono _ _ _ (fun c ε1 z => h _ _ z) z
  · intro Z O σ ε L H Q X z
    exact hf.run Z O σ ε L H _ X z
def dYes  (ε : Env) (Q : Bool → Env → Prop) : Prop := Q true ε
theorem st_yes : ST w tYes dYes := ⟨fun ε A B h q => h _ _ q, fun Z O σ ε L H Q X z => z L H X (Ext.refl _ _ _)⟩
def dIf (c : DTT) (f g : DTE)  (ε : Env) (Q : R → Env → Prop) : Prop := c ε fun b ε1 => if b = true then f ε1 Q else g ε1 Q
def dAndV (f g : DTE)  (ε : Env) (Q : R → Env → Prop) : Prop := f ε fun r ε1 => match r.dat with
  | some (.bool k) => if k = true then g ε1 Q else Q (.sh (.bool false)) ε1
  | _ => False
def dOrV (f g : DTE)  (ε : Env) (Q : R → Env → Prop) : Prop := f ε fun r ε1 => match r.dat with
  | some (.bool k) => if k = true then Q (.sh (.bool true)) ε1 else g ε1 Q
  | _ => False
def dNotV (f : DTE)  (ε : Env) (Q : R → Env → Prop) : Prop := f ε fun r ε1 => match r.dat with
  | some (.bool b) => Q (.sh (.bool (!b))) ε1
  | _ => False
theorem se_andV (hf : SE w ta f) (hg : SE w tb g) : SE w (tAndV ta tb) (dAndV f g) := by
  constructor
  · intro ε A B h z
    refine hf.mono _ _ _ (fun r ε1 z => ?_) z
    split at z
    · rename_i k _
      cases k with
      | true => exact iteT (hg.mono _ _ _ h (by rw [if_pos rfl] at z; exact z))
      | false => exact iteF (h _ _ (by rw [if_neg Bool.false_ne_true] at z; exact z))
    · exact z.elim
  · intro Z O σ ε L H Q X z
    refine hf.run Z O σ ε L H _ X (hf.mono _ _ _ (fun r ε1 z => ?_) z)
    intro v L1 H1 X1 e1 r1
    split at z
    · rename_i k ek
      cases k with
      | true =>
        rw [if_pos rfl] at z
        exact ⟨true, (r1.vl ek).bl, iteT (hg.run Z O σ ε1 L1 H1 _ X1 (hg.mono _ _ _ (fun b ε2 z v L2 H2 X2 e2 r => z v L2 H2 X2 (e1.trans e2) (r.back e1)) z))⟩
      | false =>
        rw [if_neg Bool.false_ne_true] at z
        exact ⟨false, (r1.vl ek).bl, iteF (z _ L1 H1 X1 e1 (.bl false))⟩
    · exact z.elim
theorem se_notV (hf : SE w ta f) : SE w (tNotV ta) (dNotV f) := by
  constructor
  · intro ε A B h z
    refine hf.mono _ _ _ (fun r ε1 z => ?_) z
    show match r.dat with
      | some (.bool b) => B (.sh (.bool (!b))) ε1
      | _ => False
    split at z
    · exact h _ _ z
    · exact z.elim
  · intro Z O σ ε L H Q X z
    refine hf.run Z O σ ε L H _ X (hf.mono _ _ _ (fun r ε1 z => ?_) z)
    intro v L1 H1 X1 e1 r1
    split at z
    · rename_i b ek
      exact ⟨b, (r1.vl ek).bl, z _ L1 H1 X1 e1 (.bl (!b))⟩
    · exact z.elim
/-- a op b op' c -/
def dChain (φ ψ : PyData → PyData → (R → Prop) → Prop) (f g h : DTE)  (ε : Env) (Q : R → Env → Prop) : Prop := f ε fun x ε1 => g ε1 fun y ε2 => match x.dat, y.dat with
  | some dx, some dy => φ dx dy fun r => match r with
    | .sh (.bool k) => if k = true then (h ε2 fun z ε3 => match z.dat with
      | some dz => ψ dy dz fun r => Q r ε3
      | _ => False) else Q (.sh (.bool false)) ε2
    | _ => False
  | _, _ => False
theorem se_chain {r s : R2} {φ ψ : PyData → PyData → (R → Prop) → Prop} (k : R2K r φ) (l : R2K s ψ) (hf : SE w ta f) (hg : SE w tb g) (hh : SE w tc h) : SE w (tChain r s ta tb tc) (dChain φ ψ f g h) := by
  constructor
  · intro ε A B hAB q
    refine hf.mono _ _ _ (fun x ε1 q => hg.mono _ _ _ (fun y ε2 q => ?_) q) q
    split at q
    · refine k.mono _ _ _ _ (fun r q => ?_) q
      split at q
      · rename_i k0
        cases k0 with
        | true =>
          rw [if_pos rfl] at q
          refine iteT (hh.mono _ _ _ (fun z ε3 q => ?_) q)
          split at q
          · exact l.mono _ _ _ _ (fun r q => hAB _ _ q) q
          · exact q.elim
        | false =>
          rw [if_neg Bool.false_ne_true] at q
          exact iteF (hAB _ _ q)
      · exact q.elim
    · exact q.elim
  · intro Z O σ ε L H Q X q
    refine hf.run Z O σ ε L H _ X (hf.mono _ _ _ (fun x ε1 q => ?_) q)
    intro v L1 H1 X1 e1 r1
    refine hg.run Z O σ ε1 L1 H1 _ X1 (hg.mono _ _ _ (fun y ε2 q => ?_) q)
    intro u L2 H2 X2 e2 r2
    have r1' := r1.mono X1 e2
    split at q
    · rename_i dx dy ex ey
      refine k.run L2 H2 v u dx dy _ X2.lh (r1'.vl ex) (r2.vl ey) (k.mono _ _ _ _ (fun r q => ?_) q)
      intro z L3 H3 e3 s3 r3
      have X3 := X2.step e3 s3
      have r2' := r2.mono X2 e3.any
      split at q
      · rename_i k0
        cases (show DV L3 z (.bool k0) from r3)
        cases k0 with
        | true =>
          rw [if_pos rfl] at q
          refine ⟨true, rfl, iteT ?_⟩
          refine hh.run Z O σ ε2 L3 H3 _ X3 (hh.mono _ _ _ (fun c ε3 q => ?_) q)
          intro z' L4 H4 X4 e4 r4
          split at q
          · rename_i dz ez
            refine l.run L4 H4 u z' dy dz Q X4.lh ((r2'.mono X3 e4).vl ey) (r4.vl ez) (l.mono _ _ _ _ (fun r q => ?_) q)
            intro o L5 H5 e5 s5 r5
            have et := ((e1.trans e2).trans e3.any).trans e4
            exact q o L5 H5 (X4.step e5 s5) (et.trans e5.any) ((r5.vr X4).back et)
          · exact q.elim
        | false =>
          rw [if_neg Bool.false_ne_true] at q
          exact ⟨false, rfl, iteF (q _ L3 H3 X3 ((e1.trans e2).trans e3.any) (.bl false))⟩
      · exact q.elim
    · exact q.elim
def R.pub : R → R
  | .nw ds => .sh (.list ds)
  | r => r
theorem R.pub_nw (r : R) (ds : List PyData) : r.pub ≠ .nw ds := by
  cases r <;> exact fun h => nomatch h
theorem publ {Z : Zx} {O : Addr → Prop} {σ : L2.St} {ε : Env} {L H L' H' : Hp} {v : V} {r : R} (x : Rep w Z O L' H' σ ε) (e : Ext Z.b L H L' H') (h : VR w Z O σ H L' H' v r) : ∃ L2, Rep w Z O L2 H' σ ε ∧ Ext Z.b L H L2 H' ∧ VR w Z O σ H L2 H' v r.pub := by
  cases r with
  | nw ds =>
    obtain ⟨L2, h1, h2, h3⟩ := Lp.pub x e h
    exact ⟨L2, h1, h2, h3⟩
  | _ => exact ⟨L', x, e, h⟩
def dNil  (ε : Env) (Q : List R → Env → Prop) : Prop := Q [] ε
def dCons (f : DTE) (g : DTA)  (ε : Env) (Q : List R → Env → Prop) : Prop := f ε fun r ε1 => g ε1 fun rs ε2 => Q (r.pub :: rs) ε2
theorem sa_nil : SA w 0 tNil dNil := ⟨fun ε A B h q => h _ _ q, fun Z O σ ε L H Q X z => z _ L H X (Ext.refl _ _ _) .nil rfl (fun _ h => nomatch h)⟩
theorem sa_cons {n : Nat} {tr : TA} {g : DTA} (hf : SE w ta f) (hg : SA w n tr g) : SA w (n + 1) (tCons ta tr) (dCons f g) := by
  constructor
  · intro ε A B h z
    exact hf.mono _ _ _ (fun r ε1 z => hg.mono _ _ _ (fun rs ε2 z => h _ _ z) z) z
  · intro Z O σ ε L H Q X z
    refine hf.run Z O σ ε L H _ X (hf.mono _ _ _ (fun r ε1 z => ?_) z)
    intro v L1 H1 X1 e1 r1
    obtain ⟨L1', X1', e1', r1'⟩ := publ X1 e1 r1
    refine hg.run Z O σ ε1 L1' H1 _ X1' (hg.mono _ _ _ (fun rs ε2 z => ?_) z)
    intro vs L2 H2 X2 e2 rs2 hl np
    refine z (v :: vs) L2 H2 X2 (e1'.trans e2) (.cons (r1'.mono X1' e2) (rs2.back e1')) (by rw [List.length_cons, hl]) (fun x hx ds => ?_)
    rcases List.mem_cons.mp hx with rfl | hx
    · exact R.pub_nw r ds
    · exact np x hx ds
/-- all of them data that stands still -/
def shs : List R → Option (List PyData)
  | [] => some []
  | .sh d :: rs => match shs rs with
    | some ds => some (d :: ds)
    | none => none
  | _ => none
theorem shs_ok {Z : Zx} {O : Addr → Prop} {σ : L2.St} {Hs L H : Hp} : ∀ {rs : List R} {vs : List V} {ds : List PyData}, VRs w Z O σ Hs L H vs rs → shs rs = some ds → DVs L vs ds
  | [], _, _, .nil, e => by cases e; exact .nil
  | .sh d :: rs, _, ds, .cons a r, e => by
    unfold shs at e
    split at e
    · rename_i es h
      cases e
      exact .cons a (shs_ok r h)
    · cases e
  | .nw _ :: _, _, _, .cons _ _, e => by cases e
  | .br _ _ :: _, _, _, .cons _ _, e => by cases e
  | .bx :: _, _, _, .cons _ _, e => by cases e
  | .raw _ :: _, _, _, .cons _ _, e => by cases e
  | .sr _ _ _ :: _, _, _, .cons _ _, e => by cases e
  | .exn _ :: _, _, _, .cons _ _, e => by cases e
  | .dnw _ :: _, _, _, .cons _ _, e => by cases e
  | .dbr _ _ :: _, _, _, .cons _ _, e => by cases e
  | .srt _ _ :: _, _, _, .cons _ _, e => by cases e
  | .dsh _ :: _, _, _, .cons _ _, e => by cases e
  | .gen _ :: _, _, _, .cons _ _, e => by cases e
def dTup (f : DTA)  (ε : Env) (Q : R → Env → Prop) : Prop := f ε fun rs ε1 => match shs rs with
  | some ds => Q (.sh (.tuple ds)) ε1
  | none => False
def dLst (f : DTA)  (ε : Env) (Q : R → Env → Prop) : Prop := f ε fun rs ε1 => match shs rs with
  | some ds => Q (.nw ds) ε1
  | none => False
theorem se_tup {n : Nat} {t : TA} {f : DTA} (hf : SA w n t f) (hn : n ≤ sizeLine := by decide) : SE w (tTupS t) (dTup f) := by
  constructor
  · intro ε A B h z
    refine hf.mono _ _ _ (fun rs ε1 z => ?_) z
    split at z
    · exact h _ _ z
    · exact z.elim
  · intro Z O σ ε L H Q X z
    refine hf.run Z O σ ε L H _ X (hf.mono _ _ _ (fun rs ε1 z => ?_) z)
    intro vs L1 H1 X1 e1 r1 hl np
    split at z
    · rename_i ds hd
      refine ⟨by rw [r1.len, hl]; exact hn, fun p o np no => ?_⟩
      have e2 : Ext none L1 H1 (upd L1 p (.frz o (.tup vs))) (upd H1 p (.frz o (.tup vs))) := Ext.new X1.lh np
      exact z _ _ _ (X1.step e2 (same_both X1.lh)) (e1.trans e2.any) (.tup ⟨o, no, upd_same⟩ ((shs_ok r1 hd).to e2.ll))
    · exact z.elim
theorem se_lst {n : Nat} {t : TA} {f : DTA} (hf : SA w n t f) (hn : n ≤ sizeLine := by decide) : SE w (tLst t) (dLst f) := by
  constructor
  · intro ε A B h z
    refine hf.mono _ _ _ (fun rs ε1 z => ?_) z
    split at z
    · exact h _ _ z
    · exact z.elim
  · intro Z O σ ε L H Q X z
    refine hf.run Z O σ ε L H _ X (hf.mono _ _ _ (fun rs ε1 z => ?_) z)
    intro vs L1 H1 X1 e1 r1 hl np
    split at z
    · rename_i ds hd
      refine ⟨by rw [r1.len, hl]; exact hn, fun p np => ?_⟩
      have e2 : Ext none L1 H1 L1 (upd H1 p (.lst vs)) := Ext.own np
      refine z _ _ _ (X1.step e2 (same_own X1.lh (X1.lh.free np))) (e1.trans e2.any) (VR.back (VR0.vr (r := .nw ds) ⟨p, vs, rfl, np, X1.lh.free np, upd_same, shs_ok r1 hd⟩ X1) e1)
    · exact z.elim
def dats : List R → Option (List PyData)
  | [] => some []
  | r :: rs => match r.dat, dats rs with
    | some d, some ds => some (d :: ds)
    | _, _ => none
inductive VLs (L H : Hp) : List V → List PyData → Prop
  | nil : VLs L H [] []
  | cons {v : V} {vs : List V} {d : PyData} {ds : List PyData} : VL L H v d → VLs L H vs ds → VLs L H (v :: vs) (d :: ds)
theorem dats_ok {Z : Zx} {O : Addr → Prop} {σ : L2.St} {Hs L H : Hp} : ∀ {rs : List R} {vs : List V} {ds : List PyData}, VRs w Z O σ Hs L H vs rs → dats rs = some ds → VLs L H vs ds
  | [], _, _, .nil, e => by cases e; exact .nil
  | r :: rs, _, ds, .cons a b, e => by
    unfold dats at e
    split at e
    · rename_i d es h1 h2
      cases e
      exact .cons (a.vl h1) (dats_ok b h2)
    · cases e
structure RCK (r : List V → Hp → VK → Prop) (φ : List PyData → (R → Prop) → Prop) : Prop where
  mono : ∀ x (A B : R → Prop), (∀ r, A r → B r) → φ x A → φ x B
  run : ∀ (L H : Hp) (xs : List V) (ds : List PyData) (Q : VK), Same L H → VLs L H xs ds → φ ds (fun r => ∀ v L' H', Ext none L H L' H' → Same L' H' → VR0 H L' H' v r → Q v H') → r xs H Q
def dCB (φ : List PyData → (R → Prop) → Prop) (f : DTA)  (ε : Env) (Q : R → Env → Prop) : Prop := f ε fun rs ε1 => match dats rs with
  | some ds => φ ds fun r => Q r ε1
  | _ => False
theorem se_cb {n : Nat} {t : TA} {f : DTA} {r : List V → Hp → VK → Prop} {φ : List PyData → (R → Prop) → Prop} (k : RCK r φ) (hf : SA w n t f) : SE w (tCB r t) (dCB φ f) := by
  constructor
  · intro ε A B h z
    refine hf.mono _ _ _ (fun rs ε1 z => ?_) z
    split at z
    · exact k.mono _ _ _ (fun r q => h _ _ q) z
    · exact z.elim
  · intro Z O σ ε L H Q X z
    refine hf.run Z O σ ε L H _ X (hf.mono _ _ _ (fun rs ε1 z => ?_) z)
    intro vs L1 H1 X1 e1 r1 hl np
    split at z
    · rename_i ds hd
      refine k.run L1 H1 vs ds Q X1.lh (dats_ok r1 hd) (k.mono _ _ _ (fun r q => ?_) z)
      intro z L3 H3 e3 s3 r3
      exact q z L3 H3 (X1.step e3 s3) (e1.trans e3.any) ((r3.vr X1).back e1)
    · exact z.elim
abbrev DTO := Env → (Option Int → Env → Prop) → Prop
structure SO (w : Wx) (t : TO) (f : DTO) : Prop where
  mono : ∀ ε (A B : Option Int → Env → Prop), (∀ r ε', A r ε' → B r ε') → f ε A → f ε B
  run : ∀ (Z : Zx) (O : Addr → Prop) (σ : L2.St) (ε : Env) (L H : Hp) (Q : Option Int → Hp → Prop), Rep w Z O L H σ ε → f ε (fun b ε' => ∀ L' H', Rep w Z O L' H' σ ε' → Ext Z.b L H L' H' → Q b H') → t σ H Q
def dNoP  (ε : Env) (Q : Option Int → Env → Prop) : Prop := Q none ε
def dPart (f : DTE)  (ε : Env) (Q : Option Int → Env → Prop) : Prop := f ε fun r ε1 => match r.dat with
  | some (.int i) => Q (some i) ε1
  | _ => False
theorem so_none : SO w tNoPart dNoP := ⟨fun ε A B h q => h _ _ q, fun Z O σ ε L H Q X z => z L H X (Ext.refl _ _ _)⟩
theorem so_some (hf : SE w ta f) : SO w (tPart ta) (dPart f) := by
  constructor
  · intro ε A B h q
    refine hf.mono _ _ _ (fun r ε1 q => ?_) q
    split at q
    · exact h _ _ q
    · exact q.elim
  · intro Z O σ ε L H Q X q
    refine hf.run Z O σ ε L H _ X (hf.mono _ _ _ (fun r ε1 q => ?_) q)
    intro v L1 H1 X1 e1 r1
    split at q
    · rename_i k ek
      exact ⟨k, (r1.vl ek).int, q L1 H1 X1 e1⟩
    · exact q.elim
structure RSK (r : V → Option Int → Option Int → Hp → VK → Prop) (φ : PyData → Option Int → Option Int → (R → Prop) → Prop) : Prop where
  mono : ∀ x l h (A B : R → Prop), (∀ r, A r → B r) → φ x l h A → φ x l h B
  run : ∀ (L H : Hp) (x : V) (d : PyData) (l h : Option Int) (Q : VK), Same L H → VL L H x d → φ d l h (fun r => ∀ v L' H', Ext none L H L' H' → Same L' H' → VR0 H L' H' v r → Q v H') → r x l h H Q
def dSl (φ : PyData → Option Int → Option Int → (R → Prop) → Prop) (f : DTE) (l h : DTO)  (ε : Env) (Q : R → Env → Prop) : Prop := f ε fun r ε1 => l ε1 fun i ε2 => h ε2 fun j ε3 => match r.dat with
  | some d => φ d i j fun r => Q r ε3
  | _ => False
theorem se_sl {r : V → Option Int → Option Int → Hp → VK → Prop} {φ : PyData → Option Int → Option Int → (R → Prop) → Prop} {tl th : TO} {l h : DTO} (k : RSK r φ) (hf : SE w ta f) (hl : SO w tl l) (hh : SO w th h) : SE w (tSl r ta tl th) (dSl φ f l h) := by
  constructor
  · intro ε A B hAB z
    refine hf.mono _ _ _ (fun r ε1 z => hl.mono _ _ _ (fun i ε2 z => hh.mono _ _ _ (fun j ε3 z => ?_) z) z) z
    split at z
    · exact k.mono _ _ _ _ _ (fun r q => hAB _ _ q) z
    · exact z.elim
  · intro Z O σ ε L H Q X z
    refine hf.run Z O σ ε L H _ X (hf.mono _ _ _ (fun r ε1 z => ?_) z)
    intro v L1 H1 X1 e1 r1
    refine hl.run Z O σ ε1 L1 H1 _ X1 (hl.mono _ _ _ (fun i ε2 z => ?_) z)
    intro L2 H2 X2 e2
    refine hh.run Z O σ ε2 L2 H2 _ X2 (hh.mono _ _ _ (fun j ε3 z => ?_) z)
    intro L3 H3 X3 e3
    have r3 := (r1.mono X1 e2).mono X2 e3
    split at z
    · rename_i d hd
      have et := (e1.trans e2).trans e3
      refine k.run L3 H3 v d i j Q X3.lh (r3.vl hd) (k.mono _ _ _ _ _ (fun r q => ?_) z)
      intro z L4 H4 e4 s4 r4
      exact q z L4 H4 (X3.step e4 s4) (et.trans e4.any) ((r4.vr X3).back et)
    · exact z.elim
end
end Lp

namespace Lp
open PySem PySem.Spec PyProof.Rows L2
structure DEnds where
  nx : Env → Prop
  rt : R → Env → Prop
  bk : Env → Prop := fun _ => False
  ct : Env → Prop := fun _ => False
structure DEnds.le (A B : DEnds) : Prop where
  nx : ∀ ε, A.nx ε → B.nx ε
  rt : ∀ r ε, A.rt r ε → B.rt r ε
  bk : ∀ ε, A.bk ε → B.bk ε
  ct : ∀ ε, A.ct ε → B.ct ε
theorem DEnds.le.refl (A : DEnds) : A.le A := ⟨fun _ h => h, fun _ _ h => h, fun _ h => h, fun _ h => h⟩
abbrev DTS := DEnds → Env → Prop
structure EndsOk (w : Wx) (Z : Zx) (D : Ends) (Δ : DEnds) : Prop where
  nx : ∀ (O : Addr → Prop) (σ : L2.St) (ε : Env) (L H : Hp), Rep w Z O L H σ ε → Δ.nx ε → D.nx σ H
  rt : ∀ (O : Addr → Prop) (σ : L2.St) (ε : Env) (L H : Hp) (v : V) (r : R), Rep w Z O L H σ ε → VR0 Z.H0 L H v r → Δ.rt r ε → D.rt v H
  bk : ∀ (O : Addr → Prop) (σ : L2.St) (ε : Env) (L H : Hp), Rep w Z O L H σ ε → Δ.bk ε → D.bk σ H
  ct : ∀ (O : Addr → Prop) (σ : L2.St) (ε : Env) (L H : Hp), Rep w Z O L H σ ε → Δ.ct ε → D.ct σ H
structure SS (w : Wx) (t : TS) (f : DTS) : Prop where
  mono : ∀ Δ Δ' ε, DEnds.le Δ Δ' → f Δ ε → f Δ' ε
  run : ∀ (Z : Zx) (O : Addr → Prop) (σ : L2.St) (ε : Env) (L H : Hp) (D : Ends) (Δ : DEnds), Rep w Z O L H σ ε → EndsOk w Z D Δ → f Δ ε → t D σ H
section
variable {w : Wx} {Z : Zx} {O : Addr → Prop} {σ : L2.St} {ε : Env} {L H : Hp}
theorem get_set {α : Type} {l : List α} {i j : Nat} {x y : α} (h : (l.set i x)[j]? = some y) : (i = j ∧ y = x ∧ j < l.length) ∨ (i ≠ j ∧ l[j]? = some y) := by
  rw [List.getElem?_set] at h
  split at h
  · rename_i e
    subst e
    split at h
    · cases h; exact .inl ⟨rfl, rfl, by assumption⟩
    · cases h
  · rename_i e
    exact .inr ⟨e, h⟩
/-- a slot takes a value -/
theorem Rep.put0 (x : Rep w Z O L H σ ε) {i : Nat} {v : V} {y : SV} (O' : Addr → Prop) (ho : ∀ a, O a → O' a) (hn : ∀ a, O' a → H a ≠ none ∧ Z.H0 a = none) (h : SlotR w Z O' L H (some v) y) (hd : Own y = true → ∀ a, v = .ref a → ¬ O a) : Rep w Z O' L H (σ.set i (some v)) (ε.set i y) := by
  have own : ∀ (j : Nat) (z : SV) (a : Addr), ε.s[j]? = some z → Own z = true → σ[j]? = some (some (.ref a)) → O a := by
    intro j z a hz ho ha
    obtain ⟨o, h1, h2⟩ := x.sl j z hz
    rw [ha] at h1
    cases h1
    cases z with
    | ow ds => obtain ⟨b, xs, e, h3, _⟩ := h2; cases e; exact h3
    | st S n => obtain ⟨b, e, h3, _⟩ := h2; cases e; exact h3
    | dco xs => obtain ⟨b, e, h3, _⟩ := h2; cases e; exact h3
    | sto M => obtain ⟨b, A, e, h3, _⟩ := h2; cases e; exact h3
    | _ => cases ho
  refine ⟨x.lh, x.pn, x.ex, x.bo, hn, ?_, fun j z hz => ?_, fun j k z z' a hjk hz hz' oz oz' hj hk => ?_, x.ph⟩
  · show (σ.set i (some v)).length = (ε.s.set i y).length
    rw [List.length_set, List.length_set]; exact x.len
  · rcases get_set hz with ⟨rfl, rfl, hl⟩ | ⟨ne, hz⟩
    · refine ⟨some v, ?_, h⟩
      rw [List.getElem?_set, if_pos rfl, if_pos (by rw [x.len]; exact hl)]
    · obtain ⟨o, h1, h2⟩ := x.sl j z hz
      refine ⟨o, by rw [List.getElem?_set, if_neg ne]; exact h1, ?_⟩
      cases z with
      | ow ds => obtain ⟨a, xs, e1, e2, e3⟩ := h2; exact ⟨a, xs, e1, ho a e2, e3⟩
      | st S n => obtain ⟨a, e1, e2, e3⟩ := h2; exact ⟨a, e1, ho a e2, e3⟩
      | dco xs => obtain ⟨a, e1, e2, e3⟩ := h2; exact ⟨a, e1, ho a e2, e3⟩
      | sto M => obtain ⟨a, A, e1, e2, e3⟩ := h2; exact ⟨a, A, e1, ho a e2, e3⟩
      | _ => exact h2
  · rcases get_set hz with ⟨rfl, rfl, hl⟩ | ⟨ne, hz1⟩
    · rcases get_set hz' with ⟨rfl, _, _⟩ | ⟨ne', hz'⟩
      · exact hjk rfl
      · rw [List.getElem?_set, if_pos rfl, if_pos (by rw [x.len]; exact hl)] at hj
        rw [List.getElem?_set, if_neg ne'] at hk
        exact hd oz a (Option.some.inj (Option.some.inj hj)) (own k z' a hz' oz' hk)
    · rw [List.getElem?_set, if_neg ne] at hj
      rcases get_set hz' with ⟨e1, e2, hl⟩ | ⟨ne', hz2⟩
      · subst e1
        subst e2
        rw [List.getElem?_set, if_pos rfl, if_pos (by rw [x.len]; exact hl)] at hk
        exact hd oz' a (Option.some.inj (Option.some.inj hk)) (own j z a hz1 oz hj)
      · rw [List.getElem?_set, if_neg ne'] at hk
        exact x.di j k z z' a hjk hz1 hz2 oz oz' hj hk
theorem Rep.sh (x : Rep w Z O L H σ ε) {i : Nat} {v : V} {d : PyData} (h : DV L v d) : Rep w Z O L H (σ.set i (some v)) (ε.set i (.sh d)) :=
  x.put0 O (fun _ h => h) x.oh ⟨v, rfl, h⟩ (fun z => nomatch z)
theorem Rep.exnS (x : Rep w Z O L H σ ε) {i : Nat} {v : V} {y : Xn} (h : XV w L v y) : Rep w Z O L H (σ.set i (some v)) (ε.set i (.exn y)) :=
  x.put0 O (fun _ h => h) x.oh ⟨v, rfl, h⟩ (fun z => nomatch z)
theorem Rep.rawS (x : Rep w Z O L H σ ε) {i : Nat} {v : V} : Rep w Z O L H (σ.set i (some v)) (ε.set i (.raw v)) :=
  x.put0 O (fun _ h => h) x.oh rfl (fun z => nomatch z)
theorem Rep.dsS (x : Rep w Z O L H σ ε) {i : Nat} {v : V} {xs : List DRow} (h : DVd L v xs) : Rep w Z O L H (σ.set i (some v)) (ε.set i (.dsh xs)) :=
  x.put0 O (fun _ h => h) x.oh ⟨v, rfl, h⟩ (fun e => nomatch e)
theorem Rep.genS (x : Rep w Z O L H σ ε) {i : Nat} {v : V} {g : Gn} (h : g.ok L v) : Rep w Z O L H (σ.set i (some v)) (ε.set i (.gen g)) :=
  x.put0 O (fun _ h => h) x.oh ⟨v, rfl, h⟩ (fun e => nomatch e)
/-- an object that nobody holds is published -/
theorem Rep.pubO (x : Rep w Z O L H σ ε) {a : Addr} {o : HO} (h2 : ¬ O a) (h3 : Z.H0 a = none) (h4 : L a = none) (h5 : H a = some o) : Rep w Z O (upd L a o) H σ ε := by
  have s1 : Same L (upd L a o) := same_upd h4
  refine ⟨same_pub x.lh h5, x.pn.trans s1, ⟨x.ex.ll.trans s1, x.ex.hh, x.ex.dom, fun b hb hd => ?_⟩, fun b hb => ?_, x.oh, x.len, fun i y hy => ?_, x.di, x.ph⟩
  · rw [upd_ne (ne_at hd h3)]; exact x.ex.fr b hb hd
  · obtain ⟨q1, q2, q3⟩ := x.bo b hb
    exact ⟨by rw [upd_ne (ne_at q3 h3)]; exact q1, q2, q3⟩
  · obtain ⟨o, q1, q2⟩ := x.sl i y hy
    refine ⟨o, q1, ?_⟩
    cases y with
    | un => trivial
    | sh d =>
      obtain ⟨v, e1, e2⟩ := q2
      exact ⟨v, e1, e2.to s1⟩
    | ow ds =>
      obtain ⟨b, ys, e1, e2, e3, e4, e5, e6⟩ := q2
      exact ⟨b, ys, e1, e2, by rw [upd_ne (fun z => h2 (by rw [← z]; exact e2))]; exact e3, e4, e5, e6.to s1⟩
    | bx => exact q2
    | st S n =>
      obtain ⟨b, e1, e2, e3, e4, e5⟩ := q2
      exact ⟨b, e1, e2, by rw [upd_ne (fun z => h2 (by rw [← z]; exact e2))]; exact e3, e4, e5⟩
    | raw u => exact q2
    | exn x => obtain ⟨v, e1, e2⟩ := q2; exact ⟨v, e1, e2.to s1⟩
    | dco xs =>
      obtain ⟨b, e1, e2, e3, e4, e5, e6⟩ := q2
      exact ⟨b, e1, e2, by rw [upd_ne (fun z => h2 (by rw [← z]; exact e2))]; exact e3, e4, e5, e6.to s1⟩
    | sto M =>
      obtain ⟨b, A, e1, e2, e3, e4, e5, e6⟩ := q2
      exact ⟨b, A, e1, e2, by rw [upd_ne (fun z => h2 (by rw [← z]; exact e2))]; exact e3, e4, e5, e6.to s1⟩
    | dsh xs => obtain ⟨v, e1, e2⟩ := q2; exact ⟨v, e1, e2.to s1⟩
    | gen g => obtain ⟨v, e1, e2⟩ := q2; exact ⟨v, e1, g.mono s1 e2⟩
/-- what is stored of a value: own or for all to see -/
def val (own : Bool) : R → Option SV
  | .sh d => some (.sh d)
  | .nw ds => some (if own = true then .ow ds else .sh (.list ds))
  | .raw v => some (.raw v)
  | .exn x => some (.exn x)
  | .dnw xs => some (if own = true then .dco xs else .dsh xs)
  | .dsh xs => some (.dsh xs)
  | .gen g => some (.gen g)
  | _ => none
/-- a new list at a -/
def nwAt (r : R) (v : V) (a : Addr) : Prop := ((∃ ds, r = .nw ds) ∨ ∃ xs, r = .dnw xs) ∧ v = .ref a
theorem Rep.put {Hs : Hp} (x : Rep w Z O L H σ ε) {i : Nat} {own : Bool} {v : V} {r : R} {y : SV} (h : VR w Z O σ Hs L H v r) (hy : val own r = some y) : ∃ O' L', Rep w Z O' L' H (σ.set i (some v)) (ε.set i y) ∧ Same L L' ∧ (∀ a, L a = none → ¬ nwAt r v a → L' a = none) ∧ ∀ a, O' a → O a ∨ nwAt r v a := by
  cases r with
  | sh d =>
    cases hy
    exact ⟨O, L, x.sh h, Same.refl L, fun a h _ => h, fun a h => .inl h⟩
  | nw ds =>
    cases own with
    | true =>
      cases hy
      obtain ⟨a, xs, rfl, h1, h2, h3, h4, h5, h6⟩ := h
      refine ⟨fun b => O b ∨ b = a, L, x.put0 (fun b => O b ∨ b = a) (fun b h => .inl h) (fun b hb => ?_) ⟨a, xs, rfl, .inr rfl, h4, h3, h5, h6⟩ (fun _ b e => by cases e; exact h2), Same.refl L, fun b h _ => h, fun b hb => hb.imp id fun z => ⟨.inl ⟨_, rfl⟩, by rw [z]⟩⟩
      rcases hb with hb | rfl
      · exact x.oh b hb
      · exact ⟨by rw [h5]; exact (fun z => nomatch z), h3⟩
    | false =>
      cases hy
      have h' := h
      obtain ⟨a, xs, rfl, h1, h2, h3, h4, h5, h6⟩ := h'
      have s1 : Same L (upd L a (.lst xs)) := same_upd h4
      obtain ⟨L2, X2, e2, d2⟩ : ∃ L2, Rep w Z O L2 H σ ε ∧ L2 = upd L a (.lst xs) ∧ DV L2 (.ref a) (.list ds) := by
        refine ⟨_, ⟨same_pub x.lh h5, x.pn.trans s1, ⟨x.ex.ll.trans s1, x.ex.hh, x.ex.dom, fun b hb hd => ?_⟩, fun b hb => ?_, x.oh, x.len, fun i y hy => ?_, x.di, x.ph⟩, rfl, .lst upd_same (h6.to s1)⟩
        · rw [upd_ne (ne_at hd h3)]; exact x.ex.fr b hb hd
        · obtain ⟨q1, q2, q3⟩ := x.bo b hb
          exact ⟨by rw [upd_ne (ne_at q3 h3)]; exact q1, q2, q3⟩
        · obtain ⟨o, q1, q2⟩ := x.sl i y hy
          refine ⟨o, q1, ?_⟩
          cases y with
          | un => trivial
          | sh d =>
            obtain ⟨v, e1, e2⟩ := q2
            exact ⟨v, e1, e2.to s1⟩
          | ow ds =>
            obtain ⟨b, ys, e1, e2, e3, e4, e5, e6⟩ := q2
            exact ⟨b, ys, e1, e2, by rw [upd_ne (fun z => h2 (by rw [← z]; exact e2))]; exact e3, e4, e5, e6.to s1⟩
          | bx => exact q2
          | st S n =>
            obtain ⟨b, e1, e2, e3, e4, e5⟩ := q2
            exact ⟨b, e1, e2, by rw [upd_ne (fun z => h2 (by rw [← z]; exact e2))]; exact e3, e4, e5⟩
          | raw u => exact q2
          | exn x => obtain ⟨v, e1, e2⟩ := q2; exact ⟨v, e1, e2.to s1⟩
          | dco xs =>
            obtain ⟨b, e1, e2, e3, e4, e5, e6⟩ := q2
            exact ⟨b, e1, e2, by rw [upd_ne (fun z => h2 (by rw [← z]; exact e2))]; exact e3, e4, e5, e6.to s1⟩
          | sto M =>
            obtain ⟨b, A, e1, e2, e3, e4, e5, e6⟩ := q2
            exact ⟨b, A, e1, e2, by rw [upd_ne (fun z => h2 (by rw [← z]; exact e2))]; exact e3, e4, e5, e6.to s1⟩
          | dsh xs => obtain ⟨v, e1, e2⟩ := q2; exact ⟨v, e1, e2.to s1⟩
          | gen g => obtain ⟨v, e1, e2⟩ := q2; exact ⟨v, e1, g.mono s1 e2⟩
      refine ⟨O, L2, X2.sh d2, by rw [e2]; exact s1, fun b hb nb => ?_, fun b hb => .inl hb⟩
      rw [e2, upd_ne (fun z => nb ⟨.inl ⟨_, rfl⟩, by rw [z]⟩)]; exact hb
  | raw u =>
    cases hy
    cases (show v = u from h)
    exact ⟨O, L, x.rawS, Same.refl L, fun a h _ => h, fun a h => .inl h⟩
  | exn y =>
    cases hy
    exact ⟨O, L, x.exnS h, Same.refl L, fun a h _ => h, fun a h => .inl h⟩
  | br i ds => cases hy
  | bx => cases hy
  | sr i S n => cases hy
  | dbr i xs => cases hy
  | srt i M => cases hy
  | dsh xs =>
    cases hy
    exact ⟨O, L, x.dsS h, Same.refl L, fun a h _ => h, fun a h => .inl h⟩
  | gen g =>
    cases hy
    exact ⟨O, L, x.genS h, Same.refl L, fun a h _ => h, fun a h => .inl h⟩
  | dnw xs =>
    cases own with
    | true =>
      cases hy
      obtain ⟨a, rfl, h1, h2, h3, h4, h5, h6⟩ := h
      refine ⟨fun b => O b ∨ b = a, L, x.put0 (fun b => O b ∨ b = a) (fun b h => .inl h) (fun b hb => ?_) ⟨a, rfl, .inr rfl, h4, h3, h5, h6⟩ (fun _ b e => by cases e; exact h2), Same.refl L, fun b h _ => h, fun b hb => hb.imp id fun z => ⟨.inr ⟨_, rfl⟩, by rw [z]⟩⟩
      rcases hb with hb | rfl
      · exact x.oh b hb
      · exact ⟨h5.ne, h3⟩
    | false =>
      cases hy
      obtain ⟨a, rfl, h1, h2, h3, h4, ⟨ob, h5⟩, h6⟩ := h
      have s1 : Same L (upd L a (DctO ob a xs)) := same_upd h4
      obtain ⟨L2, X2, e2, d2⟩ : ∃ L2, Rep w Z O L2 H σ ε ∧ L2 = upd L a (DctO ob a xs) ∧ DVd L2 (.ref a) xs :=
        ⟨_, x.pubO h2 h3 h4 h5, rfl, a, rfl, ⟨ob, upd_same⟩, h6.to s1⟩
      refine ⟨O, L2, X2.dsS d2, by rw [e2]; exact s1, fun b hb nb => ?_, fun b hb => .inl hb⟩
      rw [e2, upd_ne (fun z => nb ⟨.inr ⟨_, rfl⟩, by rw [z]⟩)]; exact hb
end
section
variable {w : Wx} {ta tb tc : TE} {f g h : DTE} {t u : TS} {p q : DTS}
def dNext  (Δ : DEnds) (ε : Env) : Prop := Δ.nx ε
theorem ss_next : SS w tNext dNext := ⟨fun _ _ ε l z => l.nx ε z, fun Z O σ ε L H D Δ X E z => E.nx O σ ε L H X z⟩
def dSeq (p q : DTS)  (Δ : DEnds) (ε : Env) : Prop := p { Δ with nx := q Δ } ε
theorem ss_seq (hp : SS w t p) (hq : SS w u q) : SS w (tSeq t u) (dSeq p q) :=
  ⟨fun Δ Δ' ε l z => hp.mono { Δ with nx := q Δ } _ ε ⟨fun ε z => hq.mono _ _ ε l z, l.rt, l.bk, l.ct⟩ z,
   fun Z O σ ε L H D Δ X E z => hp.run Z O σ ε L H _ { Δ with nx := q Δ } X ⟨fun O σ ε L H X z => hq.run Z O σ ε L H D Δ X E z, E.rt, E.bk, E.ct⟩ z⟩
def dBreak  (Δ : DEnds) (ε : Env) : Prop := Δ.bk ε
def dCont  (Δ : DEnds) (ε : Env) : Prop := Δ.ct ε
def dNever  (_ : DEnds) (_ : Env) : Prop := False
theorem ss_never : SS w tNever dNever := ⟨fun _ _ _ _ z => z, fun Z O σ ε L H D Δ X E z => z⟩
def dDrop (f : DTE)  (Δ : DEnds) (ε : Env) : Prop := f ε fun _ ε1 => Δ.nx ε1
theorem ss_drop (hf : SE w ta f) : SS w (tDrop ta) (dDrop f) :=
  ⟨fun Δ Δ' ε l z => hf.mono _ _ _ (fun _ ε1 z => l.nx ε1 z) z,
   fun Z O σ ε L H D Δ X E z => hf.run Z O σ ε L H _ X (hf.mono _ _ _ (fun _ ε1 z v L1 H1 X1 e1 r1 => E.nx O σ ε1 L1 H1 X1 z) z)⟩
def R.ret : R → Option R
  | .sh d => some (.sh d)
  | .nw ds => some (.nw ds)
  | .br _ ds => some (.nw ds)
  | .dnw xs => some (.dnw xs)
  | .dbr _ xs => some (.dnw xs)
  | .dsh xs => some (.dsh xs)
  | .gen g => some (.gen g)
  | _ => none
def dRet (f : DTE)  (Δ : DEnds) (ε : Env) : Prop := f ε fun r ε1 => match r.ret with
  | some r => Δ.rt r ε1
  | none => False
theorem VR.ret {Z : Zx} {O : Addr → Prop} {σ : L2.St} {Hs L H : Hp} {v : V} {r r' : R} (x : VR w Z O σ Hs L H v r) (e : r.ret = some r') : VR0 Z.H0 L H v r' := by
  cases r with
  | sh d => cases e; exact x
  | nw ds =>
    cases e
    obtain ⟨a, xs, rfl, h1, h2, h3, h4, h5, h6⟩ := x
    exact ⟨a, xs, rfl, h3, h4, h5, h6⟩
  | br i ds =>
    cases e
    obtain ⟨a, xs, rfl, h1, h2, h3, h4, h5, h6⟩ := x
    exact ⟨a, xs, rfl, h3, h4, h5, h6⟩
  | bx => cases e
  | raw u => cases e
  | sr i S n => cases e
  | exn y => cases e
  | dnw xs =>
    cases e
    obtain ⟨a, rfl, h1, h2, h3, h4, h5, h6⟩ := x
    exact ⟨a, rfl, h3, h4, h5, h6⟩
  | dbr i xs =>
    cases e
    obtain ⟨a, rfl, h1, h2, h3, h4, h5, h6⟩ := x
    exact ⟨a, rfl, h3, h4, h5, h6⟩
  | srt i M => cases e
  | dsh xs => cases e; exact x
  | gen g => cases e; exact x
theorem ss_ret (hf : SE w ta f) : SS w (tRet ta) (dRet f) := by
  constructor
  · intro Δ Δ' ε l z
    refine hf.mono _ _ _ (fun r ε1 z => ?_) z
    split at z
    · exact l.rt _ _ z
    · exact z.elim
  · intro Z O σ ε L H D Δ X E z
    refine hf.run Z O σ ε L H _ X (hf.mono _ _ _ (fun r ε1 z => ?_) z)
    intro v L1 H1 X1 e1 r1
    split at z
    · rename_i r' hr
      exact E.rt O σ ε1 L1 H1 v r' X1 (r1.ret hr) z
    · exact z.elim
def dRetN  (Δ : DEnds) (ε : Env) : Prop := Δ.rt (.sh .none) ε
def dIfS (c : DTT) (p q : DTS)  (Δ : DEnds) (ε : Env) : Prop := c ε fun b ε1 => if b = true then p Δ ε1 else q Δ ε1
theorem ss_if {c : TT} {k : DTT} (hc : ST w c k) (hp : SS w t p) (hq : SS w u q) : SS w (tIfS c t u) (dIfS k p q) := by
  constructor
  · intro Δ Δ' ε l z
    refine hc.mono _ _ _ (fun b ε1 z => ?_) z
    cases b with
    | true => exact iteT (hp.mono _ _ _ l (by rw [if_pos rfl] at z; exact z))
    | false => exact iteF (hq.mono _ _ _ l (by rw [if_neg Bool.false_ne_true] at z; exact z))
  · intro Z O σ ε L H D Δ X E z
    refine hc.run Z O σ ε L H _ X (hc.mono _ _ _ (fun b ε1 z => ?_) z)
    intro L1 H1 X1 e1
    cases b with
    | true => exact iteT (hp.run Z O σ ε1 L1 H1 D Δ X1 E (by rw [if_pos rfl] at z; exact z))
    | false => exact iteF (hq.run Z O σ ε1 L1 H1 D Δ X1 E (by rw [if_neg Bool.false_ne_true] at z; exact z))
def dSetG (own : Bool) (i : Nat) (f : DTE)  (Δ : DEnds) (ε : Env) : Prop := f ε fun r ε1 => match val own r with
  | some x => Δ.nx (ε1.set i x)
  | none => False
theorem ss_set (own : Bool) {i : Nat} (hf : SE w ta f) : SS w (tAsg ta (gName i)) (dSetG own i f) := by
  constructor
  · intro Δ Δ' ε l z
    refine hf.mono _ _ _ (fun r ε1 z => ?_) z
    split at z
    · exact l.nx _ z
    · exact z.elim
  · intro Z O σ ε L H D Δ X E z
    refine hf.run Z O σ ε L H _ X (hf.mono _ _ _ (fun r ε1 z => ?_) z)
    intro v L1 H1 X1 e1 r1
    split at z
    · rename_i x hx
      obtain ⟨O', L', X', _⟩ := X1.put (i := i) r1 hx
      exact E.nx O' _ _ L' H1 X' z
    · exact z.elim
def dPar (i : Nat) (oi : Bool) (j : Nat) (oj : Bool) (f g : DTE)  (Δ : DEnds) (ε : Env) : Prop := f ε fun x ε1 => g ε1 fun y ε2 => match val oi x, val oj y with
  | some a, some b => Δ.nx ((ε2.set i a).set j b)
  | _, _ => False
theorem VR.setσ {Z : Zx} {O O' : Addr → Prop} {σ σ' : L2.St} {Hs L L' H : Hp} {v : V} {r : R} (N : Addr → Prop) (x : VR w Z O σ Hs L H v r) {own : Bool} {y : SV} (hy : val own r = some y) (s : Same L L') (hl : ∀ a, L a = none → ¬ N a → L' a = none) (ho : ∀ a, O' a → O a ∨ N a) (hu : ∀ a, N a → Hs a ≠ none) : VR w Z O' σ' Hs L' H v r := by
  cases r with
  | sh d => exact DV.to x s
  | nw ds =>
    obtain ⟨a, xs, rfl, h1, h2, h3, h4, h5, h6⟩ := x
    have ne : ¬ N a := fun z => hu a z h1
    exact ⟨a, xs, rfl, h1, fun o => (ho a o).elim h2 ne, h3, hl a h4 ne, h5, h6.to s⟩
  | raw u => exact x
  | exn y => exact XV.to x s
  | br i ds => cases hy
  | bx => cases hy
  | sr i S n => cases hy
  | dbr i xs => cases hy
  | srt i M => cases hy
  | dsh xs => exact DVd.to s x
  | gen g => exact g.mono s x
  | dnw xs =>
    obtain ⟨a, rfl, h1, h2, h3, h4, h5, h6⟩ := x
    have ne : ¬ N a := fun z => hu a z h1
    exact ⟨a, rfl, h1, fun o => (ho a o).elim h2 ne, h3, hl a h4 ne, h5, h6.to s⟩
theorem VR.nwAt {Z : Zx} {O : Addr → Prop} {σ : L2.St} {Hs L H : Hp} {v : V} {r : R} {a : Addr} (x : VR w Z O σ Hs L H v r) (e : Lp.nwAt r v a) : H a ≠ none := by
  obtain ⟨⟨ds, rfl⟩ | ⟨ys, rfl⟩, rfl⟩ := e
  · obtain ⟨b, xs, e, h1, h2, h3, h4, h5, h6⟩ := x
    cases e
    rw [h5]; exact fun z => nomatch z
  · obtain ⟨b, e, h1, h2, h3, h4, h5, h6⟩ := x
    cases e
    exact h5.ne
theorem two_put {Z : Zx} {O : Addr → Prop} {σ : L2.St} {ε : Env} {H L1 H1 L2 H2 : Hp} {v u : V} {x y : R} {oi oj : Bool} {i j : Nat} {a b : SV} (X2 : Rep w Z O L2 H2 σ ε) (r1 : VR w Z O σ H L1 H1 v x) (r1' : VR w Z O σ H L2 H2 v x) (r2 : VR w Z O σ H1 L2 H2 u y) (ha : val oi x = some a) (hb : val oj y = some b) :
    ∃ O' L', Rep w Z O' L' H2 ((σ.set i (some v)).set j (some u)) ((ε.set i a).set j b) ∧ Same L2 L' ∧ (∀ a, L2 a = none → ¬ (nwAt x v a ∨ nwAt y u a) → L' a = none) ∧ ∀ a, O' a → O a ∨ nwAt x v a ∨ nwAt y u a := by
  obtain ⟨O', L', X3, s3, hl3, ho3⟩ := X2.put (i := i) r1' ha
  have r2' : VR w Z O' (σ.set i (some v)) H1 L' H2 u y := r2.setσ (nwAt x v) hb s3 hl3 ho3 fun a ea => r1.nwAt ea
  obtain ⟨O2, L3, X4, s4, hl4, ho4⟩ := X3.put (i := j) r2' hb
  refine ⟨O2, L3, X4, s3.trans s4, fun a h n => hl4 a (hl3 a h (fun z => n (.inl z))) (fun z => n (.inr z)), fun a h => ?_⟩
  rcases ho4 a h with q | q
  · exact (ho3 a q).imp id .inl
  · exact .inr (.inr q)
theorem ss_par {i j : Nat} {oi oj : Bool} (hf : SE w ta f) (hg : SE w tb g) : SS w (tPar i j (tCons ta (tCons tb tNil))) (dPar i oi j oj f g) := by
  constructor
  · intro Δ Δ' ε l z
    refine hf.mono _ _ _ (fun x ε1 z => hg.mono _ _ _ (fun y ε2 z => ?_) z) z
    split at z
    · exact l.nx _ z
    · exact z.elim
  · intro Z O σ ε L H D Δ X E z
    refine hf.run Z O σ ε L H _ X (hf.mono _ _ _ (fun x ε1 z => ?_) z)
    intro v L1 H1 X1 e1 r1
    refine hg.run Z O σ ε1 L1 H1 _ X1 (hg.mono _ _ _ (fun y ε2 z => ?_) z)
    intro u L2 H2 X2 e2 r2
    split at z
    · rename_i a b ha hb
      obtain ⟨O', L', X', _⟩ := two_put (i := i) (j := j) X2 r1 (r1.mono X1 e2) r2 ha hb
      exact ⟨v, u, rfl, E.nx O' _ _ L' H2 X' z⟩
    · exact z.elim
/-- the same where the pair is made and taken apart -/
theorem ss_parT {K : PySem.W.Frag} {i j : Nat} {oi oj : Bool} (hf : SE w ta f) (hg : SE w tb g) : SS w (tAsg (tTupS (tCons ta (tCons tb tNil))) (gTup K 2 (gCons (gName i) (gCons (gName j) gNil)))) (dPar i oi j oj f g) := by
  constructor
  · exact (ss_par hf hg).mono
  · intro Z O σ ε L H D Δ X E z
    refine hf.run Z O σ ε L H _ X (hf.mono _ _ _ (fun x ε1 z => ?_) z)
    intro v L1 H1 X1 e1 r1
    refine hg.run Z O σ ε1 L1 H1 _ X1 (hg.mono _ _ _ (fun y ε2 z => ?_) z)
    intro u L2 H2 X2 e2 r2
    split at z
    · rename_i a b ha hb
      refine ⟨by show 2 ≤ sizeLine; decide, fun p o np no => ⟨p, _, rfl, Sol.seq ⟨o, no, upd_same⟩, rfl, v, _, rfl, u, _, rfl, rfl, ?_⟩⟩
      have e3 : Ext none L2 H2 L2 (upd H2 p (.frz o (.tup [v, u]))) := Ext.own np
      have X3 := X2.step e3 (same_own X2.lh (X2.lh.free np))
      obtain ⟨O', L', X', _⟩ := two_put (i := i) (j := j) X3 r1 ((r1.mono X1 e2).mono X2 e3.any) (r2.mono X2 e3.any) ha hb
      exact E.nx O' _ _ L' _ X' z
    · exact z.elim
def dPar3 (i : Nat) (oi : Bool) (j : Nat) (oj : Bool) (k : Nat) (ok : Bool) (f g h : DTE)  (Δ : DEnds) (ε : Env) : Prop := f ε fun x ε1 => g ε1 fun y ε2 => h ε2 fun z ε3 => match val oi x, val oj y, val ok z with
  | some a, some b, some c => Δ.nx (((ε3.set i a).set j b).set k c)
  | _, _, _ => False
end
end Lp

namespace Lp
open PySem PySem.Spec PyProof.Rows L2
section
variable {w : Wx} {Z : Zx} {O : Addr → Prop} {σ : L2.St} {ε : Env} {L H : Hp}
/-- the list of slot i changes -/
theorem Rep.mut (x : Rep w Z O L H σ ε) {i : Nat} {a : Addr} {y z : SV} {o : HO} (hi : ε.s[i]? = some y) (hy : Own y = true) (ha : σ[i]? = some (some (.ref a))) (h : SlotR w Z O L (upd H a o) (some (.ref a)) z) : Rep w Z O L (upd H a o) σ (ε.set i z) ∧ L a = none ∧ Z.H0 a = none ∧ O a := by
  obtain ⟨o1, h1, h2⟩ := x.sl i y hi
  rw [ha] at h1
  cases h1
  have key : O a ∧ L a = none ∧ Z.H0 a = none := by
    cases y with
    | ow ds => obtain ⟨b, xs, e, k1, k2, k3, _⟩ := h2; cases e; exact ⟨k1, k2, k3⟩
    | st S n => obtain ⟨b, e, k1, k2, k3, _⟩ := h2; cases e; exact ⟨k1, k2, k3⟩
    | dco xs => obtain ⟨b, e, k1, k2, k3, _⟩ := h2; cases e; exact ⟨k1, k2, k3⟩
    | sto M => obtain ⟨b, A, e, k1, k2, k3, _⟩ := h2; cases e; exact ⟨k1, k2, k3⟩
    | _ => cases hy
  obtain ⟨k1, k2, k3⟩ := key
  have nb : ∀ b, Z.b = some b → b ≠ a := fun b hb e => (x.bo b hb).2.2 (by rw [e]; exact k3)
  refine ⟨⟨same_own x.lh k2, x.pn, ⟨x.ex.ll, fun b u hb nb => ?_, fun b hb => ?_, x.ex.fr⟩, fun b hb => ?_, fun b hb => ⟨?_, (x.oh b hb).2⟩, ?_, fun j u hu => ?_, fun j k u u' b hjk hu hu' ou ou' => ?_, x.ph⟩, k2, k3, k1⟩
  · rw [upd_ne (ne_of_none hb k3)]; exact x.ex.hh b u hb nb
  · by_cases q : b = a
    · rw [q, upd_same]; exact fun z => nomatch z
    · rw [upd_ne q]; exact x.ex.dom b hb
  · obtain ⟨q1, q2, q3⟩ := x.bo b hb
    exact ⟨q1, q2.keep (upd_ne (nb b hb)), q3⟩
  · by_cases q : b = a
    · rw [q, upd_same]; exact fun z => nomatch z
    · rw [upd_ne q]; exact (x.oh b hb).1
  · show σ.length = (ε.s.set i z).length
    rw [List.length_set]; exact x.len
  · rcases get_set hu with ⟨rfl, rfl, hl⟩ | ⟨ne, hu1⟩
    · exact ⟨_, ha, h⟩
    · obtain ⟨o2, g1, g2⟩ := x.sl j u hu1
      refine ⟨o2, g1, ?_⟩
      cases u with
      | ow ds =>
        obtain ⟨b, ys, e1, e2, e3, e4, e5, e6⟩ := g2
        subst e1
        have ba : b ≠ a := fun q => x.di i j y (.ow ds) a ne hi hu1 hy rfl ha (by rw [g1, q])
        exact ⟨b, ys, rfl, e2, e3, e4, by rw [upd_ne ba]; exact e5, e6⟩
      | st S n =>
        obtain ⟨b, e1, e2, e3, e4, e5⟩ := g2
        subst e1
        have ba : b ≠ a := fun q => x.di i j y (.st S n) a ne hi hu1 hy rfl ha (by rw [g1, q])
        exact ⟨b, rfl, e2, e3, e4, by rw [upd_ne ba]; exact e5⟩
      | dco xs =>
        obtain ⟨b, e1, e2, e3, e4, e5, e6⟩ := g2
        subst e1
        have ba : b ≠ a := fun q => x.di i j y (.dco xs) a ne hi hu1 hy rfl ha (by rw [g1, q])
        exact ⟨b, rfl, e2, e3, e4, (let ⟨ob, k⟩ := e5; ⟨ob, by rw [upd_ne ba]; exact k⟩), e6⟩
      | sto M =>
        obtain ⟨b, A, e1, e2, e3, e4, e5, e6⟩ := g2
        subst e1
        have ba : b ≠ a := fun q => x.di i j y (.sto M) a ne hi hu1 hy rfl ha (by rw [g1, q])
        exact ⟨b, A, rfl, e2, e3, e4, by rw [upd_ne ba]; exact e5, e6⟩
      | _ => exact g2
  · have back : ∀ (j : Nat) (u : SV), (ε.set i z).s[j]? = some u → Own u = true → ∃ u', ε.s[j]? = some u' ∧ Own u' = true := fun j u hu ou => by
      rcases get_set hu with ⟨rfl, rfl, _⟩ | ⟨_, h⟩
      · exact ⟨y, hi, hy⟩
      · exact ⟨u, h, ou⟩
    obtain ⟨v, hv, ov⟩ := back j u hu ou
    obtain ⟨v', hv', ov'⟩ := back k u' hu' ou'
    exact x.di j k v v' b hjk hv hv' ov ov'
end
section
variable {w : Wx} {ta tb tc te : TE} {f g h : DTE} {t u : TS} {p q : DTS} {K : PySem.W.Frag}
def dAppend (i : Nat) (f : DTE)  (Δ : DEnds) (ε : Env) : Prop := match ε.s[i]? with
  | some (.ow _) => f ε fun r ε1 => match r.pub, ε1.s[i]? with
    | .sh d, some (.ow ds) => ds.length < sizeLine ∧ Δ.nx (ε1.set i (.ow (ds ++ [d])))
    | _, _ => False
  | _ => False
theorem ss_append {i : Nat} (hf : SE w te f) : SS w (tDrop (tBM K "list" rAppend (tVar i) (tCons te tNil))) (dAppend i f) := by
  constructor
  · intro Δ Δ' ε l z
    unfold dAppend at z ⊢
    split at z
    · refine hf.mono _ _ _ (fun r ε1 z => ?_) z
      split at z
      · exact ⟨z.1, l.nx _ z.2⟩
      · exact z.elim
    · exact z.elim
  · intro Z O σ ε L H D Δ X E z
    unfold dAppend at z
    split at z
    · rename_i ds0 h0
      obtain ⟨o, h1, a, xs, h2, h3, h4, h5, h6, h7⟩ := X.sl i _ h0
      subst h2
      refine ⟨.ref a, h1, .inl ⟨rfl, _, SqL.of h6⟩, ?_⟩
      refine hf.run Z O σ ε L H _ X (hf.mono _ _ _ (fun r ε1 z => ?_) z)
      intro v L1 H1 X1 e1 r1
      split at z
      · rename_i d ds hd hs
        obtain ⟨L2, X2, e2, r2⟩ := publ X1 e1 r1
        rw [hd] at r2
        obtain ⟨o', g1, b, ys, g2, g3, g4, g5, g6, g7⟩ := X2.sl i _ hs
        subst g2
        rw [h1] at g1
        cases g1
        refine ⟨a, ys, v, rfl, rfl, g6, by rw [g7.len]; exact z.1, ?_⟩
        have X3 := (X2.mut (o := .lst (ys ++ [v])) hs rfl h1 (z := .ow (ds ++ [d])) ⟨a, _, rfl, g3, g4, g5, upd_same, g7.app (.one r2)⟩).1
        exact E.nx _ _ _ _ _ X3 z.2
      · exact z.elim
    · exact z.elim
/-- xs.append(ys.pop(e)) -/
def dAppPop (i j : Nat) (f : DTE)  (Δ : DEnds) (ε : Env) : Prop := match ε.s[i]?, ε.s[j]? with
  | some (.ow _), some (.ow _) => f ε fun r ε1 => match r.dat, ε1.s[i]?, ε1.s[j]? with
    | some (.int k), some (.ow ds), some (.ow es) => 0 ≤ k ∧ k < (es.length : Int) ∧ es.length < 1000000 ∧ ds.length < sizeLine ∧ ∃ d, es[k.toNat]? = some d ∧ Δ.nx ((ε1.set j (.ow (es.eraseIdx k.toNat))).set i (.ow (ds ++ [d])))
    | _, _, _ => False
  | _, _ => False
theorem DVs.erase {H : Hp} : ∀ {vs : List V} {ds : List PyData} (n : Nat), DVs H vs ds → DVs H (vs.eraseIdx n) (ds.eraseIdx n)
  | _, _, _, .nil => .nil
  | _, _, 0, .cons a r => r
  | _, _, n + 1, .cons a r => .cons a (r.erase n)
/-- xs[e] = e' -/
def dSetIx (i : Nat) (f g : DTE)  (Δ : DEnds) (ε : Env) : Prop := f ε fun r ε1 => match r.pub with
  | .sh d => match ε1.s[i]? with
    | some (.ow _) => g ε1 fun k ε2 => match k.dat, ε2.s[i]? with
      | some (.int j), some (.ow ds) => ∃ m, ixN ds.length j = some m ∧ Δ.nx (ε2.set i (.ow (ds.set m d)))
      | _, _ => False
    | _ => False
  | _ => False
theorem ss_setIx {i : Nat} (hf : SE w ta f) (hg : SE w tb g) : SS w (tAsg ta (gSub (tVar i) tb rSetL)) (dSetIx i f g) := by
  constructor
  · intro Δ Δ' ε l z
    refine hf.mono _ _ _ (fun r ε1 z => ?_) z
    split at z
    · split at z
      · refine hg.mono _ _ _ (fun k ε2 z => ?_) z
        split at z
        · obtain ⟨m, h1, h2⟩ := z
          exact ⟨m, h1, l.nx _ h2⟩
        · exact z.elim
      · exact z.elim
    · exact z.elim
  · intro Z O σ ε L H D Δ X E z
    refine hf.run Z O σ ε L H _ X (hf.mono _ _ _ (fun r ε1 z => ?_) z)
    intro v L1 H1 X1 e1 r1
    split at z
    · rename_i d hd
      obtain ⟨L2, X2, e2, r2⟩ := publ X1 e1 r1
      rw [hd] at r2
      split at z
      · rename_i ds0 h0
        obtain ⟨o, h1, a, xs, h2, _⟩ := X2.sl i _ h0
        subst h2
        refine ⟨.ref a, h1, ?_⟩
        refine hg.run Z O σ ε1 L2 H1 _ X2 (hg.mono _ _ _ (fun k ε2 z => ?_) z)
        intro u L3 H3 X3 e3 r3
        split at z
        · rename_i j ds hj hs
          obtain ⟨m, m1, m2⟩ := z
          cases (r3.vl hj).int
          obtain ⟨_, g1, b, ys, g2, g3, g4, g5, g6, g7⟩ := X3.sl i _ hs
          subst g2
          rw [h1] at g1
          cases g1
          refine ⟨a, ys, j, m, rfl, rfl, g6, by rw [g7.len]; exact m1, ?_⟩
          have X4 := (X3.mut (o := .lst (ys.set m v)) hs rfl h1 (z := .ow (ds.set m d)) ⟨a, _, rfl, g3, g4, g5, upd_same, DVs.set (DV.to r2 e3.ll) m g7⟩).1
          exact E.nx _ _ _ _ _ X4 m2
        · exact z.elim
      · exact z.elim
    · exact z.elim
/-- xs += e, xs an own list -/
def dExt (i : Nat) (f : DTE)  (Δ : DEnds) (ε : Env) : Prop := match ε.s[i]? with
  | some (.ow _) => f ε fun r ε1 => match r.dat, ε1.s[i]? with
    | some (.list es), some (.ow ds) => ds.length + es.length ≤ sizeLine ∧ Δ.nx (ε1.set i (.ow (ds ++ es)))
    | _, _ => False
  | _ => False
theorem ss_ext {i : Nat} (hf : SE w te f) : SS w (tAug i te rExt2) (dExt i f) := by
  constructor
  · intro Δ Δ' ε l z
    unfold dExt at z ⊢
    split at z
    · refine hf.mono _ _ _ (fun r ε1 z => ?_) z
      split at z
      · exact ⟨z.1, l.nx _ z.2⟩
      · exact z.elim
    · exact z.elim
  · intro Z O σ ε L H D Δ X E z
    unfold dExt at z
    split at z
    · rename_i ds0 h0
      obtain ⟨o, h1, a, xs, h2, h3, h4, h5, h6, h7⟩ := X.sl i _ h0
      subst h2
      refine ⟨.ref a, h1, ?_⟩
      refine hf.run Z O σ ε L H _ X (hf.mono _ _ _ (fun r ε1 z => ?_) z)
      intro v L1 H1 X1 e1 r1
      split at z
      · rename_i es ds hd hs
        obtain ⟨b, zs, rfl, m1, m2⟩ := (r1.vl hd).lst X1.lh
        obtain ⟨_, g1, _, ys, g2, g3, g4, g5, g6, g7⟩ := X1.sl i _ hs
        subst g2
        rw [h1] at g1
        cases g1
        refine ⟨a, b, ys, zs, rfl, rfl, g6, m1, by rw [g7.len, m2.len]; exact z.1, ?_⟩
        have X3 := (X1.mut (o := .lst (ys ++ zs)) hs rfl h1 (z := .ow (ds ++ es)) ⟨a, _, rfl, g3, g4, g5, upd_same, g7.app m2⟩).1
        have e3 : σ.set i (some (.ref a)) = σ := List.ext_getElem? fun j => by
          rw [List.getElem?_set]
          split
          · rename_i e
            subst e
            split
            · exact h1.symm
            · rename_i hl
              rw [List.getElem?_eq_none_iff.mpr (by omega)]
          · rfl
        show D.nx (List.set σ i (some (.ref a))) _
        rw [e3]
        exact E.nx _ _ _ _ _ X3 z.2
      · exact z.elim
    · exact z.elim
/-- x op= e -/
def dAug (φ : PyData → PyData → (R → Prop) → Prop) (i : Nat) (f : DTE)  (Δ : DEnds) (ε : Env) : Prop := match ε.s[i]? with
  | some (.sh a) => f ε fun r ε1 => match r.dat with
    | some b => φ a b fun q => match val false q with
      | some y => Δ.nx (ε1.set i y)
      | none => False
    | none => False
  | _ => False
def dSet0 (i : Nat)  (Δ : DEnds) (ε : Env) : Prop := Δ.nx (ε.set i (.st (fun _ => false) 0))
theorem ss_set0 {i : Nat} : SS w (tAsg (tCB (rSet0 w) tNil) (gName i)) (dSet0 i) := by
  constructor
  · intro Δ Δ' ε l z
    exact l.nx _ z
  · intro Z O σ ε L H D Δ X E z
    refine ⟨rfl, fun a na => ?_⟩
    have e1 : Ext none L H L (upd H a (SetO w a (fun _ => false) 0)) := Ext.own na
    have X1 := X.step e1 (same_own X.lh (X.lh.free na))
    have n0 : Z.H0 a = none := X.ex.free na
    have nO : ¬ O a := fun o => (X.oh a o).1 na
    refine E.nx (fun b => O b ∨ b = a) _ _ _ _ (X1.put0 (i := i) (v := .ref a) (fun b => O b ∨ b = a) (fun b h => .inl h) (fun b hb => ?_) (y := .st (fun _ => false) 0) ⟨a, rfl, .inr rfl, X.lh.free na, n0, upd_same⟩ (fun _ b e => by cases e; exact nO)) z
    rcases hb with hb | rfl
    · exact X1.oh b hb
    · exact ⟨by rw [upd_same]; exact (fun z => nomatch z), n0⟩
def dSAdd (i : Nat) (f : DTE)  (Δ : DEnds) (ε : Env) : Prop := match ε.s[i]? with
  | some (.st _ _) => f ε fun r ε1 => match r.dat, ε1.s[i]? with
    | some (.int k), some (.st S n) => n + 1 < scanBound ∧ Δ.nx (ε1.set i (.st (fun j => S j || decide (j = k)) (if S k = true then n else n + 1)))
    | _, _ => False
  | _ => False
theorem ss_sadd {i : Nat} (hf : SE w te f) : SS w (tDrop (tSAdd w (tVar i) (tCons te tNil))) (dSAdd i f) := by
  constructor
  · intro Δ Δ' ε l z
    unfold dSAdd at z ⊢
    split at z
    · refine hf.mono _ _ _ (fun r ε1 z => ?_) z
      split at z
      · exact ⟨z.1, l.nx _ z.2⟩
      · exact z.elim
    · exact z.elim
  · intro Z O σ ε L H D Δ X E z
    unfold dSAdd at z
    split at z
    · rename_i S0 n0 h0
      obtain ⟨o, h1, a, h2, h3, h4, h5, h6⟩ := X.sl i _ h0
      subst h2
      refine ⟨.ref a, h1, ⟨a, S0, n0, rfl, h6⟩, ?_⟩
      refine hf.run Z O σ ε L H _ X (hf.mono _ _ _ (fun r ε1 z => ?_) z)
      intro v L1 H1 X1 e1 r1
      split at z
      · rename_i k S n hd hs
        cases (r1.vl hd).int
        obtain ⟨_, g1, _, g2, g3, g4, g5, g6⟩ := X1.sl i _ hs
        subst g2
        rw [h1] at g1
        cases g1
        refine ⟨a, k, S, n, rfl, rfl, g6, z.1, ?_⟩
        have X3 := (X1.mut (o := SetO w a (fun j => S j || decide (j = k)) (if S k = true then n else n + 1)) hs rfl h1 (z := .st (fun j => S j || decide (j = k)) (if S k = true then n else n + 1)) ⟨a, rfl, g3, g4, g5, upd_same⟩).1
        exact E.nx _ _ _ _ _ X3 z.2
      · exact z.elim
    · exact z.elim
def dSNotIn (f g : DTE)  (ε : Env) (Q : R → Env → Prop) : Prop := f ε fun x ε1 => g ε1 fun y ε2 => match x.dat, y with
  | some (.int k), .sr _ S _ => Q (.sh (.bool (!S k))) ε2
  | _, _ => False
theorem se_snotin (hf : SE w ta f) (hg : SE w tb g) : SE w (tOp (rSNotIn w) ta tb) (dSNotIn f g) := by
  constructor
  · intro ε A B h q
    refine hf.mono _ _ _ (fun x ε1 q => hg.mono _ _ _ (fun y ε2 q => ?_) q) q
    split at q
    · exact h _ _ q
    · exact q.elim
  · intro Z O σ ε L H Q X q
    refine hf.run Z O σ ε L H _ X (hf.mono _ _ _ (fun x ε1 q => ?_) q)
    intro v L1 H1 X1 e1 r1
    refine hg.run Z O σ ε1 L1 H1 _ X1 (hg.mono _ _ _ (fun y ε2 q => ?_) q)
    intro u L2 H2 X2 e2 r2
    split at q
    · rename_i k i S n ex
      obtain ⟨a, rfl, h1, h2, h3, h4, h5⟩ := r2
      cases ((r1.mono X1 e2).vl ex).int
      exact ⟨k, a, S, n, rfl, rfl, h5, q _ L2 H2 X2 (e1.trans e2) (.bl _)⟩
    · exact q.elim
end
end Lp

namespace Lp
open PySem PySem.Spec PyProof.Rows L2
/-- a list or a tuple -/
def iSeq (K : PySem.W.Frag) (tl : TE) : TI := fun σ H R => tl σ H fun x H1 => ∃ a, x = .ref a ∧ (((∃ xs, SqL K H1 a xs) ∧ R (Itl K a) H1) ∨ ((∃ xs, SqT K H1 a xs) ∧ R (Itt K a) H1))
theorem pi_seq {X : Cx} {tg o : Expr} {to : TE} (ho : PE X o to) : PI X tg o (iSeq X.K to) := by
  constructor
  intro pins s σ H R I want
  refine thn (ho.run pins s σ H _ I want) ?_
  rintro u s' ⟨_, H', J, rel, a, rfl, ways⟩
  cases rel
  have fp : ∀ b ∈ [s'.heap.objs.size], FpOk X pins H' b := fun b hb => by
    cases List.mem_singleton.mp hb
    exact J.fpOk (Nat.le_refl _) (J.hok.fresh (Nat.le_refl _))
  rcases ways with ⟨⟨xs, at_a⟩, go⟩ | ⟨⟨xs, at_a⟩, go⟩
  · obtain ⟨vals, _, lst, _⟩ := J.list at_a
    refine wpAny_pyIter_list lst.isList ⟨s'.heap.objs.size, [s'.heap.objs.size], _, _, H', rfl, ?_, turn_list a _, ⟨_, Heap.get?_push_size _ rfl, rfl, rfl⟩, fp, go⟩
    exact J.kept (t' := s'.toks) fun _ _ q => Heap.get?_push_of_some _ q
  · obtain ⟨vals, _, tup, _⟩ := J.tuple at_a
    have tup' : s'.heap.IsTuple a vals.toArray := tup
    refine wpAny_pyIter_tuple tup' ⟨s'.heap.objs.size, [s'.heap.objs.size], _, _, H', rfl, ?_, turn_tuple a _, ⟨_, Heap.get?_push_size _ rfl, rfl, rfl⟩, fp, go⟩
    exact J.kept (t' := s'.toks) fun _ _ q => Heap.get?_push_of_some _ q
/-- the items, while what is walked stands still -/
structure WalkS (pk : Bool) (L : Hp) (J : It) (ds : List PyData) : Prop where
  go : ∀ i L' H', Same L L' → Same L' H' → i < ds.length → J.go i H'
  stop : ∀ L' H', Same L L' → Same L' H' → J.stop ds.length H'
  yld : ∀ (i : Nat) d L' H' x H2, Same L L' → Same L' H' → ds[i]? = some d → J.yld i H' x H2 → ∃ L2, Ext none L' H' L2 H2 ∧ Same L2 H2 ∧ VI pk L2 H2 x d
structure WalkE (pk : Bool) (b : Option Addr) (L H : Hp) (J : It) (ds : List PyData) : Prop where
  go : ∀ i L' H', Ext b L H L' H' → Same L' H' → i < ds.length → J.go i H'
  stop : ∀ L' H', Ext b L H L' H' → Same L' H' → J.stop ds.length H'
  yld : ∀ (i : Nat) d L' H' x H2, Ext b L H L' H' → Same L' H' → ds[i]? = some d → J.yld i H' x H2 → ∃ L2, Ext none L' H' L2 H2 ∧ Same L2 H2 ∧ VI pk L2 H2 x d
theorem WalkS.e {pk : Bool} {b : Option Addr} {L H : Hp} {J : It} {ds : List PyData} (x : WalkS pk L J ds) : WalkE pk b L H J ds :=
  ⟨fun i L' H' e s h => x.go i L' H' e.ll s h, fun L' H' e s => x.stop L' H' e.ll s, fun i d L' H' y H2 e s h => x.yld i d L' H' y H2 e.ll s h⟩
abbrev DTI := Env → (List PyData → Bool → Env → Prop) → Prop
structure SI (w : Wx) (pk : Bool) (t : TI) (f : DTI) : Prop where
  mono : ∀ ε (A B : List PyData → Bool → Env → Prop), (∀ r b ε', A r b ε' → B r b ε') → f ε A → f ε B
  run : ∀ (Z : Zx) (O : Addr → Prop) (σ : L2.St) (ε : Env) (L H : Hp) (R : It → Hp → Prop), Rep w Z O L H σ ε → f ε (fun ds fl ε' => ∀ J L' H', Rep w Z O L' H' σ ε' → Ext Z.b L H L' H' → WalkE pk Z.b L' H' J ds → (fl = true → WalkS pk L' J ds) → R J H') → t σ H R
section
variable {w : Wx} {K : PySem.W.Frag} {ta tb te : TE} {f g : DTE}
theorem walkS_list {L : Hp} {a : Addr} {xs : List V} {ds : List PyData} (h : L a = some (.lst xs)) (r : DVs L xs ds) : WalkS false L (Itl K a) ds := by
  have hl := r.len
  refine ⟨fun i L' H' s1 s2 hi => ?_, fun L' H' s1 s2 => ?_, fun i d L' H' x H2 s1 s2 hd y => ?_⟩
  · exact ⟨xs, xs[i]'(by omega), SqL.of (s2 _ _ (s1 _ _ h)), List.getElem?_eq_getElem (by omega)⟩
  · exact ⟨xs, SqL.of (s2 _ _ (s1 _ _ h)), by omega⟩
  · obtain ⟨rfl, y2⟩ := y
    have hx := y2 xs (SqL.of (s2 _ _ (s1 _ _ h)))
    obtain ⟨v, h1, h2⟩ := r.get hd
    rw [hx] at h1
    cases h1
    exact ⟨L', Ext.refl _ _ _, s2, h2.to s1⟩
theorem walkS_tup {L : Hp} {a : Addr} {xs : List V} {ds : List PyData} (h : Sol L a xs) (r : DVs L xs ds) : WalkS false L (Itt K a) ds := by
  have hl := r.len
  refine ⟨fun i L' H' s1 s2 hi => ?_, fun L' H' s1 s2 => ?_, fun i d L' H' x H2 s1 s2 hd y => ?_⟩
  · exact ⟨xs, xs[i]'(by omega), ((h.to s1).to s2).seq, List.getElem?_eq_getElem (by omega)⟩
  · exact ⟨xs, ((h.to s1).to s2).seq, by omega⟩
  · obtain ⟨rfl, y2⟩ := y
    have hx := y2 xs (((h.to s1).to s2).seq)
    obtain ⟨v, h1, h2⟩ := r.get hd
    rw [hx] at h1
    cases h1
    exact ⟨L', Ext.refl _ _ _, s2, h2.to s1⟩
theorem walkE_list {b : Option Addr} {L H : Hp} {a : Addr} {xs : List V} {ds : List PyData} (hb : b ≠ some a) (h : H a = some (.lst xs)) (r : DVs L xs ds) : WalkE false b L H (Itl K a) ds := by
  have hl := r.len
  refine ⟨fun i L' H' e s2 hi => ?_, fun L' H' e s2 => ?_, fun i d L' H' x H2 e s2 hd y => ?_⟩
  · exact ⟨xs, xs[i]'(by omega), SqL.of (e.hh _ _ h hb), List.getElem?_eq_getElem (by omega)⟩
  · exact ⟨xs, SqL.of (e.hh _ _ h hb), by omega⟩
  · obtain ⟨rfl, y2⟩ := y
    have hx := y2 xs (SqL.of (e.hh _ _ h hb))
    obtain ⟨v, h1, h2⟩ := r.get hd
    rw [hx] at h1
    cases h1
    exact ⟨L', Ext.refl _ _ _, s2, h2.to e.ll⟩
def dIter (f : DTE)  (ε : Env) (Q : List PyData → Bool → Env → Prop) : Prop := f ε fun r ε1 => match r.pub with
  | .sh (.list ds) => Q ds true ε1
  | .sh (.tuple ds) => Q ds true ε1
  | .br _ ds => Q ds false ε1
  | _ => False
theorem si_seq (hf : SE w ta f) : SI w false (iSeq K ta) (dIter f) := by
  constructor
  · intro ε A B h q
    refine hf.mono _ _ _ (fun r ε1 q => ?_) q
    split at q
    · exact h _ _ _ q
    · exact h _ _ _ q
    · exact h _ _ _ q
    · exact q.elim
  · intro Z O σ ε L H R X q
    refine hf.run Z O σ ε L H _ X (hf.mono _ _ _ (fun r ε1 q => ?_) q)
    intro v L1 H1 X1 e1 r1
    obtain ⟨L2, X2, e2, r2⟩ := publ X1 e1 r1
    split at q
    · rename_i ds hd
      rw [hd] at r2
      cases (show DV L2 v (.list ds) from r2) with
      | lst h1 h2 =>
        have W := walkS_list (K := K) h1 h2
        exact ⟨_, rfl, .inl ⟨⟨_, SqL.of (X2.lh _ _ h1)⟩, q _ L2 H1 X2 e2 W.e fun _ => W⟩⟩
    · rename_i ds hd
      rw [hd] at r2
      cases (show DV L2 v (.tuple ds) from r2) with
      | tup h1 h2 =>
        have W := walkS_tup (K := K) h1 h2
        exact ⟨_, rfl, .inr ⟨⟨_, (h1.to X2.lh).seq⟩, q _ L2 H1 X2 e2 W.e fun _ => W⟩⟩
    · rename_i i ds hd
      rw [hd] at r2
      obtain ⟨a, xs, rfl, h1, h2, h3, h4, h5, h6⟩ := r2
      exact ⟨a, rfl, .inl ⟨⟨_, SqL.of h5⟩, q _ L2 H1 X2 e2 (walkE_list (X2.nob h3) h5 h6) (fun z => nomatch z)⟩⟩
    · exact q.elim
/-- the ints from lo on, n of them -/
def rgD (lo : Int) (n : Nat) : List PyData := (List.range n).map fun i => .int (lo + (i : Nat))
theorem rgD_len (lo : Int) (n : Nat) : (rgD lo n).length = n := by unfold rgD; rw [List.length_map, List.length_range]
theorem rgD_get {lo : Int} {n i : Nat} {d : PyData} (h : (rgD lo n)[i]? = some d) : i < n ∧ d = .int (lo + (i : Nat)) := by
  have hi : i < n := by
    have := (List.getElem?_eq_some_iff.mp h).1
    rwa [rgD_len] at this
  unfold rgD at h
  rw [List.getElem?_map, List.getElem?_range hi] at h
  cases h
  exact ⟨hi, rfl⟩
theorem walkS_rg {L : Hp} {lo : Int} {n : Nat} : WalkS false L (Itr lo n) (rgD lo n) := by
  refine ⟨fun i L' H' s1 s2 hi => ?_, fun L' H' s1 s2 => ?_, fun i d L' H' x H2 s1 s2 hd y => ?_⟩
  · rw [rgD_len] at hi; exact hi
  · rw [rgD_len]; exact Nat.le_refl n
  · obtain ⟨rfl, rfl⟩ := y
    obtain ⟨_, rfl⟩ := rgD_get hd
    exact ⟨L', Ext.refl _ _ _, s2, .int _⟩
def dRng1 (f : DTA)  (ε : Env) (Q : List PyData → Bool → Env → Prop) : Prop := f ε fun rs ε1 => match rs with
  | [.sh (.int j)] => (-(2 ^ 62) ≤ j ∧ j < 2 ^ 62) ∧ Q (rgD 0 j.toNat) true ε1
  | _ => False
theorem si_rng1 {n : Nat} {t : TA} {f : DTA} (hf : SA w n t f) : SI w false (iRng1 t) (dRng1 f) := by
  constructor
  · intro ε A B h q
    refine hf.mono _ _ _ (fun r ε1 q => ?_) q
    split at q
    · exact ⟨q.1, h _ _ _ q.2⟩
    · exact q.elim
  · intro Z O σ ε L H R X q
    refine hf.run Z O σ ε L H _ X (hf.mono _ _ _ (fun r ε1 q => ?_) q)
    intro vs L1 H1 X1 e1 r1 hl np
    split at q
    · rename_i j
      cases r1 with
      | cons r1 r2 =>
        cases r2
        cases (show DV L1 _ (.int j) from r1)
        exact ⟨j, rfl, q.1.1, q.1.2, q.2 _ L1 H1 X1 e1 walkS_rg.e fun _ => walkS_rg⟩
    · exact q.elim
def dRng2 (f : DTA)  (ε : Env) (Q : List PyData → Bool → Env → Prop) : Prop := f ε fun rs ε1 => match rs with
  | [.sh (.int i), .sh (.int j)] => (-(2 ^ 62) ≤ i ∧ i < 2 ^ 62 ∧ -(2 ^ 62) ≤ j ∧ j < 2 ^ 62) ∧ Q (rgD i (j - i).toNat) true ε1
  | _ => False
theorem si_rng2 {n : Nat} {t : TA} {f : DTA} (hf : SA w n t f) : SI w false (iRng2 t) (dRng2 f) := by
  constructor
  · intro ε A B h q
    refine hf.mono _ _ _ (fun r ε1 q => ?_) q
    split at q
    · exact ⟨q.1, h _ _ _ q.2⟩
    · exact q.elim
  · intro Z O σ ε L H R X q
    refine hf.run Z O σ ε L H _ X (hf.mono _ _ _ (fun r ε1 q => ?_) q)
    intro vs L1 H1 X1 e1 r1 hl np
    split at q
    · rename_i i j
      cases r1 with
      | cons r1 r2 =>
        cases r2 with
        | cons r2 r3 =>
          cases r3
          cases (show DV L1 _ (.int i) from r1)
          cases (show DV L1 _ (.int j) from r2)
          exact ⟨i, j, rfl, q.1, q.2 _ L1 H1 X1 e1 walkS_rg.e fun _ => walkS_rg⟩
    · exact q.elim
end
abbrev DTG := PyData → Env → (Env → Prop) → Prop
/-- but for the slots js all is as it was -/
def But (js : List Nat) (σ σ' : L2.St) : Prop := σ'.length = σ.length ∧ ∀ i : Nat, i ∉ js → σ'[i]? = σ[i]?
structure SG (w : Wx) (pk : Bool) (js : List Nat) (g : TG) (γ : DTG) : Prop where
  mono : ∀ d ε (A B : Env → Prop), (∀ ε', A ε' → B ε') → γ d ε A → γ d ε B
  run : ∀ (Z : Zx) (O : Addr → Prop) (σ : L2.St) (ε : Env) (L H : Hp) (v : V) (d : PyData) (Q : L2.St → Hp → Prop), Rep w Z O L H σ ε → VI pk L H v d → γ d ε (fun ε' => ∀ σ', Rep w Z O L H σ' ε' → But js σ σ' → Q σ' H) → g v σ H Q
abbrev DTGs := List PyData → Env → (Env → Prop) → Prop
structure SGs (w : Wx) (js : List Nat) (g : TGs) (γ : DTGs) : Prop where
  mono : ∀ d ε (A B : Env → Prop), (∀ ε', A ε' → B ε') → γ d ε A → γ d ε B
  run : ∀ (Z : Zx) (O : Addr → Prop) (σ : L2.St) (ε : Env) (L H : Hp) (v : List V) (d : List PyData) (Q : L2.St → Hp → Prop), Rep w Z O L H σ ε → DVs L v d → γ d ε (fun ε' => ∀ σ', Rep w Z O L H σ' ε' → But js σ σ' → Q σ' H) → g v σ H Q
section
variable {w : Wx} {K : PySem.W.Frag}
def dName (i : Nat)  (d : PyData) (ε : Env) (Q : Env → Prop) : Prop := Q (ε.set i (.sh d))
theorem sg_name {i : Nat} : SG w false [i] (gName i) (dName i) := ⟨fun _ _ _ _ h q => h _ q, fun Z O σ ε L H v d Q X r q => q _ (X.sh r) ⟨List.length_set, fun j hj => by
  rw [List.getElem?_set, if_neg (fun e => hj (by rw [e]; exact List.mem_singleton.mpr rfl))]⟩⟩
def dGNil  (ds : List PyData) (ε : Env) (Q : Env → Prop) : Prop := match ds with
  | [] => Q ε
  | _ => False
def dGCons (γ : DTG) (γs : DTGs)  (ds : List PyData) (ε : Env) (Q : Env → Prop) : Prop := match ds with
  | d :: ds => γ d ε fun ε1 => γs ds ε1 Q
  | _ => False
theorem sgs_nil : SGs w [] gNil dGNil := by
  constructor
  · intro ds ε A B h q
    cases ds with
    | nil => exact h _ q
    | cons _ _ => exact q.elim
  · intro Z O σ ε L H v d Q X r q
    cases r with
    | nil => exact ⟨rfl, q _ X ⟨rfl, fun _ _ => rfl⟩⟩
    | cons _ _ => exact q.elim
theorem sgs_cons {g : TG} {gs : TGs} {γ : DTG} {γs : DTGs} {js ks : List Nat} (hg : SG w false js g γ) (hs : SGs w ks gs γs) : SGs w (js ++ ks) (gCons g gs) (dGCons γ γs) := by
  constructor
  · intro ds ε A B h q
    cases ds with
    | nil => exact q.elim
    | cons d ds => exact hg.mono _ _ _ _ (fun ε1 q => hs.mono _ _ _ _ h q) q
  · intro Z O σ ε L H v d Q X r q
    cases r with
    | nil => exact q.elim
    | cons r rr =>
      refine ⟨_, _, rfl, hg.run Z O σ ε L H _ _ _ X r (hg.mono _ _ _ _ (fun ε1 q σ1 X1 b1 => ?_) q)⟩
      refine hs.run Z O σ1 ε1 L H _ _ _ X1 rr (hs.mono _ _ _ _ (fun ε2 q σ2 X2 b2 => ?_) q)
      exact q σ2 X2 ⟨b2.1.trans b1.1, fun i hi => (b2.2 i fun h => hi (List.mem_append_right _ h)).trans (b1.2 i fun h => hi (List.mem_append_left _ h))⟩
def dGTup (n : Nat) (γs : DTGs)  (d : PyData) (ε : Env) (Q : Env → Prop) : Prop := match d with
  | .tuple ds => ds.length = n ∧ γs ds ε Q
  | _ => False
theorem sg_tup {pk : Bool} {n : Nat} {gs : TGs} {γs : DTGs} {js : List Nat} (hs : SGs w js gs γs) : SG w pk js (gTup K n gs) (dGTup n γs) := by
  constructor
  · intro d ε A B h q
    cases d with
    | tuple ds => exact ⟨q.1, hs.mono _ _ _ _ h q.2⟩
    | _ => exact q.elim
  · intro Z O σ ε L H v d Q X r q
    have solid : DV L v d → gTup K n gs v σ H Q := fun r => by
      cases r with
      | tup h1 h2 => exact ⟨_, _, rfl, (h1.to X.lh).seq, by rw [h2.len]; exact q.1, hs.run Z O σ ε L H _ _ _ X h2 q.2⟩
      | _ => exact q.elim
    cases pk with
    | false => exact solid r
    | true =>
      rcases r with r | ⟨a, xs, ds, rfl, rfl, h1, h2⟩
      · exact solid r
      · exact ⟨_, _, rfl, SqT.of h1, by rw [h2.len]; exact q.1, hs.run Z O σ ε L H _ _ _ X h2 q.2⟩
variable {ta : TE} {f : DTE}
def dAsg (f : DTE) (γ : DTG)  (Δ : DEnds) (ε : Env) : Prop := f ε fun r ε1 => match r.pub with
  | .sh d => γ d ε1 Δ.nx
  | _ => False
theorem ss_asg {g : TG} {γ : DTG} {js : List Nat} (hf : SE w ta f) (hg : SG w false js g γ) : SS w (tAsg ta g) (dAsg f γ) := by
  constructor
  · intro Δ Δ' ε l z
    refine hf.mono _ _ _ (fun r ε1 z => ?_) z
    split at z
    · exact hg.mono _ _ _ _ (fun ε z => l.nx ε z) z
    · exact z.elim
  · intro Z O σ ε L H D Δ X E z
    refine hf.run Z O σ ε L H _ X (hf.mono _ _ _ (fun r ε1 z => ?_) z)
    intro v L1 H1 X1 e1 r1
    obtain ⟨L2, X2, e2, r2⟩ := publ X1 e1 r1
    split at z
    · rename_i d hd
      rw [hd] at r2
      exact hg.run Z O σ ε1 L2 H1 v d _ X2 r2 (hg.mono _ _ _ _ (fun ε z σ' X' _ => E.nx _ _ _ _ _ X' z) z)
    · exact z.elim
def forD (γ : DTG) (p : DTS) (Δ : DEnds) : List PyData → Env → Prop
  | [], ε => Δ.nx ε
  | d :: ds, ε => γ d ε fun ε1 => p { nx := forD γ p Δ ds, rt := Δ.rt, bk := Δ.nx, ct := forD γ p Δ ds } ε1
def dFor (i : DTI) (γ : DTG) (p : DTS)  (Δ : DEnds) (ε : Env) : Prop := i ε fun ds fl ε1 => fl = true ∧ forD γ p Δ ds ε1
/-- what is known of the pinned view may be forgotten -/
theorem Rep.unpin {Z : Zx} {O : Addr → Prop} {σ : L2.St} {ε : Env} {L H P : Hp} (h : Same Z.P P) (ph : w.Φ Z) (x : Rep w { Z with P := P } O L H σ ε) : Rep w Z O L H σ ε :=
  ⟨x.lh, h.trans x.pn, x.ex, x.bo, x.oh, x.len, x.sl, x.di, ph⟩
theorem Rep.pin {Z : Zx} {O : Addr → Prop} {σ : L2.St} {ε : Env} {L H P : Hp} (h0 : Same Z.P P) (h : Same P L) (x : Rep w Z O L H σ ε) : Rep w { Z with P := P } O L H σ ε :=
  ⟨x.lh, h, x.ex, x.bo, x.oh, x.len, x.sl, x.di, w.up _ _ h0 x.ph⟩
theorem forD_mono {pk : Bool} {γ : DTG} {p : DTS} {t : TS} {g : TG} {js : List Nat} (hg : SG w pk js g γ) (hp : SS w t p) {Δ Δ' : DEnds} (l : DEnds.le Δ Δ') : ∀ (ds : List PyData) (ε : Env), forD γ p Δ ds ε → forD γ p Δ' ds ε
  | [], ε, z => l.nx ε z
  | d :: ds, ε, z => hg.mono _ _ _ _ (fun ε1 z => hp.mono { nx := forD γ p Δ ds, rt := Δ.rt, bk := Δ.nx, ct := forD γ p Δ ds } _ ε1 ⟨forD_mono hg hp l ds, l.rt, l.nx, forD_mono hg hp l ds⟩ z) z
theorem ss_for {pk : Bool} {wi : TI} {i : DTI} {g : TG} {γ : DTG} {t : TS} {p : DTS} {js : List Nat} (hi : SI w pk wi i) (hg : SG w pk js g γ) (hp : SS w t p) : SS w (tFor wi g t) (dFor i γ p) := by
  constructor
  · intro Δ Δ' ε l z
    exact hi.mono _ _ _ (fun ds b ε1 z => ⟨z.1, forD_mono hg hp l ds ε1 z.2⟩) z
  · intro Z O σ ε L H D Δ X E z
    refine hi.run Z O σ ε L H _ X (hi.mono _ _ _ (fun ds b ε1 z => ?_) z)
    intro J L1 H1 X1 e1 _ W
    obtain ⟨hb, z⟩ := z
    have W := W hb
    have sP := X1.pn
    refine ⟨fun i m σ H => i + m = ds.length ∧ ∃ O L ε, Rep w { Z with P := L1 } O L H σ ε ∧ forD γ p Δ (ds.drop i) ε, ⟨ds.length, by omega, O, L1, ε1, X1.pin X1.pn (Same.refl _), by rw [List.drop_zero]; exact z⟩, ?_⟩
    rintro i m σ2 H2 ⟨him, O2, L2, ε2, X2, z2⟩
    by_cases hlt : i < ds.length
    · refine .inr ⟨W.go i L2 H2 X2.pn X2.lh hlt, fun σ' H' => ∃ O L ε, Rep w { Z with P := L1 } O L H' σ' ε ∧ forD γ p Δ (ds.drop (i + 1)) ε, fun σ' H' q => ⟨m - 1, by omega, by omega, q⟩, fun x H' y => ?_⟩
      have hd : ds[i]? = some ds[i] := List.getElem?_eq_getElem hlt
      rw [List.drop_eq_getElem_cons hlt] at z2
      obtain ⟨L3, e3, s3, r3⟩ := W.yld i ds[i] L2 H2 x H' X2.pn X2.lh hd y
      have X3 := X2.step e3 s3
      refine hg.run _ O2 σ2 ε2 L3 H' x ds[i] _ X3 r3 (hg.mono _ _ _ _ (fun ε3 z3 σ3 X4 _ => ?_) z2)
      refine hp.run _ O2 σ3 ε3 L3 H' _ { nx := forD γ p Δ (ds.drop (i + 1)), rt := Δ.rt, bk := Δ.nx, ct := forD γ p Δ (ds.drop (i + 1)) } X4 ⟨fun O σ ε L H X z => ⟨O, L, ε, X, z⟩, fun O σ ε L H v r X q z => E.rt O σ ε L H v r (X.unpin sP X1.ph) q z, fun O σ ε L H X z => E.nx O σ ε L H (X.unpin sP X1.ph) z, fun O σ ε L H X z => ⟨O, L, ε, X, z⟩⟩ z3
    · have e : i = ds.length := by omega
      subst e
      rw [List.drop_length] at z2
      exact .inl ⟨W.stop L2 H2 X2.pn X2.lh, E.nx O2 σ2 ε2 L2 H2 (X2.unpin sP X1.ph) z2⟩
def whileN (c : DTT) (p : DTS) (Δ : DEnds) : Nat → Env → Prop
  | 0, _ => False
  | n + 1, ε => c ε fun b ε1 => if b = true then p { nx := whileN c p Δ n, rt := Δ.rt, bk := Δ.nx, ct := whileN c p Δ n } ε1 else Δ.nx ε1
def dWhile (c : DTT) (p : DTS)  (Δ : DEnds) (ε : Env) : Prop := ∃ n, whileN c p Δ n ε
theorem whileN_mono {c : DTT} {p : DTS} {tc : TT} {t : TS} (hc : ST w tc c) (hp : SS w t p) {Δ Δ' : DEnds} (l : DEnds.le Δ Δ') : ∀ (n : Nat) (ε : Env), whileN c p Δ n ε → whileN c p Δ' n ε
  | 0, ε, z => z
  | n + 1, ε, z => by
    refine hc.mono _ _ _ (fun b ε1 z => ?_) z
    cases b with
    | true => exact iteT (hp.mono { nx := whileN c p Δ n, rt := Δ.rt, bk := Δ.nx, ct := whileN c p Δ n } _ ε1 ⟨whileN_mono hc hp l n, l.rt, l.nx, whileN_mono hc hp l n⟩ (by rw [if_pos rfl] at z; exact z))
    | false => exact iteF (l.nx _ (by rw [if_neg Bool.false_ne_true] at z; exact z))
theorem ss_while {c : DTT} {p : DTS} {tc : TT} {t : TS} (hc : ST w tc c) (hp : SS w t p) : SS w (tWhile tc t) (dWhile c p) := by
  constructor
  · rintro Δ Δ' ε l ⟨n, z⟩
    exact ⟨n, whileN_mono hc hp l n ε z⟩
  · rintro Z O σ ε L H D Δ X E ⟨n, z⟩
    refine ⟨fun m σ H => ∃ O L ε, Rep w Z O L H σ ε ∧ whileN c p Δ m ε, ⟨n, O, L, ε, X, z⟩, ?_⟩
    rintro m σ1 H1 ⟨O1, L1, ε1, X1, z1⟩
    cases m with
    | zero => exact z1.elim
    | succ m =>
      refine hc.run Z O1 σ1 ε1 L1 H1 _ X1 (hc.mono _ _ _ (fun b ε2 z2 => ?_) z1)
      intro L2 H2 X2 e2
      cases b with
      | true =>
        rw [if_pos rfl] at z2
        refine iteT ⟨fun σ' H' => ∃ O L ε, Rep w Z O L H' σ' ε ∧ whileN c p Δ m ε, fun σ' H' q => ⟨m, Nat.lt_succ_self m, q⟩, ?_⟩
        exact hp.run Z O1 σ1 ε2 L2 H2 _ { nx := whileN c p Δ m, rt := Δ.rt, bk := Δ.nx, ct := whileN c p Δ m } X2 ⟨fun O σ ε L H X z => ⟨O, L, ε, X, z⟩, E.rt, E.nx, fun O σ ε L H X z => ⟨O, L, ε, X, z⟩⟩ z2
      | false =>
        rw [if_neg Bool.false_ne_true] at z2
        exact iteF (E.nx O1 σ1 ε2 L2 H2 X2 z2)
end
end Lp

namespace Lp
open PySem PySem.Spec PyProof.Rows L2
theorem Rep.exts {w : Wx} {Z : Zx} {O : Addr → Prop} {σ : L2.St} {ε : Env} {L H L' H' : Hp} {c : Nat} (x : Rep w Z O L H σ ε) (e : Ext Z.b L H L' H') (s : Same L' H') (hc : ∀ b, Z.b = some b → Box H' b c) : Rep w Z O L' H' σ ⟨ε.s, c⟩ := by
  refine ⟨s, x.pn.trans e.ll, x.ex.trans e, fun b hb => ?_, fun a h => ⟨e.dom a (x.oh a h).1, (x.oh a h).2⟩, x.len, fun i y hy => ?_, x.di, x.ph⟩
  · obtain ⟨h1, h2, h3⟩ := x.bo b hb
    exact ⟨e.fr b h1 h2.there, hc b hb, h3⟩
  · obtain ⟨o, h1, h2⟩ := x.sl i y hy
    refine ⟨o, h1, ?_⟩
    cases y with
    | un => trivial
    | sh d =>
      obtain ⟨v, e1, e2⟩ := h2
      exact ⟨v, e1, e2.to e.ll⟩
    | ow ds =>
      obtain ⟨a, xs, e1, e2, e3, e4, e5, e6⟩ := h2
      exact ⟨a, xs, e1, e2, e.fr a e3 (by rw [e5]; exact (fun z => nomatch z)), e4, e.hh _ _ e5 (x.nob e4), e6.to e.ll⟩
    | bx => exact h2
    | st S n =>
      obtain ⟨a, e1, e2, e3, e4, e5⟩ := h2
      exact ⟨a, e1, e2, e.fr a e3 (by rw [e5]; exact (fun z => nomatch z)), e4, e.hh _ _ e5 (x.nob e4)⟩
    | raw u => exact h2
    | exn x => obtain ⟨v, e1, e2⟩ := h2; exact ⟨v, e1, e2.to e.ll⟩
    | dco xs =>
      obtain ⟨a, e1, e2, e3, e4, ⟨ob, e5⟩, e6⟩ := h2
      exact ⟨a, e1, e2, e.fr a e3 (by rw [e5]; exact (fun z => nomatch z)), e4, ⟨ob, e.hh _ _ e5 (x.nob e4)⟩, e6.to e.ll⟩
    | sto M =>
      obtain ⟨a, A, e1, e2, e3, e4, e5, e6⟩ := h2
      exact ⟨a, A, e1, e2, e.fr a e3 (by rw [e5]; exact (fun z => nomatch z)), e4, e.hh _ _ e5 (x.nob e4), e6.to e.ll⟩
    | dsh xs => obtain ⟨v, e1, e2⟩ := h2; exact ⟨v, e1, e2.to e.ll⟩
    | gen g => obtain ⟨v, e1, e2⟩ := h2; exact ⟨v, e1, g.mono e.ll e2⟩
abbrev DSp := List SV → Nat → (R → Nat → Prop) → Prop
def MonF (F : DSp) : Prop := ∀ args c (A B : R → Nat → Prop), (∀ r c', A r c' → B r c') → F args c A → F args c B
def CallZ (b : Option Addr) (L H : Hp) (c : Nat) : Prop := Same L H ∧ ∀ a, b = some a → L a = none ∧ Box H a c
def ArgR (b : Option Addr) (L : Hp) (v : V) : SV → Prop
  | .sh d => DV L v d
  | .bx => ∃ a, b = some a ∧ v = .ref a
  | .raw u => v = u
  | .dsh xs => DVd L v xs
  | .gen g => g.ok L v
  | _ => False
inductive ArgsR (b : Option Addr) (L : Hp) : List V → List SV → Prop
  | nil : ArgsR b L [] []
  | cons {v : V} {vs : List V} {x : SV} {xs : List SV} : ArgR b L v x → ArgsR b L vs xs → ArgsR b L (v :: vs) (x :: xs)
def spD (n : Nat) (F : DSp) : Sp := fun vs H Q _ => ∃ (b : Option Addr) (L : Hp) (c : Nat) (args : List SV), vs.length = n ∧ CallZ b L H c ∧ ArgsR b L vs args ∧
  F args c fun r c' => ∀ v L' H', CallZ b L' H' c' → Ext b L H L' H' → VR0 H L' H' v r → Q v H'
def R.arg : R → Option SV
  | .sh d => some (.sh d)
  | .br _ ds => some (.sh (.list ds))
  | .bx => some .bx
  | .raw v => some (.raw v)
  | .dsh xs => some (.dsh xs)
  | .gen g => some (.gen g)
  | _ => none
def argsOf : List R → Option (List SV)
  | [] => some []
  | r :: rs => match r.arg, argsOf rs with
    | some x, some xs => some (x :: xs)
    | _, _ => none
def hasBr : List R → Bool
  | [] => false
  | .br _ _ :: _ => true
  | _ :: rs => hasBr rs
def immR : R → Bool
  | .sh d => imm d
  | .nw ds => imms ds
  | _ => false
def dArgs (F : DSp) (rs : List R) (ε : Env) (Q : R → Env → Prop) : Prop := match argsOf rs with
  | some args => F args ε.c fun r c => match hasBr rs with
    | true => immR r = true ∧ Q r ⟨ε.s, c⟩
    | false => Q r ⟨ε.s, c⟩
  | none => False
theorem dArgs_mono {F : DSp} (hF : MonF F) {rs : List R} {ε : Env} {A B : R → Env → Prop} (h : ∀ r ε, A r ε → B r ε) (q : dArgs F rs ε A) : dArgs F rs ε B := by
  unfold dArgs at q ⊢
  split at q
  · refine hF _ _ _ _ (fun r c q => ?_) q
    split at q
    · exact ⟨q.1, h _ _ q.2⟩
    · exact h _ _ q
  · exact q.elim
section
variable {w : Wx} {Z : Zx} {O : Addr → Prop} {σ : L2.St} {ε : Env} {L H Hs : Hp}
theorem args_plain : ∀ {vs : List V} {rs : List R} {args : List SV}, VRs w Z O σ Hs L H vs rs → argsOf rs = some args → hasBr rs = false → ArgsR Z.b L vs args
  | _, _, _, .nil, e, _ => by cases e; exact .nil
  | _, r :: rs, args, .cons a b, e, h => by
    unfold argsOf at e
    split at e
    · rename_i x xs hx hxs
      cases e
      have h2 : hasBr rs = false := by cases r <;> first | exact h | cases h
      refine .cons ?_ (args_plain b hxs h2)
      cases r with
      | sh d => cases hx; exact a
      | br i ds => cases h
      | bx => cases hx; exact a
      | raw u => cases hx; exact a
      | nw ds => cases hx
      | sr i S n => cases hx
      | exn y => cases hx
      | dnw xs => cases hx
      | dbr i xs => cases hx
      | srt i M => cases hx
      | dsh xs => cases hx; exact a
      | gen g => cases hx; exact a
    · cases e
/-- the lists that slots own and arguments lend -/
def lent (σ : L2.St) (rs : List R) (a : Addr) : Prop := ∃ i ds, R.br i ds ∈ rs ∧ σ[i]? = some (some (.ref a))
theorem args_lent {L2 : Hp} (s : Same L L2) : ∀ {vs : List V} {rs : List R} {args : List SV}, VRs w Z O σ Hs L H vs rs → argsOf rs = some args → (∀ a, lent σ rs a → L2 a = H a) → ArgsR Z.b L2 vs args
  | _, _, _, .nil, e, _ => by cases e; exact .nil
  | _, r :: rs, args, .cons x y, e, h => by
    unfold argsOf at e
    split at e
    · rename_i z zs hz hzs
      cases e
      refine .cons ?_ (args_lent s y hzs fun a ⟨i, ds, h1, h2⟩ => h a ⟨i, ds, List.mem_cons_of_mem _ h1, h2⟩)
      cases r with
      | sh d => cases hz; exact DV.to x s
      | br i ds =>
        cases hz
        obtain ⟨a, xs, rfl, h1, h2, h3, h4, h5, h6⟩ := x
        exact .lst (by rw [h a ⟨i, ds, List.mem_cons_self, h1⟩]; exact h5) (h6.to s)
      | bx => cases hz; exact x
      | raw u => cases hz; exact x
      | nw ds => cases hz
      | sr i S n => cases hz
      | exn y => cases hz
      | dnw xs => cases hz
      | dbr i xs => cases hz
      | srt i M => cases hz
      | dsh xs => cases hz; exact DVd.to s x
      | gen g => cases hz; exact g.mono s x
    · cases e
theorem lent_own : ∀ {vs : List V} {rs : List R} {a : Addr}, VRs w Z O σ Hs L H vs rs → lent σ rs a → O a ∧ Z.H0 a = none ∧ L a = none ∧ ∃ xs, H a = some (.lst xs)
  | _, _, _, .nil, h => by obtain ⟨i, ds, h1, _⟩ := h; cases h1
  | _, r :: rs, a, .cons x y, h => by
    obtain ⟨i, ds, h1, h2⟩ := h
    rcases List.mem_cons.mp h1 with rfl | h1
    · obtain ⟨b, xs, _, g1, g2, g3, g4, g5, g6⟩ := x
      rw [h2] at g1
      cases g1
      exact ⟨g2, g3, g4, xs, g5⟩
    · exact lent_own y ⟨i, ds, h1, h2⟩
open Classical in
theorem run_args {n : Nat} {F : DSp} (hF : MonF F) {vs : List V} {rs : List R} {Q : VK} {E : XK} {L0 H0 : Hp} (X : Rep w Z O L H σ ε) (e : Ext Z.b L0 H0 L H) (r : VRs w Z O σ Hs L H vs rs) (hn : vs.length = n)
    (q : dArgs F rs ε fun r ε' => ∀ v L' H', Rep w Z O L' H' σ ε' → Ext Z.b L0 H0 L' H' → VR w Z O σ H0 L' H' v r → Q v H') : spD n F vs H Q E := by
  unfold dArgs at q
  split at q
  · rename_i args ha
    have cz : ∀ b, Z.b = some b → L b = none ∧ Box H b ε.c := fun b hb => ⟨(X.bo b hb).1, (X.bo b hb).2.1⟩
    cases hb : hasBr rs with
    | false =>
      rw [hb] at q
      refine ⟨Z.b, L, ε.c, args, hn, ⟨X.lh, cz⟩, args_plain r ha hb, hF _ _ _ _ (fun r c q => ?_) q⟩
      intro v L' H' z' e' r'
      exact q v L' H' (X.exts e' z'.1 fun b hb => (z'.2 b hb).2) (e.trans e') ((r'.vr X).back e)
    | true =>
      rw [hb] at q
      let L2 : Hp := fun a => if lent σ rs a then H a else L a
      have h1 : ∀ a, lent σ rs a → L2 a = H a := fun a h => if_pos h
      have h0 : ∀ a, ¬ lent σ rs a → L2 a = L a := fun a h => if_neg h
      have s1 : Same L L2 := fun a o h => by
        by_cases q : lent σ rs a
        · rw [h1 a q]; exact X.lh a o h
        · rw [h0 a q]; exact h
      have s2 : Same L2 H := fun a o h => by
        by_cases q : lent σ rs a
        · rw [h1 a q] at h; exact h
        · rw [h0 a q] at h; exact X.lh a o h
      refine ⟨Z.b, L2, ε.c, args, hn, ⟨s2, fun b hb => ⟨?_, (cz b hb).2⟩⟩, args_lent s1 r ha h1, hF _ _ _ _ (fun u c q => ?_) q⟩
      · rw [h0 b fun h => (X.bo b hb).2.2 (lent_own r h).2.1]; exact (cz b hb).1
      intro v L' H' z' e' r'
      obtain ⟨hi, q⟩ := q
      let L3 : Hp := fun a => if lent σ rs a then none else L' a
      have k1 : ∀ a, lent σ rs a → L3 a = none := fun a h => if_pos h
      have k0 : ∀ a, ¬ lent σ rs a → L3 a = L' a := fun a h => if_neg h
      have s3 : Same L3 H' := fun a o h => by
        by_cases q : lent σ rs a
        · rw [k1 a q] at h; cases h
        · rw [k0 a q] at h; exact z'.1 a o h
      have e3 : Ext Z.b L H L3 H' := by
        refine ⟨fun a o h => ?_, e'.hh, e'.dom, fun a h d => ?_⟩
        · by_cases q : lent σ rs a
          · rw [(lent_own r q).2.2.1] at h; cases h
          · rw [k0 a q]; exact e'.ll a o (s1 a o h)
        · by_cases q : lent σ rs a
          · exact k1 a q
          · rw [k0 a q]; exact e'.fr a (by rw [h0 a q]; exact h) d
      have tups : ∀ a xs, Sol L' a xs → Sol L3 a xs := fun a xs ⟨o, ho, h⟩ => by
        by_cases q : lent σ rs a
        · obtain ⟨_, _, _, ys, hy⟩ := lent_own r q
          have := e'.ll a _ (by rw [h1 a q]; exact hy)
          rw [this] at h; cases h
        · exact ⟨o, ho, by rw [k0 a q]; exact h⟩
      have r3 : VR0 H L3 H' v u := by
        cases u with
        | sh d => exact DV.imm tups d v hi r'
        | nw ds =>
          obtain ⟨a, xs, rfl, g1, g2, g3, g4⟩ := r'
          refine ⟨a, xs, rfl, g1, ?_, g3, DVs.imm tups ds xs hi g4⟩
          by_cases q : lent σ rs a
          · exact k1 a q
          · rw [k0 a q]; exact g2
        | dnw xs => cases hi
        | dsh xs => cases hi
        | gen g => cases hi
        | _ => exact r'.elim
      exact q v L3 H' (X.exts e3 s3 fun b hb => (z'.2 b hb).2) (e.trans e3) ((r3.vr X).back e)
  · exact q.elim
end
section
variable {w : Wx} {K : PySem.W.Frag} {ta te : TE} {f : DTE}
def dCall (F : DSp) (f : DTA)  (ε : Env) (Q : R → Env → Prop) : Prop := f ε fun rs ε1 => dArgs F rs ε1 Q
theorem se_call {n : Nat} {F : DSp} {t : TA} {f : DTA} {E : XK} (hF : MonF F) (hf : SA w n t f) : SE w (tCall (spD n F) [] E t) (dCall F f) := by
  constructor
  · intro ε A B h q
    exact hf.mono _ _ _ (fun rs ε1 q => dArgs_mono hF h q) q
  · intro Z O σ ε L H Q X q
    refine hf.run Z O σ ε L H _ X (hf.mono _ _ _ (fun rs ε1 q => ?_) q)
    intro vs L1 H1 X1 e1 r1 hl np
    rw [List.append_nil]
    exact run_args hF X1 e1 r1 (by rw [r1.len, hl]) q
def dCallR (F : DSp) (f : DTA)  (ε : Env) (Q : R → Env → Prop) : Prop := f ε fun rs ε1 => dArgs F rs.reverse ε1 Q
theorem VRs.snoc {Z : Zx} {O : Addr → Prop} {σ : L2.St} {Hs L H : Hp} {v : V} {r : R} (x : VR w Z O σ Hs L H v r) : ∀ {vs : List V} {rs : List R}, VRs w Z O σ Hs L H vs rs → VRs w Z O σ Hs L H (vs ++ [v]) (rs ++ [r])
  | _, _, .nil => .cons x .nil
  | _, _, .cons a b => .cons a (VRs.snoc x b)
def wipeE (ε : Env) : List Nat → List SV
  | [] => ε.s
  | v :: vs => (wipeE ε vs).set v .un
theorem wipe_get (σ : L2.St) (i : Nat) : ∀ vs : List Nat, (wipe σ vs)[i]? = if i ∈ vs then (if i < σ.length then some none else none) else σ[i]?
  | [] => by rw [if_neg List.not_mem_nil]; rfl
  | v :: vs => by
    unfold wipe
    rw [List.getElem?_set, wipe_length, wipe_get σ i vs]
    by_cases e : v = i
    · subst e
      rw [if_pos rfl, if_pos List.mem_cons_self]
    · rw [if_neg e]
      by_cases m : i ∈ vs
      · rw [if_pos m, if_pos (List.mem_cons_of_mem _ m)]
      · rw [if_neg m, if_neg (fun h => (List.mem_cons.mp h).elim (fun q => e q.symm) m)]
theorem wipe_but {σ σ' : L2.St} {vs : List Nat} (h : But vs (wipe σ vs) σ') : wipe σ' vs = wipe σ vs := by
  have hl : σ'.length = σ.length := by rw [h.1, wipe_length]
  refine List.ext_getElem? fun i => ?_
  rw [wipe_get, wipe_get]
  by_cases m : i ∈ vs
  · rw [if_pos m, if_pos m, hl]
  · rw [if_neg m, if_neg m, h.2 i m, wipe_get, if_neg m]
theorem wipeE_len (ε : Env) : ∀ vs : List Nat, (wipeE ε vs).length = ε.s.length
  | [] => rfl
  | v :: vs => by unfold wipeE; rw [List.length_set, wipeE_len ε vs]
theorem wipeE_get (ε : Env) (i : Nat) : ∀ (vs : List Nat) (x : SV), (wipeE ε vs)[i]? = some x → (i ∈ vs ∧ x = .un) ∨ (i ∉ vs ∧ ε.s[i]? = some x)
  | [], x, h => .inr ⟨List.not_mem_nil, h⟩
  | v :: vs, x, h => by
    unfold wipeE at h
    rcases get_set h with ⟨rfl, rfl, _⟩ | ⟨ne, h⟩
    · exact .inl ⟨List.mem_cons_self, rfl⟩
    · rcases wipeE_get ε i vs x h with ⟨m, e⟩ | ⟨m, e⟩
      · exact .inl ⟨List.mem_cons_of_mem _ m, e⟩
      · exact .inr ⟨fun q => (List.mem_cons.mp q).elim (fun z => ne z.symm) m, e⟩
theorem Rep.wipe {Z : Zx} {O : Addr → Prop} {σ : L2.St} {ε : Env} {L H : Hp} (x : Rep w Z O L H σ ε) (vs : List Nat) : Rep w Z O L H (L2.wipe σ vs) ⟨wipeE ε vs, ε.c⟩ := by
  refine ⟨x.lh, x.pn, x.ex, x.bo, x.oh, ?_, fun i y hy => ?_, fun i j y z a hij hy hz oy oz hi hj => ?_, x.ph⟩
  · show (L2.wipe σ vs).length = (wipeE ε vs).length
    rw [wipe_length, wipeE_len]; exact x.len
  · have hl : i < σ.length := by
      have := (List.getElem?_eq_some_iff.mp hy).1
      rw [wipeE_len] at this
      rw [x.len]; exact this
    rcases wipeE_get ε i vs y hy with ⟨m, rfl⟩ | ⟨m, e⟩
    · exact ⟨none, by rw [wipe_get, if_pos m, if_pos hl], trivial⟩
    · obtain ⟨o, h1, h2⟩ := x.sl i y e
      exact ⟨o, by rw [wipe_get, if_neg m]; exact h1, h2⟩
  · rcases wipeE_get ε i vs y hy with ⟨m, rfl⟩ | ⟨m, e⟩
    · cases oy
    · rcases wipeE_get ε j vs z hz with ⟨m', rfl⟩ | ⟨m', e'⟩
      · cases oz
      · rw [wipe_get, if_neg m] at hi
        rw [wipe_get, if_neg m'] at hj
        exact x.di i j y z a hij e e' oy oz hi hj
def lcD (γ : DTG) (c : DTT) (f : DTE) (vs : List Nat) (s : List SV) (Q : R → Env → Prop) : List PyData → List PyData → Nat → Prop
  | [], acc, n => Q (.nw acc) ⟨s, n⟩
  | d :: ds, acc, n => γ d ⟨wipeE ⟨s, n⟩ vs, n⟩ fun ε1 => c ε1 fun b ε2 => if b = true then f ε2 fun r ε3 => match r.pub with
      | .sh e => acc.length < sizeLine ∧ lcD γ c f vs s Q ds (acc ++ [e]) ε3.c
      | _ => False
    else lcD γ c f vs s Q ds acc ε2.c
def dLc (i : DTI) (γ : DTG) (c : DTT) (f : DTE) (vs : List Nat)  (ε : Env) (Q : R → Env → Prop) : Prop := i ε fun ds _ ε1 => lcD γ c f vs ε1.s Q ds [] ε1.c
theorem lcD_mono {pk : Bool} {g : TG} {γ : DTG} {tt : TT} {c : DTT} {js vs : List Nat} {s : List SV} {A B : R → Env → Prop} (hg : SG w pk js g γ) (hc : ST w tt c) (hf : SE w te f) (h : ∀ r ε, A r ε → B r ε) : ∀ (ds acc : List PyData) (n : Nat), lcD γ c f vs s A ds acc n → lcD γ c f vs s B ds acc n
  | [], acc, n, z => h _ _ z
  | d :: ds, acc, n, z => by
    refine hg.mono _ _ _ _ (fun ε1 z => hc.mono _ _ _ (fun b ε2 z => ?_) z) z
    cases b with
    | true =>
      rw [if_pos rfl] at z ⊢
      refine hf.mono _ _ _ (fun r ε3 z => ?_) z
      split at z
      · exact ⟨z.1, lcD_mono hg hc hf h ds _ _ z.2⟩
      · exact z.elim
    | false =>
      rw [if_neg Bool.false_ne_true] at z ⊢
      exact lcD_mono hg hc hf h ds _ _ z
theorem se_lc {pk : Bool} {wi : TI} {i : DTI} {g : TG} {γ : DTG} {tt : TT} {c : DTT} {vs : List Nat} (hi : SI w pk wi i) (hg : SG w pk vs g γ) (hc : ST w tt c) (hf : SE w te f) : SE w (tLc wi g tt te vs) (dLc i γ c f vs) := by
  constructor
  · intro ε A B h z
    exact hi.mono _ _ _ (fun ds b ε1 z => lcD_mono hg hc hf h ds [] _ z) z
  · intro Z O σ ε L H Q X z
    refine hi.run Z O σ ε L H _ X (hi.mono _ _ _ (fun ds b ε1 z => ?_) z)
    intro J L1 H1 X1 e1 W _ D nD
    have eD : Ext none L1 H1 L1 (upd H1 D (.lst [])) := Ext.own nD
    have X1' := X1.step eD (same_own X1.lh (X1.lh.free nD))
    have n0 : Z.H0 D = none := X1.ex.free nD
    have nO : ¬ O D := fun o => (X1.oh D o).1 nD
    have bD : Z.b ≠ some D := X1.nob n0
    refine ⟨fun k m H2 => k + m = ds.length ∧ ∃ L2 n acc xs, Rep w Z O L2 H2 σ ⟨ε1.s, n⟩ ∧ Ext Z.b L1 H1 L2 H2 ∧ H2 D = some (.lst xs) ∧ DVs L2 xs acc ∧ L2 D = none ∧ lcD γ c f vs ε1.s (fun r ε' => ∀ v L' H', Rep w Z O L' H' σ ε' → Ext Z.b L H L' H' → VR w Z O σ H L' H' v r → Q v H') (ds.drop k) acc n,
      ⟨ds.length, by omega, L1, ε1.c, [], [], X1', eD.any, upd_same, .nil, X1.lh.free nD, by rw [List.drop_zero]; exact z⟩, ?_⟩
    rintro k m H2 ⟨hkm, L2, n, acc, xs, X2, e2, hD, rD, lD, z2⟩
    have e2' := e2
    by_cases hlt : k < ds.length
    · refine .inr ⟨W.go k L2 H2 e2' X2.lh hlt, fun H' => ∃ L2 n acc xs, Rep w Z O L2 H' σ ⟨ε1.s, n⟩ ∧ Ext Z.b L1 H1 L2 H' ∧ H' D = some (.lst xs) ∧ DVs L2 xs acc ∧ L2 D = none ∧ lcD γ c f vs ε1.s (fun r ε' => ∀ v L' H', Rep w Z O L' H' σ ε' → Ext Z.b L H L' H' → VR w Z O σ H L' H' v r → Q v H') (ds.drop (k + 1)) acc n,
        fun H' q => ⟨m - 1, by omega, by omega, q⟩, fun x H' y => ?_⟩
      have hd : ds[k]? = some ds[k] := List.getElem?_eq_getElem hlt
      rw [List.drop_eq_getElem_cons hlt] at z2
      obtain ⟨L3, e3, s3, r3⟩ := W.yld k ds[k] L2 H2 x H' e2' X2.lh hd y
      have X3 := X2.step e3 s3
      have hD3 := e3.hh D _ hD (fun z => nomatch z)
      have lD3 : L3 D = none := e3.fr D lD (by rw [hD]; exact (fun z => nomatch z))
      refine hg.run Z O _ _ L3 H' x ds[k] _ (X3.wipe vs) r3 (hg.mono _ _ _ _ (fun ε3 z3 σ3 X4 b3 => ⟨wipe_but b3, ?_⟩) z2)
      refine hc.run Z O σ3 ε3 L3 H' _ X4 (hc.mono _ _ _ (fun b ε4 z4 => ?_) z3)
      intro L5 H5 X5 e5
      have hD5 := e5.hh D _ hD3 bD
      have lD5 : L5 D = none := e5.fr D lD3 (by rw [hD3]; exact (fun z => nomatch z))
      have e35 := (e3.any (b := Z.b)).trans e5
      cases b with
      | true =>
        rw [if_pos rfl] at z4 ⊢
        refine hf.run Z O σ3 ε4 L5 H5 _ X5 (hf.mono _ _ _ (fun r ε6 z6 => ?_) z4)
        intro v L6 H6 X6 e6 r6
        split at z6
        · rename_i d' hd'
          obtain ⟨L7, X7, e7, r7⟩ := publ X6 e6 r6
          rw [hd'] at r7
          have hD6 := e7.hh D _ hD5 bD
          have lD7 : L7 D = none := e7.fr D lD5 (by rw [hD5]; exact (fun z => nomatch z))
          have et := e35.trans e7
          have rD7 : DVs L7 xs acc := rD.to et.ll
          have X8 : Rep w Z O L7 H6 σ ⟨ε1.s, ε6.c⟩ := X2.exts et X7.lh fun b hb => (X7.bo b hb).2.1
          refine ⟨xs, hD6, by rw [rD7.len]; exact z6.1, L7, ε6.c, acc ++ [d'], xs ++ [v], ?_, ?_, upd_same, rD7.app (.one r7), lD7, z6.2⟩
          · refine ⟨same_own X8.lh lD7, X8.pn, ⟨X8.ex.ll, fun a o h nb => ?_, fun a h => ?_, X8.ex.fr⟩, fun b hb => ?_, fun a h => ⟨?_, (X8.oh a h).2⟩, X8.len, fun i y hy => ?_, X8.di, X8.ph⟩
            · rw [upd_ne (ne_of_none h n0)]; exact X8.ex.hh a o h nb
            · by_cases q : a = D
              · rw [q, upd_same]; exact (fun z => nomatch z)
              · rw [upd_ne q]; exact X8.ex.dom a h
            · obtain ⟨q1, q2, q3⟩ := X8.bo b hb
              exact ⟨q1, q2.keep (upd_ne (ne_at q3 n0)), q3⟩
            · rw [upd_ne (fun q => nO (by rw [← q]; exact h))]; exact (X8.oh a h).1
            · obtain ⟨o, q1, q2⟩ := X8.sl i y hy
              refine ⟨o, q1, ?_⟩
              cases y with
              | ow ds =>
                obtain ⟨a, ys, g1, g2, g3, g4, g5, g6⟩ := q2
                exact ⟨a, ys, g1, g2, g3, g4, by rw [upd_ne (fun q => nO (by rw [← q]; exact g2))]; exact g5, g6⟩
              | st S n =>
                obtain ⟨a, g1, g2, g3, g4, g5⟩ := q2
                exact ⟨a, g1, g2, g3, g4, by rw [upd_ne (fun q => nO (by rw [← q]; exact g2))]; exact g5⟩
              | dco xs =>
                obtain ⟨a, g1, g2, g3, g4, ⟨ob, g5⟩, g6⟩ := q2
                exact ⟨a, g1, g2, g3, g4, ⟨ob, by rw [upd_ne (fun q => nO (by rw [← q]; exact g2))]; exact g5⟩, g6⟩
              | sto M =>
                obtain ⟨a, A, g1, g2, g3, g4, g5, g6⟩ := q2
                exact ⟨a, A, g1, g2, g3, g4, by rw [upd_ne (fun q => nO (by rw [← q]; exact g2))]; exact g5, g6⟩
              | _ => exact q2
          · have e27 := e2.trans et
            refine ⟨e27.ll, fun a o h nb => ?_, fun a h => ?_, e27.fr⟩
            · rw [upd_ne (ne_of_none h nD)]; exact e27.hh a o h nb
            · by_cases q : a = D
              · rw [q, upd_same]; exact (fun z => nomatch z)
              · rw [upd_ne q]; exact e27.dom a h
        · exact z6.elim
      | false =>
        rw [if_neg Bool.false_ne_true] at z4 ⊢
        have X8 : Rep w Z O L5 H5 σ ⟨ε1.s, ε4.c⟩ := X2.exts e35 X5.lh fun b hb => (X5.bo b hb).2.1
        exact ⟨L5, ε4.c, acc, xs, X8, e2.trans e35, hD5, rD.to e35.ll, lD5, z4⟩
    · have e : k = ds.length := by omega
      subst e
      rw [List.drop_length] at z2
      refine .inl ⟨W.stop L2 H2 e2' X2.lh, z2 _ L2 H2 X2 (e1.trans e2') ⟨D, xs, rfl, e1.free nD, nO, n0, lD, hD, rD⟩⟩
def env0 (args : List SV) (k : Nat) (c : Nat) : Env := ⟨args ++ List.replicate k .un, c⟩
def defF (k : Nat) (p : DTS) (args : List SV) (c : Nat) (Q : R → Nat → Prop) : Prop := p { nx := fun ε => Q (.sh .none) ε.c, rt := fun r ε => Q r ε.c } (env0 args k c)
theorem ArgsR.len {b : Option Addr} {L : Hp} : ∀ {vs : List V} {xs : List SV}, ArgsR b L vs xs → vs.length = xs.length
  | _, _, .nil => rfl
  | _, _, .cons _ r => by rw [List.length_cons, List.length_cons, r.len]
theorem ArgsR.get {b : Option Addr} {L : Hp} : ∀ {vs : List V} {xs : List SV} {i : Nat} {x : SV}, ArgsR b L vs xs → xs[i]? = some x → ∃ v, vs[i]? = some v ∧ ArgR b L v x
  | _, _, _, _, .nil, e => by simp at e
  | _, _, 0, _, .cons a _, e => by simp at e; subst e; exact ⟨_, rfl, a⟩
  | _, _, i + 1, x, .cons _ r, e => by
    obtain ⟨v, h1, h2⟩ := ArgsR.get (i := i) (x := x) r (by simpa using e)
    exact ⟨v, by simpa using h1, h2⟩
theorem rep_start {N : List Str} {b : Option Addr} {L H : Hp} {c k : Nat} {vs : List V} {args : List SV} (z : CallZ b L H c) (a : ArgsR b L vs args) (hk : N.length = vs.length + k) (ph : w.Φ ⟨b, L, H, fun _ => none⟩) : Rep w ⟨b, L, H, fun _ => none⟩ (fun _ => False) L H (start N vs) (env0 args k c) := by
  have hl := a.len
  have un : ∀ (i : Nat) (x : SV), (env0 args k c).s[i]? = some x → (∃ v, vs[i]? = some v ∧ ArgR b L v x) ∨ (vs.length ≤ i ∧ x = .un) := by
    intro i x hx
    have hx : (args ++ List.replicate k SV.un)[i]? = some x := hx
    by_cases hi : i < args.length
    · rw [List.getElem?_append_left hi] at hx
      exact .inl (a.get hx)
    · rw [List.getElem?_append_right (by omega)] at hx
      have := List.mem_of_getElem? hx
      exact .inr ⟨by omega, List.eq_of_mem_replicate this⟩
  have nown : ∀ (i : Nat) (x : SV), (env0 args k c).s[i]? = some x → Own x = true → False := by
    intro i x hx ho
    rcases un i x hx with ⟨v, _, r⟩ | ⟨_, rfl⟩
    · cases x with
      | ow ds => exact r
      | st S n => exact r
      | dco xs => exact r
      | sto M => exact r
      | _ => cases ho
    · cases ho
  refine ⟨z.1, (fun _ _ h => nomatch h), Ext.refl _ _ _, fun d hd => ⟨(z.2 d hd).1, (z.2 d hd).2, (z.2 d hd).2.there⟩, fun _ h => h.elim, ?_, fun i x hx => ?_, fun i j x y d _ hx _ ox => (nown i x hx ox).elim, ph⟩
  · show (start N vs).length = (args ++ List.replicate k SV.un).length
    unfold L2.start
    rw [List.length_append, List.length_map, List.length_replicate, List.length_append, List.length_replicate]
    omega
  · have hi : i < vs.length + k := by
      have := (List.getElem?_eq_some_iff.mp hx).1
      have e : (env0 args k c).s.length = args.length + k := by
        show (args ++ List.replicate k SV.un).length = _
        rw [List.length_append, List.length_replicate]
      omega
    rcases un i x hx with ⟨v, h1, r⟩ | ⟨h1, rfl⟩
    · have hv : i < vs.length := (List.getElem?_eq_some_iff.mp h1).1
      refine ⟨some v, ?_, ?_⟩
      · unfold L2.start
        rw [List.getElem?_append_left (by rw [List.length_map]; exact hv), List.getElem?_map, h1]; rfl
      · cases x with
        | sh d => exact ⟨v, rfl, r⟩
        | bx =>
          obtain ⟨d, h2, rfl⟩ := r
          exact ⟨d, h2, rfl⟩
        | raw u =>
          cases (show v = u from r)
          rfl
        | dsh xs => exact ⟨v, rfl, r⟩
        | gen g => exact ⟨v, rfl, r⟩
        | _ => exact r.elim
    · refine ⟨none, ?_, trivial⟩
      unfold L2.start
      rw [List.getElem?_append_right (by rw [List.length_map]; exact h1), List.getElem?_replicate, if_pos (by rw [List.length_map]; omega)]
end
section
variable {P : Program} {w : World} {K : PySem.W.Frag} {mg : Str → Option Value} {base : Heap}
theorem run_def {N ps : List Str} {t : TS} {p : DTS} {k : Nat} (hp : SS (W0 w) t p) (hk : N.length = ps.length + k) {vs : List V} {H : Hp} {Q : VK} {E : XK} (h : spD ps.length (defF k p) vs H Q E) : t { nx := fun _ H' => Q .non H', rt := Q } (start N vs) H := by
  obtain ⟨b, L, c, args, hn, z, a, q⟩ := h
  refine hp.run _ _ _ _ L H _ _ (rep_start (w := W0 w) z a (by omega) trivial) ?_ q
  refine ⟨fun O σ ε L' H' X q => ?_, fun O σ ε L' H' v r X hr q => ?_, fun O σ ε L' H' X q => q.elim, fun O σ ε L' H' X q => q.elim⟩
  · exact q .non L' H' ⟨X.lh, fun a ha => ⟨(X.bo a ha).1, (X.bo a ha).2.1⟩⟩ X.ex DV.non
  · exact q v L' H' ⟨X.lh, fun a ha => ⟨(X.bo a ha).1, (X.bo a ha).2.1⟩⟩ X.ex hr
theorem spD_len {n : Nat} {F : DSp} {vs : List V} {H : Hp} {Q : VK} {E : XK} (h : spD n F vs H Q E) : vs.length = n := by
  obtain ⟨b, L, c, args, hn, _⟩ := h
  exact hn
theorem spD_imp {n : Nat} {F G : DSp} (h : ∀ args c Q, F args c Q → G args c Q) {vs : List V} {H : Hp} {Q : VK} {E : XK} (x : spD n F vs H Q E) : spD n G vs H Q E := by
  obtain ⟨b, L, c, args, hn, z, a, q⟩ := x
  exact ⟨b, L, c, args, hn, z, a, h _ _ _ q⟩
/-- a def by its data -/
theorem okD {x qual : Str} {st : Stmt} {f : Addr} {fd : FuncData} {N ps : List Str} {k j : Nat} {p : DTS} {F : DSp} (G : Fun K x qual st f fd) (S : FnScope N ps (defScope st)) (hj : N.length = ps.length + j)
    (body : ∀ (cdv : Value) (A : Around) (outer : List PySem.Env) (s : Shared) (H : Hp) (E : XK), Room k (A.deeper (envOfC qual (defScope st) s.heap.objs.size f cdv)) → ∃ t, PSs (cxOf CX0 P w K mg base N qual (defScope st) f cdv A outer s H E).nox (defBody st) t ∧ SS (W0 w) t p)
    (h : ∀ args c Q, F args c Q → defF j p args c Q) : FnOk P w K mg base CX0 (k + 1) f fd ps (spD ps.length F) := by
  refine G.ok S (fun vs H Q E h => spD_len h) fun cdv A outer s H vs Q E hr q => ?_
  obtain ⟨t, ht, hs⟩ := body cdv A outer s H E hr
  exact ⟨t, ht, run_def hs hj (spD_imp h q)⟩
end
end Lp

namespace Lp
open PySem PySem.Spec PyProof.Rows L2
theorem op_or {X : Cx} {f : Value → Value → Sem Value} {r r' : R2} (h : OpR X f r) (h' : OpR X f r') : OpR X f (fun x y H Q => r x y H Q ∨ r' x y H Q) :=
  fun pins s σ H x y v u Q I rx ry q => q.elim (h pins s σ H x y v u Q I rx ry) (h' pins s σ H x y v u Q I rx ry)
theorem cr_or {X : Cx} {f : Value} {r r' : List V → Hp → VK → Prop} (h : CallR X f r) (h' : CallR X f r') : CallR X f (fun x H Q => r x H Q ∨ r' x H Q) :=
  fun pins s σ H xs us Q I rx q => q.elim (h pins s σ H xs us Q I rx) (h' pins s σ H xs us Q I rx)
theorem sl_or {X : Cx} {r r' : V → Option Int → Option Int → Hp → VK → Prop} (h : SlR X r) (h' : SlR X r') : SlR X (fun x l u H Q => r x l u H Q ∨ r' x l u H Q) := by
  intro pins s σ H x v vl vu lo hi sl Q I rx hs pl pu q
  rcases q with q | q
  · exact h pins s σ H x v vl vu lo hi sl Q I rx hs pl pu q
  · exact h' pins s σ H x v vl vu lo hi sl Q I rx hs pl pu q
/-- ints in, an int out -/
def φI (h : Int → Int → Int)  (x y : PyData) (Q : R → Prop) : Prop := match x, y with
  | .int i, .int j => Q (.sh (.int (h i j)))
  | _, _ => False
def φB (h : Int → Int → Bool)  (x y : PyData) (Q : R → Prop) : Prop := match x, y with
  | .int i, .int j => Q (.sh (.bool (h i j)))
  | _, _ => False
def φC (C : Int → Int → Prop) (h : Int → Int → Int)  (x y : PyData) (Q : R → Prop) : Prop := match x, y with
  | .int i, .int j => C i j ∧ Q (.sh (.int (h i j)))
  | _, _ => False
theorem r2_I {h : Int → Int → Int} : R2K (rI0 fun i j => .int (h i j)) (φI h) := by
  constructor
  · intro x y A B hAB q
    unfold φI at q ⊢
    split at q
    · exact hAB _ q
    · exact q.elim
  · intro L H x y dx dy Q s hx hy q
    unfold φI at q
    split at q
    · exact ⟨_, _, hx.int, hy.int, q _ L H (Ext.refl _ _ _) s (.int _)⟩
    · exact q.elim
theorem r2_B {h : Int → Int → Bool} : R2K (rI0 fun i j => .bl (h i j)) (φB h) := by
  constructor
  · intro x y A B hAB q
    unfold φB at q ⊢
    split at q
    · exact hAB _ q
    · exact q.elim
  · intro L H x y dx dy Q s hx hy q
    unfold φB at q
    split at q
    · exact ⟨_, _, hx.int, hy.int, q _ L H (Ext.refl _ _ _) s (.bl _)⟩
    · exact q.elim
def φNeg (x : PyData) (Q : R → Prop) : Prop := match x with
  | .int i => Q (.sh (.int (-i)))
  | _ => False
theorem ru_neg : RUK (rU fun i => .int (-i)) φNeg := by
  constructor
  · intro x A B hAB q
    cases x <;> first | exact hAB _ q | exact q.elim
  · intro L H x dx Q s hx q
    cases dx <;> first | exact ⟨_, hx.int, q _ L H (Ext.refl _ _ _) s (.int _)⟩ | exact q.elim
abbrev rAdd (K : PySem.W.Frag) : R2 := fun x y H Q => rI0 (fun i j => .int (i + j)) x y H Q ∨ (rCat x y H Q ∨ rCatS K x y H Q)
theorem op_addA {X : Cx} : OpR X (binaryOp .Add) (rAdd X.K) := op_or op_add (op_or op_cat op_catS)
def φAdd  (x y : PyData) (Q : R → Prop) : Prop := match x, y with
  | .int i, .int j => Q (.sh (.int (i + j)))
  | .list a, .list b => a.length + b.length ≤ sizeLine ∧ Q (.nw (a ++ b))
  | .tuple a, .tuple b => a.length + b.length ≤ sizeLine ∧ Q (.sh (.tuple (a ++ b)))
  | _, _ => False
theorem DVs.nil_iff {H : Hp} {vs : List V} {ds : List PyData} (h : DVs H vs ds) : vs = [] ↔ ds = [] := by
  cases h with
  | nil => exact ⟨fun _ => rfl, fun _ => rfl⟩
  | cons _ _ => exact ⟨(fun z => nomatch z), (fun z => nomatch z)⟩
theorem r2_add {K : PySem.W.Frag} : R2K (rAdd K) φAdd := by
  constructor
  · intro x y A B hAB q
    unfold φAdd at q ⊢
    split at q
    · exact hAB _ q
    · exact ⟨q.1, hAB _ q.2⟩
    · exact ⟨q.1, hAB _ q.2⟩
    · exact q.elim
  · intro L H x y dx dy Q s hx hy q
    unfold φAdd at q
    split at q
    · exact .inl ⟨_, _, hx.int, hy.int, q _ L H (Ext.refl _ _ _) s (.int _)⟩
    · obtain ⟨a, xs, rfl, h1, h2⟩ := hx.lst s
      obtain ⟨b, ys, rfl, h3, h4⟩ := hy.lst s
      refine .inr (.inl ⟨a, b, xs, ys, rfl, rfl, h1, h3, by rw [h2.len, h4.len]; exact q.1, fun p np => ?_⟩)
      exact q.2 _ L _ (Ext.own np) (same_own s (s.free np)) ⟨p, _, rfl, np, s.free np, upd_same, h2.app h4⟩
    · obtain ⟨a, xs, rfl, h1, h2⟩ := hx.tup
      obtain ⟨b, ys, rfl, h3, h4⟩ := hy.tup
      refine .inr (.inr ⟨a, b, xs, ys, rfl, rfl, (h1.to s).seq, (h3.to s).seq, by rw [h2.len, h4.len]; exact q.1, fun e => ?_, fun e => ?_, fun p o np no => ?_⟩)
      · have e2 := h2.nil_iff.mp e
        rw [e2, List.nil_append] at q
        exact q.2 _ L H (Ext.refl _ _ _) s (.tup h3 h4)
      · have e2 := h4.nil_iff.mp e
        rw [e2, List.append_nil] at q
        exact q.2 _ L H (Ext.refl _ _ _) s (.tup h1 h2)
      · have e1 : Ext none L H (upd L p (.frz o (.tup (xs ++ ys)))) (upd H p (.frz o (.tup (xs ++ ys)))) := Ext.new s np
        exact q.2 _ _ _ e1 (same_both s) (.tup ⟨o, no, upd_same⟩ ((h2.app h4).to e1.ll))
    · exact q.elim
abbrev rMulA : R2 := fun x y H Q => rI CMulW (fun i j => .int (i * j)) x y H Q ∨ rRep x y H Q
theorem op_mulA {X : Cx} : OpR X (binaryOp .Mult) rMulA := op_or op_mulW op_rep
def φMul  (x y : PyData) (Q : R → Prop) : Prop := match x, y with
  | .int i, .int j => CMulW i j ∧ Q (.sh (.int (i * j)))
  | .list a, .int k => (-(2 ^ 63) ≤ k ∧ k < 2 ^ 63 ∧ a.length * k.toNat ≤ sizeLine) ∧ Q (.nw (List.replicate k.toNat a).flatten)
  | _, _ => False
theorem DVs.rep {H : Hp} {vs : List V} {ds : List PyData} (h : DVs H vs ds) : ∀ n : Nat, DVs H (List.replicate n vs).flatten (List.replicate n ds).flatten
  | 0 => .nil
  | n + 1 => by rw [List.replicate_succ, List.replicate_succ, List.flatten_cons, List.flatten_cons]; exact h.app (h.rep n)
theorem r2_mul : R2K rMulA φMul := by
  constructor
  · intro x y A B hAB q
    unfold φMul at q ⊢
    split at q
    · exact ⟨q.1, hAB _ q.2⟩
    · exact ⟨q.1, hAB _ q.2⟩
    · exact q.elim
  · intro L H x y dx dy Q s hx hy q
    unfold φMul at q
    split at q
    · exact .inl ⟨_, _, hx.int, hy.int, q.1, q.2 _ L H (Ext.refl _ _ _) s (.int _)⟩
    · obtain ⟨a, xs, rfl, h1, h2⟩ := hx.lst s
      refine .inr ⟨a, _, xs, rfl, hy.int, h1, q.1.1, q.1.2.1, by rw [h2.len]; exact q.1.2.2, fun p np => ?_⟩
      exact q.2 _ L _ (Ext.own np) (same_own s (s.free np)) ⟨p, _, rfl, np, s.free np, upd_same, h2.rep _⟩
    · exact q.elim
def PyData.its : PyData → Option (List PyData)
  | .list ds => some ds
  | .tuple ds => some ds
  | _ => none
def φIx  (x y : PyData) (Q : R → Prop) : Prop := match PyData.its x, y with
  | some ds, .int i => ∃ d, atI ds i = some d ∧ Q (.sh d)
  | _, _ => False
theorem atI_dv {H : Hp} {vs : List V} {ds : List PyData} {i : Int} {d : PyData} (h : DVs H vs ds) (e : atI ds i = some d) : ∃ v, atI vs i = some v ∧ DV H v d := by
  unfold atI at e ⊢
  rw [← h.len] at e
  cases hx : ixN vs.length i with
  | none => rw [hx] at e; cases e
  | some j =>
    rw [hx] at e
    exact h.get e
theorem r2_ix {K : PySem.W.Frag} : R2K (rIx K) φIx := by
  constructor
  · intro x y A B hAB q
    unfold φIx at q ⊢
    split at q
    · obtain ⟨d, h1, h2⟩ := q
      exact ⟨d, h1, hAB _ h2⟩
    · exact q.elim
  · intro L H x y dx dy Q s hx hy q
    unfold φIx at q
    split at q
    · rename_i ds i hd
      obtain ⟨d, e, q⟩ := q
      cases dx with
      | list es =>
        cases hd
        obtain ⟨a, xs, rfl, h1, h2⟩ := hx.lst s
        obtain ⟨v, h3, h4⟩ := atI_dv h2 e
        exact .inl ⟨a, xs, i, v, rfl, hy.int, SqL.of h1, h3, q v L H (Ext.refl _ _ _) s h4⟩
      | tuple es =>
        cases hd
        obtain ⟨a, xs, rfl, h1, h2⟩ := hx.tup
        obtain ⟨v, h3, h4⟩ := atI_dv h2 e
        exact .inr (.inl ⟨a, xs, i, v, rfl, hy.int, (h1.to s).seq, h3, q v L H (Ext.refl _ _ _) s h4⟩)
      | _ => cases hd
    · exact q.elim
def cutD (ds : List PyData) (lo hi : Option Int) : List PyData := (ds.drop (HT.sIx ds.length 0 lo)).take (HT.sIx ds.length ds.length hi - HT.sIx ds.length 0 lo)
theorem cutD_all {ds : List PyData} {lo hi : Option Int} (h : (cutD ds lo hi).length = ds.length) : cutD ds lo hi = ds := by
  unfold cutD at h ⊢
  rw [List.length_take, List.length_drop] at h
  rcases Nat.eq_zero_or_pos ds.length with z | z
  · have := List.eq_nil_of_length_eq_zero z
    subst this
    rw [List.drop_nil, List.take_nil]
  · have h1 : HT.sIx ds.length 0 lo = 0 := by omega
    rw [h1, List.drop_zero, List.take_of_length_le (by rw [h1] at h; omega)]
theorem cut_dv {H : Hp} {vs : List V} {ds : List PyData} (h : DVs H vs ds) (lo hi : Option Int) : DVs H (cutV vs lo hi) (cutD ds lo hi) := by
  unfold cutV cutD
  rw [h.len]
  exact (h.drop _).take _
def φSl (x : PyData) (l h : Option Int) (Q : R → Prop) : Prop := match x with
  | .list ds => Q (.nw (cutD ds l h))
  | .tuple ds => Q (.sh (.tuple (cutD ds l h)))
  | _ => False
abbrev rSlB (K : PySem.W.Frag) : V → Option Int → Option Int → Hp → VK → Prop := fun x l u H Q => rSlL K x l u H Q ∨ rSlS K x l u H Q
theorem sl_both {X : Cx} : SlR X (rSlB X.K) := sl_or sl_list sl_tupS
theorem rs_sl {K : PySem.W.Frag} : RSK (rSlB K) φSl := by
  constructor
  · intro x l h A B hAB q
    cases x <;> first | exact hAB _ q | exact q.elim
  · intro L H x d l h Q s hx q
    cases d with
    | list ds =>
      obtain ⟨a, xs, rfl, h1, h2⟩ := hx.lst s
      exact .inl ⟨a, xs, rfl, SqL.of h1, fun p np => q _ L _ (Ext.own np) (same_own s (s.free np)) ⟨p, _, rfl, np, s.free np, upd_same, cut_dv h2 l h⟩⟩
    | tuple ds =>
      obtain ⟨a, xs, rfl, h1, h2⟩ := hx.tup
      refine .inr ⟨a, xs, rfl, (h1.to s).seq, fun e => ?_, fun p o np no => ?_⟩
      · have e2 : cutD ds l h = ds := by
          have k1 := (cut_dv h2 l h).len
          rw [e, h2.len] at k1
          exact cutD_all k1.symm
        have q2 : (fun r => ∀ v L' H', Ext none L H L' H' → Same L' H' → VR0 H L' H' v r → Q v H') (.sh (.tuple ds)) := by
          rw [← e2]; exact q
        exact q2 _ L H (Ext.refl _ _ _) s (.tup h1 h2)
      · have e1 : Ext none L H (upd L p (.frz o (.tup (cutV xs l h)))) (upd H p (.frz o (.tup (cutV xs l h)))) := Ext.new s np
        exact q _ _ _ e1 (same_both s) (.tup ⟨o, no, upd_same⟩ ((cut_dv h2 l h).to e1.ll))
    | _ => exact q.elim
abbrev rEqI : R2 := rI0 fun i j => .bl (decide (i = j))
theorem op_eqI {X : Cx} : OpR X (compareOp .Eq) rEqI := fun pins s σ H x y v u Q I rx ry q => by
  obtain ⟨i, j, rfl, rfl, q⟩ := q
  refine op_eq pins s σ H _ _ v u Q I rx ry ⟨rfl, ?_⟩
  have e : decide (V.int i = V.int j) = decide (i = j) := by simp
  rw [e]; exact q
abbrev rNeI : R2 := rI0 fun i j => .bl (!decide (i = j))
theorem op_neI {X : Cx} : OpR X (compareOp .NotEq) rNeI := fun pins s σ H x y v u Q I rx ry q => by
  obtain ⟨i, j, rfl, rfl, q⟩ := q
  refine op_ne pins s σ H _ _ v u Q I rx ry ⟨rfl, ?_⟩
  have e : decide (V.int i = V.int j) = decide (i = j) := by simp
  rw [e]; exact q
/-- two texts -/
abbrev rEqS : R2 := fun x y H Q => ∃ a b : Str, x = .str a ∧ y = .str b ∧ Q (.bl (decide (a = b))) H
theorem op_eqS {X : Cx} : OpR X (compareOp .Eq) rEqS := fun pins s σ H x y v u Q I rx ry q => by
  obtain ⟨i, j, rfl, rfl, q⟩ := q
  refine op_eq pins s σ H _ _ v u Q I rx ry ⟨rfl, ?_⟩
  have e : decide (V.str i = V.str j) = decide (i = j) := by simp
  rw [e]; exact q
abbrev rNeS : R2 := fun x y H Q => ∃ a b : Str, x = .str a ∧ y = .str b ∧ Q (.bl (!decide (a = b))) H
theorem op_neS {X : Cx} : OpR X (compareOp .NotEq) rNeS := fun pins s σ H x y v u Q I rx ry q => by
  obtain ⟨i, j, rfl, rfl, q⟩ := q
  refine op_ne pins s σ H _ _ v u Q I rx ry ⟨rfl, ?_⟩
  have e : decide (V.str i = V.str j) = decide (i = j) := by simp
  rw [e]; exact q
abbrev rEqA (K : PySem.W.Frag) : R2 := fun x y H Q => rEqI x y H Q ∨ (rEqS x y H Q ∨ rEqD K x y H Q)
abbrev rNeA (K : PySem.W.Frag) : R2 := fun x y H Q => rNeI x y H Q ∨ (rNeS x y H Q ∨ rNeD K x y H Q)
theorem op_eqA {X : Cx} (hu : X.A.units + 64 < cLine) : OpR X (compareOp .Eq) (rEqA X.K) := op_or op_eqI (op_or op_eqS (op_eqD hu))
theorem op_neA {X : Cx} (hu : X.A.units + 64 < cLine) : OpR X (compareOp .NotEq) (rNeA X.K) := op_or op_neI (op_or op_neS (op_neD hu))
def φEq (neg : Bool)  (x y : PyData) (Q : R → Prop) : Prop := match x, y with
  | .int i, .int j => Q (.sh (.bool (if neg then !decide (i = j) else decide (i = j))))
  | .str i, .str j => Q (.sh (.bool (if neg then !decide (i = j) else decide (i = j))))
  | x, y => (SeqAt.shaped x = true ∧ SeqAt.shaped y = true) ∧ Q (.sh (.bool (if neg then !PyData.eqv x y else PyData.eqv x y)))
theorem φEq_mono {neg : Bool} {x y : PyData} {A B : R → Prop} (hAB : ∀ r, A r → B r) (q : φEq neg x y A) : φEq neg x y B := by
  cases x <;> cases y <;> first | exact hAB _ q | exact ⟨q.1, hAB _ q.2⟩
theorem r2_eq {K : PySem.W.Frag} : R2K (rEqA K) (φEq false) := by
  constructor
  · intro x y A B hAB q
    exact φEq_mono hAB q
  · intro L H x y dx dy Q s hx hy q
    unfold φEq at q
    split at q
    · exact .inl ⟨_, _, hx.int, hy.int, q _ L H (Ext.refl _ _ _) s (.bl _)⟩
    · exact .inr (.inl ⟨_, _, hx.str, hy.str, q _ L H (Ext.refl _ _ _) s (.bl _)⟩)
    · exact .inr (.inr ⟨_, _, DV.dp _ _ (sh_nd q.1.1) (hx.dv s), DV.dp _ _ (sh_nd q.1.2) (hy.dv s), q.1.1, q.1.2, q.2 _ L H (Ext.refl _ _ _) s (.bl _)⟩)
theorem r2_ne {K : PySem.W.Frag} : R2K (rNeA K) (φEq true) := by
  constructor
  · intro x y A B hAB q
    exact φEq_mono hAB q
  · intro L H x y dx dy Q s hx hy q
    unfold φEq at q
    split at q
    · exact .inl ⟨_, _, hx.int, hy.int, q _ L H (Ext.refl _ _ _) s (.bl _)⟩
    · exact .inr (.inl ⟨_, _, hx.str, hy.str, q _ L H (Ext.refl _ _ _) s (.bl _)⟩)
    · exact .inr (.inr ⟨_, _, DV.dp _ _ (sh_nd q.1.1) (hx.dv s), DV.dp _ _ (sh_nd q.1.2) (hy.dv s), q.1.1, q.1.2, q.2 _ L H (Ext.refl _ _ _) s (.bl _)⟩)
def isN : PyData → Bool
  | .none => true
  | _ => false
theorem isN_V {L H : Hp} {v : V} {d : PyData} (h : VL L H v d) : decide (v = .non) = isN d := by
  cases d with
  | none => rw [h.non]; rfl
  | bool b => rw [h.bl]; rfl
  | int i => rw [h.int]; rfl
  | str x => rw [h.str]; rfl
  | list ds =>
    rcases h with h | ⟨a, xs, es, e, rfl, _⟩
    · cases h; rfl
    · rfl
  | tuple ds => obtain ⟨a, xs, rfl, _⟩ := h.tup; rfl
  | dict _ =>
    rcases h with h | ⟨a, xs, es, e, rfl, _⟩
    · cases h <;> rfl
    · rfl
def φIsN (neg : Bool)  (x y : PyData) (Q : R → Prop) : Prop := match y with
  | .none => Q (.sh (.bool (if neg then !isN x else isN x)))
  | _ => False
abbrev rIsN : R2 := fun x y H Q => y = .non ∧ Q (.bl (decide (x = .non))) H
abbrev rNotN : R2 := fun x y H Q => y = .non ∧ Q (.bl (!decide (x = .non))) H
theorem r2_isN : R2K rIsN (φIsN false) := by
  constructor
  · intro x y A B hAB q
    cases y <;> first | exact hAB _ q | exact q.elim
  · intro L H x y dx dy Q s hx hy q
    cases dy with
    | none => exact ⟨hy.non, q _ L H (Ext.refl _ _ _) s (by rw [isN_V hx]; exact .bl _)⟩
    | _ => exact q.elim
theorem r2_notN : R2K rNotN (φIsN true) := by
  constructor
  · intro x y A B hAB q
    cases y <;> first | exact hAB _ q | exact q.elim
  · intro L H x y dx dy Q s hx hy q
    cases dy with
    | none => exact ⟨hy.non, q _ L H (Ext.refl _ _ _) s (by rw [isN_V hx]; exact .bl _)⟩
    | _ => exact q.elim
def flatD : PyData → Option V
  | .none => some .non
  | .bool b => some (.bl b)
  | .int i => some (.int i)
  | .str x => some (.str x)
  | _ => none
def flatsD : List PyData → Option (List V)
  | [] => some []
  | d :: ds => match flatD d, flatsD ds with
    | some v, some vs => some (v :: vs)
    | _, _ => none
theorem flat_is {H : Hp} {v u : V} {d : PyData} (h : DV H v d) (e : flatD d = some u) : v = u ∧ flatV v = true := by
  cases h <;> first | (cases e; exact ⟨rfl, rfl⟩) | cases e
theorem flats_is {H : Hp} : ∀ {vs us : List V} {ds : List PyData}, DVs H vs ds → flatsD ds = some us → vs = us ∧ vs.all flatV = true
  | _, _, _, .nil, e => by cases e; exact ⟨rfl, rfl⟩
  | _, _, _, .cons a r, e => by
    unfold flatsD at e
    split at e
    · rename_i x xs hx hxs
      cases e
      obtain ⟨h1, h2⟩ := flat_is a hx
      obtain ⟨h3, h4⟩ := flats_is r hxs
      exact ⟨by rw [h1, h3], by rw [List.all_cons, h2, h4]; rfl⟩
    · cases e
/-- flat things by what they are; others by data -/
def φIn (neg : Bool)  (x y : PyData) (Q : R → Prop) : Prop := match PyData.its y with
  | some ds => match flatD x, flatsD ds with
    | some v, some vs => Q (.sh (.bool (if neg then !inV v vs else inV v vs)))
    | _, _ => (y = .list ds ∧ SeqAt.shaped x = true ∧ SeqAt.shaped y = true) ∧ Q (.sh (.bool (if neg then !(ds.any fun z => PyData.eqv z x) else ds.any fun z => PyData.eqv z x)))
  | none => False
theorem φIn_mono {neg : Bool} {x y : PyData} {A B : R → Prop} (hAB : ∀ r, A r → B r) (q : φIn neg x y A) : φIn neg x y B := by
  unfold φIn at q ⊢
  split at q
  · split at q
    · exact hAB _ q
    · exact ⟨q.1, hAB _ q.2⟩
  · exact q.elim
abbrev rInA (K : PySem.W.Frag) : R2 := fun x y H Q => rIn K false x y H Q ∨ rInD K x y H Q
abbrev rNotInA (K : PySem.W.Frag) : R2 := fun x y H Q => rIn K true x y H Q ∨ rNotInD K x y H Q
theorem op_inA {X : Cx} (hu : X.A.units + 65 < cLine) : OpR X (compareOp .In) (rInA X.K) := op_or op_in_seq (op_inD hu)
theorem op_notInA {X : Cx} (hu : X.A.units + 65 < cLine) : OpR X (compareOp .NotIn) (rNotInA X.K) := op_or op_notIn_seq (op_notInD hu)
theorem its_seq {K : PySem.W.Frag} {L H : Hp} {v : V} {d : PyData} {ds : List PyData} (h : VL L H v d) (s : Same L H) (e : PyData.its d = some ds) : ∃ a xs, v = .ref a ∧ (SqL K H a xs ∨ SqT K H a xs) ∧ DVs L xs ds := by
  cases d with
  | list es =>
    cases e
    obtain ⟨a, xs, rfl, h1, h2⟩ := h.lst s
    exact ⟨a, xs, rfl, .inl (SqL.of h1), h2⟩
  | tuple es =>
    cases e
    obtain ⟨a, xs, rfl, h1, h2⟩ := h.tup
    exact ⟨a, xs, rfl, .inr (h1.to s).seq, h2⟩
  | _ => cases e
theorem r2_in {K : PySem.W.Frag} : R2K (rInA K) (φIn false) := by
  constructor
  · intro x y A B hAB q
    exact φIn_mono hAB q
  · intro L H x y dx dy Q s hx hy q
    unfold φIn at q
    split at q
    · rename_i ds hds
      obtain ⟨a, xs, rfl, h1, h2⟩ := its_seq (K := K) hy s hds
      split at q
      · rename_i v vs hv hvs
        obtain ⟨e1, f1⟩ := flat_is (hx.dv s) hv
        obtain ⟨e2, f2⟩ := flats_is h2 hvs
        subst e1
        subst e2
        exact .inl ⟨a, _, rfl, h1, f1, f2, q _ L H (Ext.refl _ _ _) s (.bl _)⟩
      · obtain ⟨⟨e, s1, s2⟩, q⟩ := q
        subst e
        exact .inr ⟨_, ds, DV.dp _ _ (sh_nd s1) (hx.dv s), DV.dp _ _ (sh_nd s2) (hy.dv s), s1, s2, q _ L H (Ext.refl _ _ _) s (.bl _)⟩
    · exact q.elim
theorem r2_notIn {K : PySem.W.Frag} : R2K (rNotInA K) (φIn true) := by
  constructor
  · intro x y A B hAB q
    exact φIn_mono hAB q
  · intro L H x y dx dy Q s hx hy q
    unfold φIn at q
    split at q
    · rename_i ds hds
      obtain ⟨a, xs, rfl, h1, h2⟩ := its_seq (K := K) hy s hds
      split at q
      · rename_i v vs hv hvs
        obtain ⟨e1, f1⟩ := flat_is (hx.dv s) hv
        obtain ⟨e2, f2⟩ := flats_is h2 hvs
        subst e1
        subst e2
        exact .inl ⟨a, _, rfl, h1, f1, f2, q _ L H (Ext.refl _ _ _) s (.bl _)⟩
      · obtain ⟨⟨e, s1, s2⟩, q⟩ := q
        subst e
        exact .inr ⟨_, ds, DV.dp _ _ (sh_nd s1) (hx.dv s), DV.dp _ _ (sh_nd s2) (hy.dv s), s1, s2, q _ L H (Ext.refl _ _ _) s (.bl _)⟩
    · exact q.elim
end Lp

namespace Lp
open PySem PySem.Spec PyProof.Rows L2
abbrev IL (ns : List Int) : List V := ns.map V.int
abbrev dI (ns : List Int) : List PyData := ns.map PyData.int
theorem sz {n : Nat} (h : n ≤ 100000) : n ≤ sizeLine := Nat.le_trans h (by decide)
theorem szl {n : Nat} (h : n < 100000) : n < sizeLine := Nat.lt_of_lt_of_le h (by decide)
theorem dvs_ints {H : Hp} : ∀ ns : List Int, DVs H (IL ns) (dI ns)
  | [] => .nil
  | x :: r => .cons (.int x) (dvs_ints r)
theorem ints_dvs {H : Hp} : ∀ {vs : List V} {ns : List Int}, DVs H vs (dI ns) → vs = IL ns
  | _, [], .nil => rfl
  | _, _ :: _, .cons (.int _) r => by rw [ints_dvs r]; rfl
theorem IL_get {ns : List Int} {i : Nat} {z : Int} (h : ns[i]? = some z) : (IL ns)[i]? = some (.int z) := by
  rw [List.getElem?_map, h]; rfl
/-- all ints of ns lie in 0 .. n - 1 -/
def Low (n : Nat) (ns : List Int) : Prop := ∀ z ∈ ns, 0 ≤ z ∧ z < (n : Int)
theorem Low.app {n : Nat} {fs : List Int} {z : Int} (h : Low n fs) (h0 : 0 ≤ z) (h1 : z < (n : Int)) : Low n (fs ++ [z]) := fun y hy => by
  rcases List.mem_append.mp hy with h2 | h2
  · exact h y h2
  · rw [List.mem_singleton] at h2
    subst h2; exact ⟨h0, h1⟩
theorem Low.set {n : Nat} {fs : List Int} {z : Int} {i : Nat} (h : Low n fs) (h0 : 0 ≤ z) (h1 : z < (n : Int)) : Low n (fs.set i z) := fun y hy => by
  rcases List.mem_or_eq_of_mem_set hy with h2 | h2
  · exact h y h2
  · subst h2; exact ⟨h0, h1⟩
theorem Low.at {n : Nat} {fs : List Int} {z : Int} {i : Nat} (h : Low n fs) (e : fs[i]? = some z) : 0 ≤ z ∧ z < (n : Int) := h z (List.mem_of_getElem? e)
/-- data that are all ints -/
def intsD : List PyData → Option (List Int)
  | [] => some []
  | .int i :: ds => match intsD ds with
    | some ns => some (i :: ns)
    | none => none
  | _ :: _ => none
theorem intsD_dI : ∀ ns : List Int, intsD (dI ns) = some ns
  | [] => rfl
  | x :: r => by
    show (match intsD (dI r) with | some ns => some (x :: ns) | none => none) = _
    rw [intsD_dI r]
theorem intsD_is : ∀ {ds : List PyData} {ns : List Int}, intsD ds = some ns → ds = dI ns
  | [], _, h => by cases h; rfl
  | .int i :: ds, ns, h => by
    unfold intsD at h
    split at h
    · rename_i ms hm
      cases h
      rw [intsD_is hm]; rfl
    · cases h
  | .none :: _, _, h => by cases h
  | .bool _ :: _, _, h => by cases h
  | .str _ :: _, _, h => by cases h
  | .list _ :: _, _, h => by cases h
  | .tuple _ :: _, _, h => by cases h
  | .dict _ :: _, _, h => by cases h
def boolsD : List PyData → Option (List Bool)
  | [] => some []
  | .bool i :: ds => match boolsD ds with
    | some ns => some (i :: ns)
    | none => none
  | _ :: _ => none
abbrev dB (bs : List Bool) : List PyData := bs.map PyData.bool
theorem boolsD_dB : ∀ bs : List Bool, boolsD (dB bs) = some bs
  | [] => rfl
  | x :: r => by
    show (match boolsD (dB r) with | some ns => some (x :: ns) | none => none) = _
    rw [boolsD_dB r]
theorem boolsD_is : ∀ {ds : List PyData} {ns : List Bool}, boolsD ds = some ns → ds = dB ns
  | [], _, h => by cases h; rfl
  | .bool i :: ds, ns, h => by
    unfold boolsD at h
    split at h
    · rename_i ms hm
      cases h
      rw [boolsD_is hm]; rfl
    · cases h
  | .none :: _, _, h => by cases h
  | .int _ :: _, _, h => by cases h
  | .str _ :: _, _, h => by cases h
  | .list _ :: _, _, h => by cases h
  | .tuple _ :: _, _, h => by cases h
  | .dict _ :: _, _, h => by cases h
theorem bools_dvs {H : Hp} : ∀ {vs : List V} {ns : List Bool}, DVs H vs (dB ns) → vs = ns.map V.bl
  | _, [], .nil => rfl
  | _, _ :: _, .cons (.bl _) r => by rw [bools_dvs r]; rfl
/-- data that are all tuples of ints, none empty -/
def tupsD : List PyData → Option (List (List Int))
  | [] => some []
  | .tuple es :: ds => match intsD es, tupsD ds with
    | some (n :: ns), some nss => some ((n :: ns) :: nss)
    | _, _ => none
  | _ :: _ => none
abbrev dT (nss : List (List Int)) : List PyData := nss.map fun ns => .tuple (dI ns)
theorem tupsD_dT : ∀ nss : List (List Int), (∀ ns ∈ nss, ns ≠ []) → tupsD (dT nss) = some nss
  | [], _ => rfl
  | [] :: r, h => absurd rfl (h [] List.mem_cons_self)
  | (x :: y) :: r, h => by
    show (match intsD (dI (x :: y)), tupsD (dT r) with | some (n :: ns), some nss => some ((n :: ns) :: nss) | _, _ => none) = _
    rw [intsD_dI, tupsD_dT r fun ns hn => h ns (List.mem_cons_of_mem _ hn)]
theorem tupsD_is : ∀ {ds : List PyData} {nss : List (List Int)}, tupsD ds = some nss → ds = dT nss ∧ ∀ ns ∈ nss, ns ≠ []
  | [], _, h => by cases h; exact ⟨rfl, fun _ h => nomatch h⟩
  | .tuple es :: ds, nss, h => by
    unfold tupsD at h
    split at h
    · rename_i n ns ms h1 h2
      cases h
      obtain ⟨e, k⟩ := tupsD_is h2
      rw [e, intsD_is h1]
      exact ⟨rfl, fun x hx => (List.mem_cons.mp hx).elim (fun z => by rw [z]; exact (fun q => nomatch q)) (k x)⟩
    · cases h
  | .none :: _, _, h => by cases h
  | .bool _ :: _, _, h => by cases h
  | .int _ :: _, _, h => by cases h
  | .str _ :: _, _, h => by cases h
  | .list _ :: _, _, h => by cases h
  | .dict _ :: _, _, h => by cases h
end Lp

namespace Lp
open PySem PySem.Spec PyProof.Rows L2
theorem lex_asym : ∀ xs ys : List Int, HT.lexLt xs ys = true → HT.lexLt ys xs = false
  | [], [], _ => rfl
  | [], _ :: _, _ => rfl
  | _ :: _, [], h => by cases h
  | x :: xs, y :: ys, h => by
    rw [HT.lexLt_cons] at h ⊢
    by_cases e : x = y
    · rw [if_pos e] at h; rw [if_pos e.symm]; exact lex_asym xs ys h
    · rw [if_neg e] at h; rw [if_neg (Ne.symm e)]
      have := of_decide_eq_true h
      exact decide_eq_false (by omega)
theorem lex_tr : ∀ xs ys zs : List Int, HT.lexLt ys xs = false → HT.lexLt zs ys = false → HT.lexLt zs xs = false
  | [], _, [], _, _ => rfl
  | [], _, _ :: _, _, _ => rfl
  | _ :: _, [], _, h, _ => by cases h
  | _ :: _, _ :: _, [], _, h => by cases h
  | x :: xs, y :: ys, z :: zs, h1, h2 => by
    rw [HT.lexLt_cons] at h1 h2 ⊢
    by_cases e1 : y = x
    · rw [if_pos e1] at h1
      by_cases e2 : z = y
      · rw [if_pos e2] at h2
        rw [if_pos (e2.trans e1)]
        exact lex_tr xs ys zs h1 h2
      · rw [if_neg e2] at h2
        rw [if_neg (fun e => e2 (e.trans e1.symm)), ← e1]; exact h2
    · rw [if_neg e1] at h1
      have a := of_decide_eq_false h1
      by_cases e2 : z = y
      · rw [if_neg (fun e => e1 (e2.symm.trans e))]
        exact decide_eq_false (by omega)
      · rw [if_neg e2] at h2
        have b := of_decide_eq_false h2
        rw [if_neg (by omega)]
        exact decide_eq_false (by omega)
theorem lex_eq : ∀ xs ys : List Int, HT.lexLt xs ys = false → HT.lexLt ys xs = false → xs = ys
  | [], [], _, _ => rfl
  | [], _ :: _, h, _ => by cases h
  | _ :: _, [], _, h => by cases h
  | x :: xs, y :: ys, h1, h2 => by
    rw [HT.lexLt_cons] at h1 h2
    by_cases e : x = y
    · rw [if_pos e] at h1
      rw [if_pos e.symm] at h2
      rw [e, lex_eq xs ys h1 h2]
    · rw [if_neg e] at h1
      rw [if_neg (Ne.symm e)] at h2
      have := of_decide_eq_false h1
      have := of_decide_eq_false h2
      omega
abbrev ltK (k : Value → List Int) : Value → Value → Bool := fun v u => HT.lexLt (k v) (k u)
theorem swoK (k : Value → List Int) : SrtO.Swo (ltK k) := ⟨fun x y h => lex_asym _ _ h, fun x y z h1 h2 => lex_tr _ _ _ h1 h2⟩
section
variable {prog : Program} {w : World} {A : Around} {E : Value → Shared → Prop} {s : Shared}
theorem kat_ints : ∀ {xs ys : List Value} {ns ms : List Int} {fin : Bool} (i : Nat), IntsAre xs ns → IntsAre ys ms → fin = decide (ns.length < ms.length) →
    PySem.W.KatLex prog w A true fin (fun r s' => s' = s ∧ r = HT.lexLt ns ms) (xs.zip ys) i s
  | _, _, _, _, fin, i, .nil, .nil, h => PySem.W.kat_nil ⟨rfl, by rw [h]; rfl⟩
  | _, _, _, _, fin, i, .nil, .cons m u r, h => PySem.W.kat_nil ⟨rfl, by rw [h]; exact decide_eq_true (Nat.succ_pos _)⟩
  | _, _, _, _, fin, i, .cons n t r, .nil, h => PySem.W.kat_nil ⟨rfl, by rw [h]; exact decide_eq_false (Nat.not_lt_zero _)⟩
  | _, _, _, _, fin, i, .cons (ns := ns) n t r, .cons (ns := ms) m u r', h => by
    refine PySem.W.kat_cons (SeqAt.EqAt.int_int n t m u prog w _ _ ?_)
    refine PySem.W.kat_go (fun e => ?_) (fun e => ?_)
    · have en : n = m := by simpa using e
      refine PySem.W.kat_yes ?_
      have ih := kat_ints (fin := fin) (i + 1) r r' (by rw [h]; simp)
      rw [HT.lexLt_cons, if_pos en]
      exact ih
    · have en : ¬ n = m := by simpa using e
      refine PySem.W.kat_no (TS.oneLt_ints _ ?_)
      rw [HT.lexLt_cons, if_neg en]
      exact ⟨rfl, rfl⟩
/-- what is asked of the values: tuples of ints, none empty -/
def KeyOk (h : Heap) (k : Value → List Int) (vs : List Value) : Prop := ∀ v ∈ vs, TS.TupInts h v (k v) ∧ k v ≠ []
theorem KeyOk.keeps {h h' : Heap} {k : Value → List Int} {vs : List Value} (x : KeyOk h k vs) (q : ∀ b o, h.get? b = some o → o.cls = .type "tuple" → h'.get? b = some o) : KeyOk h' k vs := fun v hv => ⟨(x v hv).1.keeps q, (x v hv).2⟩
theorem key_cmp {vs : List Value} {k : Value → List Int} (x : KeyOk s.heap k vs) : SrtO.Cmp prog w A s (tuples' true) (fun p => p.1 ∈ vs) (SrtO.lt2 (ltK k)) := by
  intro p q hp hq
  obtain ⟨⟨a, xs, e, ⟨o, ho, _, n, hd⟩, i⟩, _⟩ := x _ hp
  obtain ⟨⟨b, ys, e', ⟨o', ho', _, n', hd'⟩, i'⟩, _⟩ := x _ hq
  show wpAny (model prog w) A (keyLt' (tuples' true) p.1 q.1) (fun r s' => s' = s ∧ r = HT.lexLt (k p.1) (k q.1)) (fun _ _ => False) s
  rw [e] at i ⊢
  rw [e'] at i' ⊢
  refine PySem.W.kat_lt ho hd ho' hd' (kat_ints 0 i i' ?_)
  rw [← i.length, ← i'.length, Array.length_toList, Array.length_toList]
theorem key_firsts {h : Heap} {k : Value → List Int} : ∀ vs : List Value, KeyOk h k vs → ∃ fs, PySem.W.KatTups h vs fs ∧ fs.length = vs.length ∧ ∀ f ∈ fs, ∃ n t, f = Value.int n t
  | [], _ => ⟨[], .nil, rfl, fun _ z => nomatch z⟩
  | v :: vs, x => by
    obtain ⟨fs, k1, k2, k3⟩ := key_firsts vs fun u hu => x u (List.mem_cons_of_mem _ hu)
    obtain ⟨⟨a, xs, e, ⟨o, ho, hc, n, hd⟩, i⟩, ne⟩ := x v List.mem_cons_self
    subst e
    generalize hz : k (.ref a) = z at i ne
    generalize hy : xs.toList = ys at i
    cases i with
    | nil => exact absurd rfl ne
    | cons m t r =>
      refine ⟨.int m t :: fs, .cons ho hc hd ?_ k1, congrArg (· + 1) k2, fun f hf => ?_⟩
      · rw [← Array.getElem?_toList, hy]; rfl
      · rcases List.mem_cons.mp hf with q | q
        · exact ⟨m, t, q⟩
        · exact k3 f q
theorem key_sortable {a : Addr} {vs : List Value} {k : Value → List Int} (x : KeyOk s.heap k vs) (h0 : 2 ≤ vs.length) (ha : ∀ o, s.heap.get? a = some o → o.cls ≠ .type "tuple") : SrtO.SortableO prog w A s a vs (ltK k) := by
  intro h' keep
  have x' : KeyOk h' k vs := x.keeps fun b o e c => keep b o (fun z => ha o (z ▸ e) c) e
  obtain ⟨fs, f1, f2, f3⟩ := key_firsts vs x'
  refine ⟨tuples' true, fun Q E hq => ?_, key_cmp (s := { s with heap := h' }) x'⟩
  refine PySem.W.kat_kind (T := .type "int") f1 (by omega) (fun f hf => ?_) (by rfl) ?_
  · obtain ⟨n, t, e⟩ := f3 f hf
    rw [e]
    exact PySem.W.Looks.now
  · rw [show (Value.type "int" != Value.type "tuple") = true by decide +kernel]
    exact hq
end
/-- the address of a value, its ints -/
def refOf : Value → Addr
  | .ref a => a
  | _ => 0
abbrev RL (L : List (Addr × List Int)) : List V := L.map fun p => V.ref p.1
abbrev RW (L : List (Addr × List Int)) : List Value := L.map fun p => Value.ref p.1
/-- L' is L in ascending order -/
def Ranked (L' : List (Addr × List Int)) : Prop := L'.Pairwise fun x y => HT.lexLt y.2 x.2 = false
section
variable {X : Cx}
def kf (h : Heap) (v : Value) : Addr × List Int := (refOf v, TS.intsOf h v)
theorem kf_map {h : Heap} {L : List (Addr × List Int)} (x : ∀ p ∈ L, TS.TupInts h (.ref p.1) p.2) : (RW L).map (kf h) = L := by
  rw [List.map_map]
  refine (List.map_congr_left fun p hp => ?_).trans (List.map_id L)
  show (p.1, TS.intsOf h (.ref p.1)) = p
  rw [(x p hp).ints]
theorem kf_back {h : Heap} {L : List (Addr × List Int)} : ∀ {out : List Value}, (∀ v ∈ out, v ∈ RW L) → out = RW (out.map (kf h))
  | [], _ => rfl
  | v :: r, x => by
    obtain ⟨p, _, e⟩ := List.mem_map.mp (x v List.mem_cons_self)
    have ih := kf_back (h := h) (L := L) (out := r) fun u hu => x u (List.mem_cons_of_mem _ hu)
    show v :: r = Value.ref (refOf v) :: RW (r.map (kf h))
    rw [← ih, ← e]; rfl
theorem tupInts_at {pins : List (Addr × Obj)} {σ : L2.St} {H : Hp} {s : Shared} {b : Addr} {k : List Int} (I : Inv X pins σ H s) (h : SqT X.K H b (IL k)) : TS.TupInts s.heap (.ref b) k := tupInts_of (I.isT h)
/-- sorted(xs), xs a list of tuples of ints, none empty -/
def rSortL (K : PySem.W.Frag) : List V → Hp → VK → Prop := fun vs H Q => ∃ (a : Addr) (L : List (Addr × List Int)), vs = [V.ref a] ∧ SqL K H a (RL L) ∧ (∀ p ∈ L, SqT K H p.1 (IL p.2) ∧ p.2 ≠ []) ∧
  ∀ L' q, L'.Perm L → Ranked L' → H q = none → Q (.ref q) (upd H q (.lst (RL L')))
theorem cr_sortL : CallR X (.builtin "sorted") (rSortL X.K) := by
  intro pins s σ H vs us Q I r h
  obtain ⟨a, L, rfl, hs, hx, q⟩ := h
  obtain ⟨its, rv, hl, hz⟩ := I.list hs
  rw [Vals.ref1 r]
  have ei : its = RW L := refs_of_vals rv
  subst ei
  have tup : ∀ p ∈ L, TS.TupInts s.heap (.ref p.1) p.2 := fun p hp => tupInts_at I (hx p hp).1
  have key : KeyOk s.heap (TS.intsOf s.heap) (RW L) := fun v hv => by
    obtain ⟨p, hp, rfl⟩ := List.mem_map.mp hv
    rw [(tup p hp).ints]
    exact ⟨tup p hp, (hx p hp).2⟩
  refine SrtO.sorted_ord (swoK (TS.intsOf s.heap)) hl.isList (by rw [← rv.length]; exact hz) (fun h2 h₁ a' ha kk => ?_) fun out o1 o2 => ?_
  · refine key_sortable (s := { s with heap := h₁ }) (key.keeps fun b o e _ => (kk b o e).2) h2 fun o e c => ?_
    cases ha.symm.trans e
    exact absurd (Value.type.inj c) (by decide)
  · have back := kf_back (h := s.heap) (L := L) (out := out) fun v hv => o2.perm.mem_iff.mp hv
    have pm : (out.map (kf s.heap)).Perm L := by
      have := o2.perm.map (kf s.heap)
      rw [kf_map tup] at this
      exact this
    have rk : Ranked (out.map (kf s.heap)) := List.pairwise_map.mpr o1
    obtain ⟨ep, he⟩ := PyProof.Rows.sortedAll_at s.heap (RW L) out.toArray
    have vals : Vals (RL (out.map (kf s.heap))) out := by
      have : Vals (RL (out.map (kf s.heap))) (RW (out.map (kf s.heap))) := vals_of_refs _
      rw [← back] at this
      exact this
    refine ⟨.ref _, upd H (s.heap.objs.size + 1) (.lst (RL (out.map (kf s.heap)))), I.laid (t' := s.toks) (fun _ _ => PyProof.Rows.sortedAll_old) (Nat.le_succ _) ⟨?_, out, ep, vals, he⟩, rfl, q _ _ pm rk (I.hok.fresh (Nat.le_succ _))⟩
    rw [List.length_map, pm.length_eq]
    rw [List.length_map] at hz; exact hz
/-- sorted(set), of tuples of ints, none empty -/
def rSortS (K : PySem.W.Frag) (P : Program) (w : World) : List V → Hp → VK → Prop := fun vs H Q => ∃ (a : Addr) (L : List (Addr × List Int)), vs = [V.ref a] ∧ H a = some (SetTO P w a L) ∧ (∀ p ∈ L, SqT K H p.1 (IL p.2) ∧ p.2 ≠ []) ∧
  ∀ L' q, L'.Perm L → Ranked L' → (L'.map (·.2)).Nodup → H q = none → Q (.ref q) (upd H q (.lst (RL L')))
theorem cr_sortS (hc : X.calm = true) : CallR X (.builtin "sorted") (rSortS X.K X.prog X.w) := by
  intro pins s σ H vs us Q I r h
  obtain ⟨a, L, rfl, ha, hx, q⟩ := h
  have R0 : SetT0 X.prog X.w s.heap a L := (I.hok a _ ha).1
  obtain ⟨es, ep, t, R⟩ := R0.full fun p hp => I.isT (hx p hp).1
  rw [Vals.ref1 r]
  obtain ⟨o, ho, hex, hd⟩ := R.ob
  have few := R.few
  have siz := R.size
  refine Calls.call_function_entry PyProof.Rows.kind_sorted PyProof.Rows.plain_sorted PyProof.Rows.entry_sorted (PyProof.Rows.args_sorted1 _) ?_
  unfold Builtin.«sorted»
  refine wpAny_bind (m := checkCount "sorted" 1 1 _) (wpAny_pure (wpAny_bind (collect_set (A := X.A.in1) (I.ok.hd hc) ⟨o, ho, hex.1, hd⟩ R.fits (by show es.size < 4096; omega) R.tab.ris R.led ?_)))
  intro s1 out0 k1 hz g1 o1 pm
  have rows : es.toList.map (·.2) = RW L := by
    rw [R.rows]; unfold rowsOf; rw [List.map_map]; rfl
  rw [rows] at pm
  have len0 : out0.length = L.length := by rw [pm.length_eq, List.length_map]
  refine wpAny_bind (wpAny_newList ?_ (sz (by omega)))
  have hoL : (s1.heap.push (seqObj "list" out0.toArray 0)).get? s1.heap.objs.size = some (seqObj "list" out0.toArray 0) := Heap.get?_push_size _ rfl
  have tup : ∀ p ∈ L, TS.TupInts (s1.heap.push (seqObj "list" out0.toArray 0)) (.ref p.1) p.2 := fun p hp => tupInts_of (isT_keep (R.tup p hp) fun b u e => Heap.get?_push_of_some _ (k1 b u e))
  have key : KeyOk (s1.heap.push (seqObj "list" out0.toArray 0)) (TS.intsOf (s1.heap.push (seqObj "list" out0.toArray 0))) out0 := fun v hv => by
    obtain ⟨p, hp, rfl⟩ := List.mem_map.mp (pm.mem_iff.mp hv)
    rw [(tup p hp).ints]
    exact ⟨tup p hp, (hx p hp).2⟩
  refine wpAny_bind (wpAny_holding (wpAny_call_entry PyProof.Rows.slot_list_sort ⟨_, hoL, rfl⟩ PyProof.Rows.entry_list_sort (SrtO.list_sort_ord (s := { s1 with heap := s1.heap.push (seqObj "list" out0.toArray 0) }) (swoK (TS.intsOf (s1.heap.push (seqObj "list" out0.toArray 0)))) hoL (sz (by omega)) (fun h2 => ?_) fun out q1 q2 => ⟨_, rfl, ?_⟩) (PyProof.Rows.args_list_sort _)))
  · refine key_sortable (s := { s1 with heap := s1.heap.push (seqObj "list" out0.toArray 0) }) key h2 fun o e c => ?_
    cases hoL.symm.trans e
    exact absurd (Value.type.inj c) (by decide)
  · obtain ⟨c, hcL⟩ := sortedHeap_at (vs := out0) (out := out.toArray) hoL
    generalize hh : s1.heap.push (seqObj "list" out0.toArray 0) = h2 at *
    have back := kf_back (h := h2) (L := L) (out := out) fun v hv => pm.mem_iff.mp (q2.perm.mem_iff.mp hv)
    have pL : (out.map (kf h2)).Perm L := by
      have := (q2.perm.trans pm).map (kf h2)
      rw [kf_map tup] at this
      exact this
    have rk : Ranked (out.map (kf h2)) := List.pairwise_map.mpr q1
    have hn : H s1.heap.objs.size = none := I.hok.fresh hz
    have vals : Vals (RL (out.map (kf h2))) out := by
      have : Vals (RL (out.map (kf h2))) (RW (out.map (kf h2))) := vals_of_refs _
      rw [← back] at this
      exact this
    have keep : ∀ b u, s.heap.get? b = some u → (sortedHeap h2 s1.heap.objs.size out0 out.toArray).get? b = some u := fun b u e => by
      have lt := Heap.lt_size (k1 b u e)
      rw [sortedHeap_old (Nat.ne_of_lt lt) (by rw [← hh, size_push']; exact Nat.lt_succ_of_lt lt), ← hh]
      exact Heap.get?_push_of_some _ (k1 b u e)
    have lenL : (RL (out.map (kf h2))).length ≤ sizeLine := by rw [List.length_map, pL.length_eq]; exact sz (by omega)
    have J : Inv X pins σ (upd H s1.heap.objs.size (.lst (RL (out.map (kf h2))))) { s with heap := sortedHeap h2 s1.heap.objs.size out0 out.toArray, gens := s1.gens, drawn := s1.drawn, toks := s1.toks } :=
      I.call (ch := []) (Un.laid keep hz hn) (I.hok.laid keep hz ⟨lenL, out, c, vals, hcL⟩) (by rw [g1]; exact I.bare) (fun _ z => nomatch z)
    have fin : EP X pins σ Q (.ref s1.heap.objs.size) { s with heap := sortedHeap h2 s1.heap.objs.size out0 out.toArray, gens := s1.gens, drawn := s1.drawn, toks := s1.toks } := ⟨.ref _, _, J, rfl, q _ _ pL rk ((pL.map (·.2)).nodup_iff.mpr R.nd) hn⟩
    refine wpAny_pure ⟨_, rfl, ?_⟩
    obtain ⟨h1, g, d, t', os⟩ := s1
    cases o1
    exact fin
end
end Lp

namespace Lp
open PySem PySem.Spec PyProof.Rows L2
theorem addT_ok {Y : Cx} {pins : List (Addr × Obj)} {σ : L2.St} {H : Hp} {s : Shared} {E : Value → Shared → Prop} {D b : Addr} {L : List (Addr × List Int)} {k : List Int} {Q : Value → Shared → Prop} (I : Inv Y pins σ H s) (hD : H D = some (SetTO Y.prog Y.w D L)) (hb : SqT Y.K H b (IL k))
    (hL : ∀ p ∈ L, SqT Y.K H p.1 (IL p.2)) (few : L.length + 1 < 64) (hu : Y.A.units + 5 < cLine)
    (h : ∀ s' L', (k ∈ L.map (·.2) → L' = L) → (k ∉ L.map (·.2) → L'.Perm ((b, k) :: L)) → Inv Y pins σ (upd H D (SetTO Y.prog Y.w D L')) s' → Q .none s') :
    wpAny (model Y.prog Y.w) Y.A (call (.builtin "set.add") [.ref D, .ref b]) Q E s := by
  have R0 : SetT0 Y.prog Y.w s.heap D L := (I.hok D _ hD).1
  obtain ⟨es, ep, t, R⟩ := R0.full fun p hp => I.isT (hL p hp)
  obtain ⟨o, ho, hex, hd⟩ := R.ob
  have hx := I.isT hb
  refine wpAny_call_entry PySem.F.slot_set_add ⟨o, ho, hex.1⟩ PySem.F.entry_set_add ?_ (PySem.F.args_set_add_2 _ _)
  unfold Builtin.«set.add» Builtin.Frozenset.oneOther
  simp only [List.isEmpty_nil, bind_assoc]
  unfold Builtin.Frozenset.addrOf setAdd
  refine wpAny_bind (wpAny_pure ?_)
  try dsimp only
  refine wpAny_bind (wpAny_pure ?_)
  try dsimp only
  refine wpAny_bind (wpAny_holding (wpAny_bind (wpAny_pyHash_tuple (by show Y.A.units + 1 < cLine; omega) hx ?_)))
  refine add_at (s := { s with toks := s.toks + (k.length + 1) }) R hx (by show Y.A.units + 1 < cLine; omega) few fun _ h' L' es' ep' t' sb R' c1 c2 => ?_
  show wpAny _ _ (ret Value.none) _ _ _
  have there : ∃ u, h'.get? D = some u := by
    obtain ⟨o', ho', _⟩ := R'.ob
    exact ⟨o', ho'⟩
  exact wpAny_pure ⟨_, rfl, h _ L' c1 c2 (I.write (e := D) (t' := s.toks + (k.length + 1)) (by rw [hD]; trivial) (.inl rfl) (fun c u n e => (sb.2 c n).trans e) there (setTO_new R'.t0))⟩
/-- what must hold: D is the new set -/
def tScT (K : PySem.W.Frag) (P : Program) (w : World) (wi : TI) (g : TG) (te : TE) (vs : List Nat) : TE := fun σ H Q => wi σ H fun J H1 => ∀ D, H1 D = none → ∃ W : Nat → Nat → Hp → Prop, (∃ m, W 0 m (upd H1 D (SetTO P w D []))) ∧ ∀ i m H, W i m H →
  (J.stop i H ∧ Q (.ref D) H) ∨ (J.go i H ∧ ∃ Nx : Hp → Prop, (∀ H', Nx H' → ∃ m', m' < m ∧ W (i + 1) m' H') ∧ ∀ x H', J.yld i H x H' → g x (wipe σ vs) H' fun σ2 H2 => wipe σ2 vs = wipe σ vs ∧
    te σ2 H2 fun y H4 => ∃ (b : Addr) (k : List Int) (L : List (Addr × List Int)), y = .ref b ∧ SqT K H4 b (IL k) ∧ H4 D = some (SetTO P w D L) ∧ (∀ p ∈ L, SqT K H4 p.1 (IL p.2)) ∧ L.length + 1 < 64 ∧
      ∀ L', (k ∈ L.map (·.2) → L' = L) → (k ∉ L.map (·.2) → L'.Perm ((b, k) :: L)) → Nx (upd H4 D (SetTO P w D L')))
theorem pe_scT {X : Cx} {elt tg iter : Expr} {scope : Scope} {own : List (Str × Nat)} {pos : Pos} {wi : TI} {g : TG} {te : TE} (hc : X.calm = true) (hu : X.A.units + 5 < cLine) (hN : X.N.Nodup) (hi : PI X tg iter wi) (ok : BlkOk X.N X.env.scope scope own)
    (hg : ∀ (s : Shared) (H : Hp) (C : Addr) (cl : List (Str × Addr)) (fp : List Addr), PG (X.blk s H scope (compEnvC scope cl C X.env) fp) tg g)
    (he : ∀ (s : Shared) (H : Hp) (C : Addr) (cl : List (Str × Addr)) (fp : List Addr), PE (X.blk s H scope (compEnvC scope cl C X.env) fp) elt te) (hs : ∀ x, foldedSetIterable iter X.env x = pure x := by intro _; rfl) :
    PE X (.SetComp elt [⟨tg, iter, [], 0⟩] scope pos) (tScT X.K X.prog X.w wi g te (own.map (·.2))) := by
  constructor
  intro pins s σ H Q I h
  rw [PpSet.eval_SetComp]
  show wpAny _ _ (comprehension (.SetComp elt [⟨tg, iter, [], 0⟩] scope pos) scope X.env (firstIterPos [⟨tg, iter, [], 0⟩] pos) (newSet (.type "set")) false (eval iter X.env)) _ _ s
  have captured : ∀ y ∈ scope.names, y.2 = .free → ∃ c, X.env.cells.lookup y.1 = some c := fun y hy e => (ok.free y hy e).elim (fun z => I.ok.has _ (.inl z)) (fun z => I.ok.has _ (.inr z))
  refine wpAny_comprehension_free (use := none) rfl hs (closure_ok captured) ok.kind (fun y hy e => by rw [ok.uniq y hy, e]) (thn (hi.run pins s σ H _ I h) fun xv s1 hx => thn hx fun itv s2 walked => ?_)
  obtain ⟨it, fp, tn, J, H2, rfl, I2, T, at0, apart, want⟩ := walked
  refine PpSet.newSet_ok (newEnv_comp ?_)
  generalize eD : s2.heap.objs.size = D
  have noD : H2 D = none := I2.hok.fresh (Nat.le_of_eq eD)
  obtain ⟨W, ⟨m0, w0⟩, turn⟩ := want D noD
  generalize e3 : ({ s2 with heap := s2.heap.push { cls := .type "set", dict := none, data := .set #[] 0 (.fresh 0 0 (!X.w.params.followText "set-order")) } } : Shared) = s3
  have heap3 : s3.heap = s2.heap.push { cls := .type "set", dict := none, data := .set #[] 0 (.fresh 0 0 (!X.w.params.followText "set-order")) } := by rw [← e3]
  have I3 : Inv X pins σ (upd H2 D (SetTO X.prog X.w D [])) s3 := by
    rw [← e3]
    refine I2.laid (t' := s2.toks) (fun _ _ e => Heap.get?_push_of_some _ e) (Nat.le_of_eq eD) (setTO_new (SetTR.t0 (setTR_fresh ?_)))
    rw [← eD]; exact Heap.get?_push_size _ rfl
  have apart3 : ∀ b ∈ fp, FpOk X pins (upd H2 D (SetTO X.prog X.w D [])) b ∧ b < s3.heap.objs.size := by
    intro b hb
    obtain ⟨o, e, _⟩ := T.obj _ _ at0 b hb
    have lt := Heap.lt_size e
    refine ⟨⟨?_, (apart b hb).2⟩, by rw [heap3, Heap.size_push]; exact Nat.lt_succ_of_lt lt⟩
    rw [upd_ne (fun z => by rw [z, ← eD] at lt; exact Nat.lt_irrefl _ lt)]
    exact (apart b hb).1
  have at3 : tn 0 s3.heap := T.keep _ _ _ at0 fun b _ o e => by rw [heap3]; exact Heap.get?_push_of_some _ e
  have I4 := block_start I3 ok hN apart3
  have pg := hg s3 (upd H2 D (SetTO X.prog X.w D [])) s3.heap.objs.size (cellsFrom (s3.heap.objs.size + 1) scope.names (cloFrom X.env.cells scope.names [])) fp
  have pe := he s3 (upd H2 D (SetTO X.prog X.w D [])) s3.heap.objs.size (cellsFrom (s3.heap.objs.size + 1) scope.names (cloFrom X.env.cells scope.names [])) fp
  show codeAny _ _ (.compStart (.SetComp elt [⟨tg, iter, [], 0⟩] scope pos) 0 (.ref it) (.ref D) (compEnvC scope (cellsFrom (s3.heap.objs.size + 1) scope.names (cloFrom X.env.cells scope.names [])) s3.heap.objs.size X.env)) (compPost (model X.prog X.w) X.A X.xe none (EP X pins σ Q) (.ref D) s3.heap.objs.size) { s3 with heap := pushCells (s3.heap.push { cls := .type "dict", data := .dict #[] }) scope.names }
  have none3 : ∀ b ∈ fp, (upd H2 D (SetTO X.prog X.w D [])) b = none := fun b hb => (apart3 b hb).1.1
  generalize eC : compEnvC scope (cellsFrom (s3.heap.objs.size + 1) scope.names (cloFrom X.env.cells scope.names [])) s3.heap.objs.size X.env = ce at I4 pg pe ⊢
  have loc : ce.locals = s3.heap.objs.size := by subst eC; rfl
  generalize eH3 : upd H2 D (SetTO X.prog X.w D []) = H3 at I3 I4 pg pe w0 none3 apart3
  generalize e4 : ({ s3 with heap := pushCells (s3.heap.push { cls := .type "dict", data := .dict #[] }) scope.names } : Shared) = s4 at I4 ⊢
  have at4 : tn 0 s4.heap := T.keep _ _ _ at3 fun b _ o e => by rw [← e4]; exact pushCells_keeps _ _ _ _ (Heap.get?_push_of_some _ e)
  have own_fp : ∀ {σ' : L2.St} {H' : Hp} {s' : Shared}, Inv (X.blk s3 H3 scope ce fp) [] σ' H' s' → (∀ b ∈ fp, H' b = none) → ∀ b ∈ fp, FpOk (X.blk s3 H3 scope ce fp) [] H' b := by
    intro σ' H' s' I' hn b hb
    refine ⟨hn b hb, (I'.ok.exf b hb).1, I'.ok.exfs b hb, .inl hb, fun x c e => (I'.ok.exf b hb).2 x c e, fun p hp => ?_⟩
    exact nomatch (show p ∈ ([] : List (Addr × Obj)) from hp)
  have loop : codeAny (model X.prog X.w) X.A (.compLoop (.SetComp elt [⟨tg, iter, [], 0⟩] scope pos) 0 (.ref it) (.ref D) ce) (compPost (model X.prog X.w) X.A X.xe none (EP X pins σ Q) (.ref D) s3.heap.objs.size) s4 := by
    refine PpSet.compLoopS_any (fun n s' => ∃ i H', Inv (X.blk s3 H3 scope ce fp) [] (wipe σ (own.map (·.2))) H' s' ∧ tn i s'.heap ∧ (∀ b ∈ fp, H' b = none) ∧ W i n H') ?_ m0 ⟨0, H3, I4, at4, none3, w0⟩
    rintro n s5 ⟨i, H5, I5, at5, none5, w5⟩
    rcases turn i n H5 w5 with ⟨stop, done⟩ | ⟨go, Nx, next, step⟩
    · refine thnF (T.done (X.blk s3 H3 scope ce fp) rfl rfl rfl hc i [] s5 _ H5 (fun _ _ => False) I5 (own_fp I5 none5) at5 stop) fun r s6 ends => ?_
      obtain ⟨rfl, I6⟩ := ends
      have I7 : Inv X pins σ H5 s6 := I3.call' (ch := fp) I6.os I6.base I6.hok I6.bare fun b hb => by
        obtain ⟨_, a1, _, a3, a4, a5⟩ := (apart3 b hb).1
        exact ⟨a3, a1, a4, a5⟩
      have noC : H5 s3.heap.objs.size = none := by rw [← loc]; exact I6.free
      obtain ⟨m, names, _⟩ := I6.loc
      have names' : s6.heap.Ns s3.heap.objs.size m := by rw [← loc]; exact names
      obtain ⟨f0, f1, f2, f3, f4, f5⟩ := I3.fpOk (Nat.le_refl _) noC
      refine ⟨m, names', fun h'' sb => ?_⟩
      exact ⟨.ref D, H5, I7.turned (t' := s6.toks) (fun b o n e => (sb.2 b n).trans e) f0 f1 f3 f4 f5, rfl, done⟩
    · refine thnF (T.item (X.blk s3 H3 scope ce fp) rfl rfl rfl hc i [] s5 _ H5 (fun _ _ => False) I5 (own_fp I5 none5) at5 go) fun r s6 got => ?_
      obtain ⟨u, rfl, h6⟩ := got
      refine thnF h6 fun _ s7 got => ?_
      obtain ⟨x, H7, I7, rx, y7, at7, none7⟩ := got
      refine thnF (pg.run _ s7 _ H7 x u _ (I7.pinned (own_fp I7 none7) (T.obj _ _ at7)) rx (step x H7 y7)) fun _ s8 got => ?_
      obtain ⟨σ8, H8, I8, same8, q8⟩ := got
      have turned : ∀ {s' : Shared} {H' : Hp}, Inv (X.blk s3 H3 scope ce fp) ([] ++ pinsAt fp s7.heap) σ8 H' s' → Nx H' → ∃ m, m < n ∧ ∃ i H', Inv (X.blk s3 H3 scope ce fp) [] (wipe σ (own.map (·.2))) H' s' ∧ tn i s'.heap ∧ (∀ b ∈ fp, H' b = none) ∧ W i m H' := by
        intro s' H' I' nx
        obtain ⟨m', less, w'⟩ := next H' nx
        have held : ∀ b ∈ fp, ∀ o, s7.heap.get? b = some o → s'.heap.get? b = some o ∧ H' b = none := by
          intro b hb o e
          obtain ⟨z1, z2, _⟩ := I'.pin (b, o) (List.mem_append_right _ (List.mem_append_right _ (mem_pinsAt hb e)))
          exact ⟨z1, z2⟩
        refine ⟨m', less, i + 1, H', (I'.unpinned (pins := [])).weak (by rw [← same8, wipe_length]) (fun j v e => ?_), T.keep _ _ _ at7 fun b hb o e => (held b hb o e).1, fun b hb => ?_, w'⟩
        · rw [← same8] at e; exact (wipe_some e).1
        · obtain ⟨o, e, _⟩ := T.obj _ _ at7 b hb
          exact (held b hb o e).2
      refine wpAny_pure ?_
      rw [if_pos rfl]
      refine thnF (pe.run _ s8 σ8 H8 _ I8 q8) fun z s9 got => ?_
      obtain ⟨yv, H9, I9, ry, b, k, L, rfl, hb, hD9, hL9, few, nx⟩ := got
      cases ry
      exact addT_ok (Y := X.blk s3 H3 scope ce fp) I9 hD9 hb hL9 few hu fun s10 L' c1 c2 I10 => turned I10 (nx L' c1 c2)
  exact PpSet.codeAny_compStart_set loop (T.self X.A 0 _ _ _ at4 loop)
end Lp

namespace Lp
open PySem PySem.Spec PyProof.Rows L2
section
variable {prog : Program} {w : World} {A : Around} {E : Value → Shared → Prop} {s : Shared} {l : Addr}
theorem min_tupI {xs : Array (Int × Tok)} {Q : Value → Shared → Prop} (calm : A.handled = none) (ht : s.heap.IsTuple l (intItems xs)) (ne : 0 < xs.size)
    (q : ∀ v h' tk, (intItems xs)[argBest (fun i j => decide (numAt xs i < numAt xs j)) (xs.size - 1)]? = some v → (∀ b o, s.heap.get? b = some o → h'.get? b = some o) → Q v { s with heap := h', toks := tk }) :
    wpAny (model prog w) A (call (.builtin "min") [.ref l]) Q E s := by
  have lt : l < s.heap.objs.size := by obtain ⟨_, e, _⟩ := ht; exact Heap.lt_size e
  refine call_min_walk (wpAny_pyIter_tuple ht ?_)
  refine ⟨_, [_, l], [_], _, _, _, _, rfl, Walks.tuple (A := A.in1) calm _ l (Nat.ne_of_lt lt) (intItems xs), ⟨⟨_, Heap.get?_push_size _ rfl, rfl, rfl⟩, ht.push _⟩, fun c hc => ?_, by simpa [intItems] using ne, CmpOf.ints_lt (numAt xs) (fun _ _ => intItems_at), fun v h' tk hP hk => ?_⟩
  · have e : c = s.heap.objs.size ∨ c = l := by simpa using hc
    have z : (s.heap.push { cls := .type "tuple_iterator", data := .fields #[.ref l, .int 0 0] }).objs.size = s.heap.objs.size + 1 := Heap.size_push ..
    show c < _
    rw [z]
    rcases e with rfl | rfl
    · exact Nat.lt_succ_self _
    · exact Nat.lt_succ_of_lt lt
  · refine q v h' tk (by simpa [intItems] using hP) fun c o e => hk c o (fun hm => ?_) (Heap.get?_push_of_some _ e)
    have ec : c = s.heap.objs.size := by simpa using hm
    rw [ec] at e
    exact Nat.lt_irrefl _ (Heap.lt_size e)
theorem min_tupN {its : List Value} {ns : List Int} {Q : Value → Shared → Prop} (calm : A.handled = none) (ht : s.heap.IsTuple l its.toArray) (hi : IntsAre its ns) (ne : 0 < ns.length)
    (q : ∀ h' tk M t', (∀ b o, s.heap.get? b = some o → h'.get? b = some o) → M ∈ ns → (∀ a, a ∈ ns → M ≤ a) → Q (.int M t') { s with heap := h', toks := tk }) : wpAny (model prog w) A (call (.builtin "min") [.ref l]) Q E s := by
  obtain ⟨xs, e⟩ := hi.allInts.items
  have en : numsOf (intItems xs).toList = ns := e ▸ hi.numsOf
  rw [nums_intItems] at en
  subst en
  rw [e] at ht
  refine min_tupI calm ht (by simpa using ne) fun v h' tk hv hk => ?_
  obtain ⟨t, rfl⟩ := intItems_at hv
  have best := (argBest_lt (numAt xs) (xs.size - 1)).2
  have size : 0 < xs.size := by simpa using ne
  have len : (xs.toList.map (·.1)).length = xs.size := by rw [List.length_map, Array.length_toList]
  have le := (argBest_lt (numAt xs) (xs.size - 1)).1
  refine q h' tk _ t hk (by rw [numAt_eq]; exact PySem.getD_mem (by rw [len]; omega)) fun a ha => ?_
  obtain ⟨j, hj, rfl⟩ := mem_getD ha
  rw [len] at hj
  rw [← numAt_eq]
  exact best j (by omega)
end
section
variable {X : Cx}
def rMinT (K : PySem.W.Frag) : List V → Hp → VK → Prop := fun vs H Q => ∃ (a : Addr) (ns : List Int), vs = [V.ref a] ∧ SqT K H a (IL ns) ∧ 0 < ns.length ∧ ∀ m, m ∈ ns → (∀ y, y ∈ ns → m ≤ y) → Q (.int m) H
theorem cr_minT (hc : X.calm = true) : CallR X (.builtin "min") (rMinT X.K) := by
  intro pins s σ H vs us Q I r h
  obtain ⟨a, ns, rfl, hs, ne, q⟩ := h
  obtain ⟨its, rv, ht, _⟩ := I.tuple hs
  rw [Vals.ref1 r]
  exact min_tupN (I.ok.hd hc) ht rv.ints ne fun h' tk m t' hk h1 h2 => ⟨.int m, H, I.kept hk, ⟨t', rfl⟩, q m h1 h2⟩
end
end Lp

namespace Lp
open PySem PySem.Spec PyProof.Rows L2
def φLen  (ds : List PyData) (Q : R → Prop) : Prop := match ds with
  | [d] => match PyData.its d with
    | some es => Q (.sh (.int es.length))
    | none => False
  | _ => False
abbrev rLen (K : PySem.W.Frag) : List V → Hp → VK → Prop := fun xs H Q => ∃ p ys, xs = [.ref p] ∧ (SqL K H p ys ∨ SqT K H p ys) ∧ Q (.int ys.length) H
theorem rc_len {K : PySem.W.Frag} : RCK (rLen K) φLen := by
  constructor
  · intro x A B hAB q
    unfold φLen at q ⊢
    split at q
    · split at q
      · exact hAB _ q
      · exact q.elim
    · exact q.elim
  · intro L H xs ds Q s hx q
    unfold φLen at q
    split at q
    · split at q
      · rename_i es he
        cases hx with
        | cons h1 h2 =>
          cases h2
          obtain ⟨a, ys, rfl, k1, k2⟩ := its_seq (K := K) h1 s he
          exact ⟨a, ys, rfl, k1, by rw [k2.len]; exact q _ L H (Ext.refl _ _ _) s (.int _)⟩
      · exact q.elim
    · exact q.elim
def φList  (ds : List PyData) (Q : R → Prop) : Prop := match ds with
  | [d] => match PyData.its d with
    | some es => Q (.nw es)
    | none => False
  | _ => False
abbrev rList (K : PySem.W.Frag) : List V → Hp → VK → Prop := fun xs H Q => ∃ p ys, xs = [.ref p] ∧ (SqL K H p ys ∨ SqT K H p ys) ∧ ∀ l, H l = none → Q (.ref l) (upd H l (.lst ys))
theorem rc_list {K : PySem.W.Frag} : RCK (rList K) φList := by
  constructor
  · intro x A B hAB q
    unfold φList at q ⊢
    split at q
    · split at q
      · exact hAB _ q
      · exact q.elim
    · exact q.elim
  · intro L H xs ds Q s hx q
    unfold φList at q
    split at q
    · split at q
      · rename_i es he
        cases hx with
        | cons h1 h2 =>
          cases h2
          obtain ⟨a, ys, rfl, k1, k2⟩ := its_seq (K := K) h1 s he
          exact ⟨a, ys, rfl, k1, fun p np => q _ L _ (Ext.own np) (same_own s (s.free np)) ⟨p, _, rfl, np, s.free np, upd_same, k2⟩⟩
      · exact q.elim
    · exact q.elim
def φTuple  (ds : List PyData) (Q : R → Prop) : Prop := match ds with
  | [d] => match PyData.its d with
    | some es => Q (.sh (.tuple es))
    | none => False
  | _ => False
theorem rc_tuple {K : PySem.W.Frag} : RCK (rTuple K) φTuple := by
  constructor
  · intro x A B hAB q
    unfold φTuple at q ⊢
    split at q
    · split at q
      · exact hAB _ q
      · exact q.elim
    · exact q.elim
  · intro L H xs ds Q s hx q
    unfold φTuple at q
    split at q
    · split at q
      · rename_i d _ es he
        cases hx with
        | cons h1 h2 =>
          cases h2
          cases d with
          | list es' =>
            cases he
            obtain ⟨a, ys, rfl, k1, k2⟩ := h1.lst s
            refine ⟨a, ys, rfl, .inl ⟨SqL.of k1, fun p o np no => ?_⟩⟩
            have e1 : Ext none L H (upd L p (.frz o (.tup ys))) (upd H p (.frz o (.tup ys))) := Ext.new s np
            exact q _ _ _ e1 (same_both s) (.tup ⟨o, no, upd_same⟩ (k2.to e1.ll))
          | tuple es' =>
            cases he
            obtain ⟨a, ys, rfl, k1, k2⟩ := h1.tup
            exact ⟨a, ys, rfl, .inr ⟨(k1.to s).seq, q _ L H (Ext.refl _ _ _) s (.tup k1 k2)⟩⟩
          | _ => cases he
      · exact q.elim
    · exact q.elim
def φAbs  (ds : List PyData) (Q : R → Prop) : Prop := match ds with
  | [.int i] => Q (.sh (.int (if i < 0 then -i else i)))
  | _ => False
def φInt  (ds : List PyData) (Q : R → Prop) : Prop := match ds with
  | [.int i] => Q (.sh (.int i))
  | [.bool b] => Q (.sh (.int (if b then 1 else 0)))
  | _ => False
def IsMin (ns : List Int) (m : Int) : Prop := m ∈ ns ∧ ∀ y ∈ ns, m ≤ y
def φMin  (ds : List PyData) (Q : R → Prop) : Prop := match ds with
  | [.int i, .int j] => Q (.sh (.int (if j < i then j else i)))
  | [d] => match (PyData.its d).bind intsD with
    | some ns => 0 < ns.length ∧ ∀ m, IsMin ns m → Q (.sh (.int m))
    | none => False
  | _ => False
abbrev rMinA (K : PySem.W.Frag) : List V → Hp → VK → Prop := fun xs H Q => (∃ i j, xs = [.int i, .int j] ∧ Q (.int (if j < i then j else i)) H) ∨ (rMin K xs H Q ∨ rMinT K xs H Q)
theorem cr_minA {X : Cx} (hc : X.calm = true) : CallR X (.builtin "min") (rMinA X.K) := cr_or (call_min2 hc) (cr_or (cr_min hc) (cr_minT hc))
theorem rc_min {K : PySem.W.Frag} : RCK (rMinA K) φMin := by
  constructor
  · intro x A B hAB q
    unfold φMin at q ⊢
    split at q
    · exact hAB _ q
    · split at q
      · exact ⟨q.1, fun m hm => hAB _ (q.2 m hm)⟩
      · exact q.elim
    · exact q.elim
  · intro L H xs ds Q s hx q
    unfold φMin at q
    split at q
    · cases hx with
      | cons h1 h2 =>
        cases h2 with
        | cons h2 h3 =>
          cases h3
          cases h1.int
          cases h2.int
          exact .inl ⟨_, _, rfl, q _ L H (Ext.refl _ _ _) s (.int _)⟩
    · rename_i d
      split at q
      · rename_i ns hn
        cases hx with
        | cons h1 h2 =>
          cases h2
          cases d with
          | list es =>
            obtain ⟨a, ys, rfl, k1, k2⟩ := h1.lst s
            rw [intsD_is (show intsD es = some ns from hn)] at k2
            cases ints_dvs k2
            exact .inr (.inl ⟨a, ns, rfl, SqL.of k1, q.1, fun m h1 h2 => q.2 m ⟨h1, h2⟩ _ L H (Ext.refl _ _ _) s (.int _)⟩)
          | tuple es =>
            obtain ⟨a, ys, rfl, k1, k2⟩ := h1.tup
            rw [intsD_is (show intsD es = some ns from hn)] at k2
            cases ints_dvs k2
            exact .inr (.inr ⟨a, ns, rfl, (k1.to s).seq, q.1, fun m h1 h2 => q.2 m ⟨h1, h2⟩ _ L H (Ext.refl _ _ _) s (.int _)⟩)
          | _ => cases hn
      · exact q.elim
    · exact q.elim
def φMax  (ds : List PyData) (Q : R → Prop) : Prop := match ds with
  | [.int i, .int j] => Q (.sh (.int (if j > i then j else i)))
  | _ => False
def φAll (any : Bool)  (ds : List PyData) (Q : R → Prop) : Prop := match ds with
  | [.list es] => match boolsD es with
    | some bs => Q (.sh (.bool (if any then bs.any id else bs.all id)))
    | none => False
  | _ => False
theorem rc_all {K : PySem.W.Frag} : RCK (rAll K) (φAll false) := by
  constructor
  · intro x A B hAB q
    unfold φAll at q ⊢
    split at q
    · split at q
      · exact hAB _ q
      · exact q.elim
    · exact q.elim
  · intro L H xs ds Q s hx q
    unfold φAll at q
    split at q
    · split at q
      · rename_i ns hn
        cases hx with
        | cons h1 h2 =>
          cases h2
          obtain ⟨a, ys, rfl, k1, k2⟩ := h1.lst s
          rw [boolsD_is hn] at k2
          cases bools_dvs k2
          exact ⟨a, ns, rfl, SqL.of k1, q _ L H (Ext.refl _ _ _) s (.bl _)⟩
      · exact q.elim
    · exact q.elim
/-- sorted(xs): ints, or tuples of ints -/
def φSorted  (ds : List PyData) (Q : R → Prop) : Prop := match ds with
  | [.list es] => match intsD es, tupsD es with
    | some ns, _ => ∀ ms : List Int, ms.Perm ns → ms.Pairwise (· ≤ ·) → Q (.nw (dI ms))
    | none, some nss => ∀ mss : List (List Int), mss.Perm nss → mss.Pairwise (fun x y => HT.lexLt y x = false) → Q (.nw (dT mss))
    | _, _ => False
  | _ => False
abbrev rSortA (K : PySem.W.Frag) : List V → Hp → VK → Prop := fun xs H Q => rSortedI K xs H Q ∨ rSortL K xs H Q
theorem cr_sortA {X : Cx} : CallR X (.builtin "sorted") (rSortA X.K) := cr_or cr_sortedI cr_sortL
theorem Ranked.asc {P : List (Addr × List Int)} (h : Ranked P) : (P.map (·.2)).Pairwise (fun x y => HT.lexLt y x = false) := List.pairwise_map.mpr h
/-- tuples of ints at addresses -/
theorem tups_refs {L : Hp} : ∀ {vs : List V} {nss : List (List Int)}, DVs L vs (dT nss) → ∃ P : List (Addr × List Int), vs = RL P ∧ P.map (·.2) = nss ∧ ∀ p ∈ P, Sol L p.1 (IL p.2)
  | _, [], .nil => ⟨[], rfl, rfl, fun _ h => nomatch h⟩
  | _, ns :: nss, .cons (.tup h1 h2) r => by
    obtain ⟨P, e1, e2, h⟩ := tups_refs r
    cases ints_dvs h2
    refine ⟨(_, ns) :: P, by rw [e1]; rfl, by rw [← e2]; rfl, fun p hp => ?_⟩
    rcases List.mem_cons.mp hp with rfl | hp
    · exact h1
    · exact h p hp
theorem refs_tups {L : Hp} : ∀ (P : List (Addr × List Int)), (∀ p ∈ P, Sol L p.1 (IL p.2)) → DVs L (RL P) (dT (P.map (·.2)))
  | [], _ => .nil
  | p :: P, h => .cons (.tup (h p List.mem_cons_self) (dvs_ints _)) (refs_tups P fun q hq => h q (List.mem_cons_of_mem _ hq))
theorem rc_sorted {K : PySem.W.Frag} : RCK (rSortA K) φSorted := by
  constructor
  · intro x A B hAB q
    unfold φSorted at q ⊢
    split at q
    · split at q
      · exact fun ms h1 h2 => hAB _ (q ms h1 h2)
      · exact fun ms h1 h2 => hAB _ (q ms h1 h2)
      · exact q.elim
    · exact q.elim
  · intro L H xs ds Q s hx q
    unfold φSorted at q
    split at q
    · cases hx with
      | cons h1 h2 =>
        cases h2
        obtain ⟨a, ys, rfl, k1, k2⟩ := h1.lst s
        split at q
        · rename_i ns hn
          rw [intsD_is hn] at k2
          cases ints_dvs k2
          exact .inl ⟨a, ns, rfl, SqL.of k1, fun ms p h1 h2 np => q ms h1 h2 _ L _ (Ext.own np) (same_own s (s.free np)) ⟨p, _, rfl, np, s.free np, upd_same, dvs_ints ms⟩⟩
        · rename_i nss _ hn
          obtain ⟨e, ne⟩ := tupsD_is hn
          rw [e] at k2
          obtain ⟨P, e1, e2, hP⟩ := tups_refs k2
          subst e1
          refine .inr ⟨a, P, rfl, SqL.of k1, fun p hp => ⟨((hP p hp).to s).seq, ne _ (by rw [← e2]; exact List.mem_map_of_mem hp)⟩, fun P' p pm rk np => ?_⟩
          refine q (P'.map (·.2)) (by rw [← e2]; exact pm.map _) rk.asc _ L _ (Ext.own np) (same_own s (s.free np)) ⟨p, _, rfl, np, s.free np, upd_same, refs_tups P' fun p hp => hP p (pm.mem_iff.mp hp)⟩
        · exact q.elim
    · exact q.elim
section
variable {w : Wx} {K : PySem.W.Frag} {te : TE} {f : DTE}
/-- RS: the items of nss, each once, ascending -/
def Asc (nss RS : List (List Int)) : Prop := RS.Nodup ∧ RS.Pairwise (fun x y => HT.lexLt y x = false) ∧ ∀ k, k ∈ RS ↔ k ∈ nss
/-- sorted(set(xs)), xs a list of tuples of ints -/
def dSortSet (f : DTE)  (ε : Env) (Q : R → Env → Prop) : Prop := f ε fun r ε1 => match r.dat with
  | some (.list ds) => match tupsD ds with
    | some nss => nss.length < 64 ∧ ∀ RS, Asc nss RS → Q (.nw (dT RS)) ε1
    | none => False
  | _ => False
def dListRg (f : DTE)  (ε : Env) (Q : R → Env → Prop) : Prop := f ε fun r ε1 => match r.dat with
  | some (.int n) => n ≤ 16777216 ∧ -(2 ^ 62) ≤ n ∧ Q (.nw (rgD 0 n.toNat)) ε1
  | _ => False
theorem dvs_rg {H : Hp} (n : Int) : DVs H (rgV 0 n) (rgD 0 n.toNat) := by
  unfold rgV rgD
  rw [Int.sub_zero]
  generalize List.range n.toNat = l
  induction l with
  | nil => exact .nil
  | cons x r ih => exact .cons (.int _) ih
theorem se_listRg (hf : SE w te f) : SE w (tLstRg (tRg1 te)) (dListRg f) := by
  constructor
  · intro ε A B h q
    refine hf.mono _ _ _ (fun r ε1 q => ?_) q
    split at q
    · exact ⟨q.1, q.2.1, h _ _ q.2.2⟩
    · exact q.elim
  · intro Z O σ ε L H Q X q
    refine hf.run Z O σ ε L H _ X (hf.mono _ _ _ (fun r ε1 q => ?_) q)
    intro v L1 H1 X1 e1 r1
    split at q
    · rename_i n hd
      refine ⟨n, (r1.vl hd).int, ⟨by decide, by decide, q.2.1, by omega, by omega⟩, fun p np => ?_⟩
      have ep : Ext none L1 H1 L1 (upd H1 p (.lst (rgV 0 n))) := Ext.own np
      exact q.2.2 _ L1 _ (X1.step ep (same_own X1.lh (X1.lh.free np))) (e1.trans ep.any) (VR.back (VR0.vr (r := .nw (rgD 0 n.toNat)) ⟨p, _, rfl, np, X1.lh.free np, upd_same, dvs_rg n⟩ X1) e1)
    · exact q.elim
end
section
variable {X : Cx}
def rIndexT (K : PySem.W.Frag) : V → List V → Hp → VK → Prop := fun x xs H Q => ∃ (a : Addr) (ys : List V) (y : V) (j : Nat) (z : V), x = V.ref a ∧ xs = [y] ∧ SqT K H a ys ∧ flatV y = true ∧ ys.all flatV = true ∧ ys[j]? = some z ∧ eqV z y = true ∧
  (∀ (m : Nat) (z' : V), m < j → ys[m]? = some z' → eqV z' y = false) ∧ Q (.int (j : Nat)) H
theorem mt_indexT : MtR X "tuple.index" (rIndexT X.K) := by
  rintro pins s σ H x xs v us Q J rx rxs ⟨a, ys, y, j, z, rfl, rfl, at_a, fy, fys, hz, hit, miss, q⟩
  cases rx
  obtain ⟨uy, rfl, ry⟩ := vals1 rxs
  obtain ⟨its, rv, pl, _⟩ := J.tuple at_a
  obtain ⟨⟨cls, dd, dt, sl⟩, look, isT, n, seq⟩ := pl
  simp only at isT seq
  subst isT
  subst seq
  have many : its.toArray.size = ys.length := by rw [List.size_toArray]; exact rv.length.symm
  have place : ∀ (m : Nat) (hm : m < its.toArray.size), ∃ z', ys[m]? = some z' ∧ eqU y its.toArray[m] = eqV z' y := fun m hm => by
    have hm' : m < ys.length := by rw [← many]; exact hm
    obtain ⟨u, hu, ru⟩ := rv.get (i := m) (x := ys[m]) (List.getElem?_eq_getElem hm')
    refine ⟨ys[m], List.getElem?_eq_getElem hm', ?_⟩
    have e : its.toArray[m] = u := by simpa using (List.getElem?_eq_some_iff.mp hu).2
    rw [e]
    exact eqU_of ru (flat_at fys (List.getElem?_eq_getElem hm'))
  have hj : j < its.toArray.size := by rw [many]; exact (List.getElem?_eq_some_iff.mp hz).1
  refine call_meets PySem.F.slot_tuple_index ⟨_, look, rfl⟩ PySem.F.entry_tuple_index (PySem.F.args_tuple_index_2 _ _) (TI.tuple_indexAt a its.toArray n dd sl uy (eqU y) j hj ?_ ?_)
    ⟨look, fun u hu => mem_eqAt ry fy rv fys u (by simpa using hu), ⟨.int (j : Nat), H, J.tok _, ⟨_, rfl⟩, q⟩⟩
  · obtain ⟨z', h1, h2⟩ := place j hj
    rw [hz] at h1
    cases h1
    rw [h2]; exact hit
  · intro m hm hmj
    obtain ⟨z', h1, h2⟩ := place m hm
    rw [h2]; exact miss m z' hmj h1
/-- a list, or a tuple without a dict -/
def tIndex (K : PySem.W.Frag) (to : TE) (t : TA) : TE := fun σ H Q => to σ H fun x H1 => (tyV K "list" x H1 ∧ t σ H1 fun xs H2 => rIndex K x xs H2 Q) ∨ ((∃ a ys, x = .ref a ∧ Sol H1 a ys) ∧ t σ H1 fun xs H2 => rIndexT K x xs H2 Q)
theorem pe_index {o e : Expr} {to : TE} {t : TA} {apos cpos : Pos} (ho : PE X o to) (ha : PA X [e] t)
    (hbase : attributeBase o "index" X.env (eval o X.env) = eval o X.env := by rfl)
    (hfew : ((backTo cpos (starEach [e] X.env)).all (fun x => !x.1) && (backToKw cpos (keywordEach [] X.env)).all (fun x => x.1.isSome) && decide ([e].length + ([] : List Keyword).length + (if ([] : List Keyword).isEmpty then 0 else 1) < 30)) = true := by rfl)
    (hline : (apos.endLine == cpos.line) = true := by rfl) (hs : starEach [e] X.env = (false, eval e X.env) :: starEach [] X.env := by rfl) (hplain : (backTo cpos (starEach [] X.env)).any (·.1) = false := by rfl) :
    PE X (.Call (.Attribute o "index" apos) [e] [] cpos) (tIndex X.K to t) := by
  constructor
  intro pins s σ H Q J want
  refine wpAny_Call_method_late hbase hfew hline rfl (thn (ho.run pins s σ H _ J want) ?_)
  rintro v s' ⟨x, H', J', rx, ways⟩
  have go : ∀ (id : String) (r : V → List V → Hp → VK → Prop), MtR X id r → (t σ H' fun xs H2 => r x xs H2 Q) → wpAny (model X.prog X.w) X.A (callWith cpos (.builtin id) [v] (backTo cpos (starEach [e] X.env)) []) (EP X pins σ Q) X.xe s' := by
    intro id r hm hq
    have hA := ha.run cpos pins s' σ H' _ J' hq
    rw [hs] at hA ⊢
    refine Calls.callWith_builtin (by show (false || (backTo cpos (starEach [] X.env)).any (·.1)) = false; rw [hplain]; rfl) (Calls.evalArgs_plain (thn hA ?_))
    rintro us s2 ⟨xs, H2, J2, rs, q2⟩
    exact hm pins s2 σ H2 x xs v us Q J2 rx rs q2
  rcases ways with ⟨ty, hq⟩ | ⟨⟨a, ys, rfl, o', nd, at_a⟩, hq⟩
  · obtain ⟨h1, h2⟩ := tyV_is J' rx ty
    exact ⟨"list", _, PySem.F.plainAttrs_list, PySem.F.slot_list_index, PySem.F.type_list_index, h1, h2, go _ _ mt_index hq⟩
  · cases rx
    have ok : ObjOk X.prog X.w H' s'.heap a (.frz o' (.tup ys)) := J'.hok a _ at_a
    obtain ⟨k1, k2, its, rv, k3⟩ := ok
    refine ⟨"tuple", _, PySem.F.plainAttrs_tuple, PySem.F.slot_tuple_index, PySem.F.type_tuple_index, k3.typeIs, fun b e => ?_, go _ _ mt_indexT hq⟩
    cases e
    exact ⟨o', k1, nd⟩
end
section
variable {w : Wx} {K : PySem.W.Frag} {ta te : TE} {f g : DTE}
/-- the first place of an int among ints -/
def dIndex (f g : DTE)  (ε : Env) (Q : R → Env → Prop) : Prop := f ε fun x ε1 => match x.dat.bind PyData.its with
  | some ds => g ε1 fun y ε2 => match y.dat, intsD ds with
    | some (.int k), some ns => k ∈ ns ∧ Q (.sh (.int (ns.idxOf k : Nat))) ε2
    | _, _ => False
  | none => False
theorem idx_get {ms : List Int} {z : Int} (h : z ∈ ms) : ms[ms.idxOf z]? = some z := by
  have hl := List.idxOf_lt_length_of_mem h
  rw [List.getElem?_eq_getElem hl, List.getElem_idxOf hl]
theorem idx_first : ∀ (ms : List Int) (z : Int) (j : Nat), j < ms.idxOf z → ms[j]? ≠ some z
  | [], z, j, h => by simp at h
  | x :: ms, z, j, h => by
    rw [List.idxOf_cons] at h
    by_cases q : x = z
    · subst q; simp at h
    · have qb : (x == z) = false := beq_eq_false_iff_ne.mpr q
      rw [qb] at h
      cases j with
      | zero => intro e; exact q (Option.some.inj e)
      | succ j =>
        intro e
        exact idx_first ms z j (by simp at h; omega) e
theorem flat_ints (ns : List Int) : (IL ns).all flatV = true := by
  rw [List.all_eq_true]
  intro x hx
  obtain ⟨z, _, rfl⟩ := List.mem_map.mp hx
  rfl
theorem eqV_int (a b : Int) : eqV (.int a) (.int b) = decide (a = b) := by
  simp [eqV]
  rfl
theorem se_index (hf : SE w ta f) (hg : SE w te g) : SE w (tIndex K ta (tCons te tNil)) (dIndex f g) := by
  constructor
  · intro ε A B h q
    refine hf.mono _ _ _ (fun x ε1 q => ?_) q
    split at q
    · refine hg.mono _ _ _ (fun y ε2 q => ?_) q
      split at q
      · exact ⟨q.1, h _ _ q.2⟩
      · exact q.elim
    · exact q.elim
  · intro Z O σ ε L H Q X q
    refine hf.run Z O σ ε L H _ X (hf.mono _ _ _ (fun x ε1 q => ?_) q)
    intro v L1 H1 X1 e1 r1
    have miss : ∀ (ns : List Int) (k : Int) (m : Nat) (z' : V), m < ns.idxOf k → (IL ns)[m]? = some z' → eqV z' (.int k) = false := by
      intro ns k m z' hm hz
      rw [List.getElem?_map] at hz
      cases hn : ns[m]? with
      | none => rw [hn] at hz; cases hz
      | some n =>
        rw [hn] at hz
        cases hz
        rw [eqV_int]
        exact decide_eq_false fun e => idx_first ns k m hm (by rw [hn, e])
    split at q
    · rename_i ds hds
      cases hx : x.dat with
      | none => rw [hx] at hds; cases hds
      | some d =>
        rw [hx] at hds
        cases d with
        | list es =>
          cases hds
          obtain ⟨a, ys, rfl, k1, k2⟩ := (r1.vl hx).lst X1.lh
          refine .inl ⟨.inl ⟨rfl, _, SqL.of k1⟩, hg.run Z O σ ε1 L1 H1 _ X1 (hg.mono _ _ _ (fun y ε2 q => ?_) q)⟩
          intro u L2 H2 X2 e2 r2
          split at q
          · rename_i k ns hk hn
            cases (r2.vl hk).int
            obtain ⟨_, _, ea, k3, k4⟩ := ((r1.mono X1 e2).vl hx).lst X2.lh
            cases ea
            rw [intsD_is hn] at k4
            cases ints_dvs k4
            exact ⟨a, _, .int k, ns.idxOf k, .int k, rfl, rfl, SqL.of k3, rfl, flat_ints ns, IL_get (idx_get q.1), by rw [eqV_int, decide_eq_true rfl], miss ns k, q.2 _ L2 H2 X2 (e1.trans e2) (.int _)⟩
          · exact q.elim
        | tuple es =>
          cases hds
          obtain ⟨a, ys, rfl, k1, k2⟩ := (r1.vl hx).tup
          refine .inr ⟨⟨a, ys, rfl, k1.to X1.lh⟩, hg.run Z O σ ε1 L1 H1 _ X1 (hg.mono _ _ _ (fun y ε2 q => ?_) q)⟩
          intro u L2 H2 X2 e2 r2
          split at q
          · rename_i k ns hk hn
            cases (r2.vl hk).int
            rw [intsD_is hn] at k2
            cases ints_dvs k2
            exact ⟨a, _, .int k, ns.idxOf k, .int k, rfl, rfl, ((k1.to e2.ll).to X2.lh).seq, rfl, flat_ints ns, IL_get (idx_get q.1), by rw [eqV_int, decide_eq_true rfl], miss ns k, q.2 _ L2 H2 X2 (e1.trans e2) (.int _)⟩
          · exact q.elim
        | _ => cases hds
    · exact q.elim
end
end Lp

namespace Lp
open PySem PySem.Spec PyProof.Rows L2
section
variable {w : Wx} {K : PySem.W.Frag} {ta te : TE} {f g : DTE}
def enD (ds : List PyData) : List PyData := ds.mapIdx fun i d => .tuple [.int (i : Nat), d]
theorem enD_len (ds : List PyData) : (enD ds).length = ds.length := by unfold enD; rw [List.length_mapIdx]
theorem enD_get {ds : List PyData} {i : Nat} {e : PyData} (h : (enD ds)[i]? = some e) : ∃ d, ds[i]? = some d ∧ e = .tuple [.int (i : Nat), d] := by
  unfold enD at h
  rw [List.getElem?_mapIdx] at h
  cases q : ds[i]? with
  | none => rw [q] at h; cases h
  | some d => rw [q] at h; cases h; exact ⟨d, rfl, rfl⟩
theorem walkS_enum {L : Hp} {a : Addr} {xs : List V} {ds : List PyData} (h : L a = some (.lst xs)) (r : DVs L xs ds) : WalkS true L (Ite K a) (enD ds) := by
  have hl := r.len
  refine ⟨fun i L' H' s1 s2 hi => ?_, fun L' H' s1 s2 => ?_, fun i d L' H' x H2 s1 s2 hd y => ?_⟩
  · rw [enD_len] at hi
    exact ⟨xs, xs[i]'(by omega), SqL.of (s2 _ _ (s1 _ _ h)), List.getElem?_eq_getElem (by omega)⟩
  · rw [enD_len]
    exact ⟨xs, SqL.of (s2 _ _ (s1 _ _ h)), by omega⟩
  · obtain ⟨T, z, rfl, nT, rfl, y2⟩ := y
    have hx := y2 xs (SqL.of (s2 _ _ (s1 _ _ h)))
    obtain ⟨d', hd', rfl⟩ := enD_get hd
    obtain ⟨v, h1, h2⟩ := r.get hd'
    rw [hx] at h1
    cases h1
    exact ⟨L', Ext.own nT, same_own s2 (s2.free nT), .inr ⟨T, _, _, rfl, rfl, upd_same, .cons (.int _) (.cons (h2.to s1) .nil)⟩⟩
def dEnum (f : DTA)  (ε : Env) (Q : List PyData → Bool → Env → Prop) : Prop := f ε fun rs ε1 => match rs with
  | [.sh (.list ds)] => Q (enD ds) true ε1
  | _ => False
def zipDs (xs ys : List PyData) : List PyData := List.zipWith (fun a b => .tuple [a, b]) xs ys
theorem zipDs_len (xs ys : List PyData) : (zipDs xs ys).length = min xs.length ys.length := by unfold zipDs; rw [List.length_zipWith]
theorem zipDs_get {xs ys : List PyData} {i : Nat} {e : PyData} (h : (zipDs xs ys)[i]? = some e) : ∃ a b, xs[i]? = some a ∧ ys[i]? = some b ∧ e = .tuple [a, b] := by
  unfold zipDs at h
  rw [List.getElem?_zipWith] at h
  cases q : xs[i]? with
  | none => rw [q] at h; cases h
  | some a =>
    rw [q] at h
    cases q2 : ys[i]? with
    | none => rw [q2] at h; cases h
    | some b => rw [q2] at h; cases h; exact ⟨a, b, rfl, rfl, rfl⟩
theorem walkS_zipL {L : Hp} {a b : Addr} {xs ys : List V} {ds es : List PyData} (h : L a = some (.lst xs)) (k : L b = some (.lst ys)) (r : DVs L xs ds) (q : DVs L ys es) : WalkS true L (Itz K a b) (zipDs ds es) := by
  have hl := r.len
  have kl := q.len
  refine ⟨fun i L' H' s1 s2 hi => ?_, fun L' H' s1 s2 => ?_, fun i d L' H' x H2 s1 s2 hd y => ?_⟩
  · rw [zipDs_len] at hi
    exact ⟨xs, ys, xs[i]'(by omega), ys[i]'(by omega), SqL.of (s2 _ _ (s1 _ _ h)), SqL.of (s2 _ _ (s1 _ _ k)), List.getElem?_eq_getElem (by omega), List.getElem?_eq_getElem (by omega)⟩
  · rw [zipDs_len]
    exact ⟨xs, ys, SqL.of (s2 _ _ (s1 _ _ h)), SqL.of (s2 _ _ (s1 _ _ k)), by omega⟩
  · obtain ⟨T, z, z', rfl, nT, rfl, y2, y3⟩ := y
    have hx := y2 xs (SqL.of (s2 _ _ (s1 _ _ h)))
    have hy := y3 ys (SqL.of (s2 _ _ (s1 _ _ k)))
    obtain ⟨d', e', hd', he', rfl⟩ := zipDs_get hd
    obtain ⟨v, h1, h2⟩ := r.get hd'
    obtain ⟨u, k1, k2⟩ := q.get he'
    rw [hx] at h1
    rw [hy] at k1
    cases h1
    cases k1
    exact ⟨L', Ext.own nT, same_own s2 (s2.free nT), .inr ⟨T, _, _, rfl, rfl, upd_same, .cons (h2.to s1) (.cons (k2.to s1) .nil)⟩⟩
theorem walkS_zipT {L : Hp} {a b : Addr} {xs ys : List V} {ds es : List PyData} (h : Sol L a xs) (k : Sol L b ys) (r : DVs L xs ds) (q : DVs L ys es) : WalkS true L (RZ.ItzT K a b) (zipDs ds es) := by
  have hl := r.len
  have kl := q.len
  refine ⟨fun i L' H' s1 s2 hi => ?_, fun L' H' s1 s2 => ?_, fun i d L' H' x H2 s1 s2 hd y => ?_⟩
  · rw [zipDs_len] at hi
    exact ⟨xs, ys, xs[i]'(by omega), ys[i]'(by omega), ((h.to s1).to s2).seq, ((k.to s1).to s2).seq, List.getElem?_eq_getElem (by omega), List.getElem?_eq_getElem (by omega)⟩
  · rw [zipDs_len]
    exact ⟨xs, ys, ((h.to s1).to s2).seq, ((k.to s1).to s2).seq, by omega⟩
  · obtain ⟨T, z, z', rfl, nT, rfl, y2, y3⟩ := y
    have hx := y2 xs ((h.to s1).to s2).seq
    have hy := y3 ys ((k.to s1).to s2).seq
    obtain ⟨d', e', hd', he', rfl⟩ := zipDs_get hd
    obtain ⟨v, h1, h2⟩ := r.get hd'
    obtain ⟨u, k1, k2⟩ := q.get he'
    rw [hx] at h1
    rw [hy] at k1
    cases h1
    cases k1
    exact ⟨L', Ext.own nT, same_own s2 (s2.free nT), .inr ⟨T, _, _, rfl, rfl, upd_same, .cons (h2.to s1) (.cons (k2.to s1) .nil)⟩⟩
def dZip (f : DTA)  (ε : Env) (Q : List PyData → Bool → Env → Prop) : Prop := f ε fun rs ε1 => match rs with
  | [.sh (.list xs), .sh (.list ys)] => Q (zipDs xs ys) true ε1
  | [.sh (.tuple xs), .sh (.tuple ys)] => Q (zipDs xs ys) true ε1
  | _ => False
theorem si_zip {n : Nat} {t : TA} {f : DTA} (hf : SA w n t f) : SI w true (RZ.iZipA K t) (dZip f) := by
  constructor
  · intro ε A B h q
    refine hf.mono _ _ _ (fun r ε1 q => ?_) q
    split at q
    · exact h _ _ _ q
    · exact h _ _ _ q
    · exact q.elim
  · intro Z O σ ε L H R X q
    refine hf.run Z O σ ε L H _ X (hf.mono _ _ _ (fun r ε1 q => ?_) q)
    intro vs L1 H1 X1 e1 r1 hl np
    split at q
    · rename_i xs ys
      cases r1 with
      | cons r1 r2 =>
        cases r2 with
        | cons r2 r3 =>
          cases r3
          cases (show DV L1 _ (.list xs) from r1) with
          | lst h1 h2 =>
            cases (show DV L1 _ (.list ys) from r2) with
            | lst k1 k2 =>
              have W := walkS_zipL (K := K) h1 k1 h2 k2
              exact ⟨_, _, _, _, rfl, .inl ⟨SqL.of (X1.lh _ _ h1), SqL.of (X1.lh _ _ k1), q _ L1 H1 X1 e1 W.e fun _ => W⟩⟩
    · rename_i xs ys
      cases r1 with
      | cons r1 r2 =>
        cases r2 with
        | cons r2 r3 =>
          cases r3
          cases (show DV L1 _ (.tuple xs) from r1) with
          | tup h1 h2 =>
            cases (show DV L1 _ (.tuple ys) from r2) with
            | tup k1 k2 =>
              have W := walkS_zipT (K := K) h1 k1 h2 k2
              exact ⟨_, _, _, _, rfl, .inr ⟨(h1.to X1.lh).seq, (k1.to X1.lh).seq, q _ L1 H1 X1 e1 W.e fun _ => W⟩⟩
    · exact q.elim
def scD (γ : DTG) (f : DTE) (vs : List Nat) (s : List SV) (Q : R → Env → Prop) : List PyData → List (List Int) → Nat → Prop
  | [], acc, n => ∀ RS, Asc acc RS → Q (.nw (dT RS)) ⟨s, n⟩
  | d :: ds, acc, n => γ d ⟨wipeE ⟨s, n⟩ vs, n⟩ fun ε1 => f ε1 fun r ε3 => match r with
      | .sh (.tuple es) => match intsD es with
        | some (x :: ns) => acc.length + 1 < 64 ∧ scD γ f vs s Q ds (acc ++ [x :: ns]) ε3.c
        | _ => False
      | _ => False
def dSortSc (i : DTI) (γ : DTG) (f : DTE) (vs : List Nat)  (ε : Env) (Q : R → Env → Prop) : Prop := i ε fun ds _ ε1 => scD γ f vs ε1.s Q ds [] ε1.c
theorem scD_mono {pk : Bool} {g : TG} {γ : DTG} {js vs : List Nat} {s : List SV} {A B : R → Env → Prop} (hg : SG w pk js g γ) (hf : SE w te f) (h : ∀ r ε, A r ε → B r ε) : ∀ (ds : List PyData) (acc : List (List Int)) (n : Nat), scD γ f vs s A ds acc n → scD γ f vs s B ds acc n
  | [], acc, n, z => fun RS hR => h _ _ (z RS hR)
  | d :: ds, acc, n, z => by
    refine hg.mono _ _ _ _ (fun ε1 z => hf.mono _ _ _ (fun r ε3 z => ?_) z) z
    split at z
    · split at z
      · exact ⟨z.1, scD_mono hg hf h ds _ _ z.2⟩
      · exact z.elim
    · exact z.elim
/-- an object of one's own that no slot holds changes -/
theorem Rep.side {Z : Zx} {O : Addr → Prop} {σ : L2.St} {ε : Env} {L H : Hp} {D : Addr} {o : HO} (x : Rep w Z O L H σ ε) (lD : L D = none) (n0 : Z.H0 D = none) (nO : ¬ O D) : Rep w Z O L (upd H D o) σ ε := by
  refine ⟨same_own x.lh lD, x.pn, ⟨x.ex.ll, fun a o h nb => ?_, fun a h => ?_, x.ex.fr⟩, fun b hb => ?_, fun a h => ⟨?_, (x.oh a h).2⟩, x.len, fun i y hy => ?_, x.di, x.ph⟩
  · rw [upd_ne (ne_of_none h n0)]; exact x.ex.hh a o h nb
  · by_cases q : a = D
    · rw [q, upd_same]; exact (fun z => nomatch z)
    · rw [upd_ne q]; exact x.ex.dom a h
  · obtain ⟨q1, q2, q3⟩ := x.bo b hb
    exact ⟨q1, q2.keep (upd_ne (ne_at q3 n0)), q3⟩
  · rw [upd_ne (fun q => nO (by rw [← q]; exact h))]; exact (x.oh a h).1
  · obtain ⟨o, q1, q2⟩ := x.sl i y hy
    refine ⟨o, q1, ?_⟩
    cases y with
    | ow ds =>
      obtain ⟨a, ys, g1, g2, g3, g4, g5, g6⟩ := q2
      exact ⟨a, ys, g1, g2, g3, g4, by rw [upd_ne (fun q => nO (by rw [← q]; exact g2))]; exact g5, g6⟩
    | st S n =>
      obtain ⟨a, g1, g2, g3, g4, g5⟩ := q2
      exact ⟨a, g1, g2, g3, g4, by rw [upd_ne (fun q => nO (by rw [← q]; exact g2))]; exact g5⟩
    | dco xs =>
      obtain ⟨a, g1, g2, g3, g4, ⟨ob, g5⟩, g6⟩ := q2
      exact ⟨a, g1, g2, g3, g4, ⟨ob, by rw [upd_ne (fun q => nO (by rw [← q]; exact g2))]; exact g5⟩, g6⟩
    | sto M =>
      obtain ⟨a, A, g1, g2, g3, g4, g5, g6⟩ := q2
      exact ⟨a, A, g1, g2, g3, g4, by rw [upd_ne (fun q => nO (by rw [← q]; exact g2))]; exact g5, g6⟩
    | _ => exact q2
theorem Ext.side {b : Option Addr} {L H L' H' : Hp} {D : Addr} {o : HO} (e : Ext b L H L' H') (nD : H D = none) : Ext b L H L' (upd H' D o) := by
  refine ⟨e.ll, fun a u h nb => ?_, fun a h => ?_, e.fr⟩
  · rw [upd_ne (ne_of_none h nD)]; exact e.hh a u h nb
  · by_cases q : a = D
    · rw [q, upd_same]; exact (fun z => nomatch z)
    · rw [upd_ne q]; exact e.dom a h
theorem se_sortSc {P : Program} {pk : Bool} {wi : TI} {i : DTI} {g : TG} {γ : DTG} {vs : List Nat} (hi : SI w pk wi i) (hg : SG w pk vs g γ) (hf : SE w te f) : SE w (tCB (rSortS K P w) (tCons (tScT K P w wi g te vs) tNil)) (dSortSc i γ f vs) := by
  constructor
  · intro ε A B h z
    exact hi.mono _ _ _ (fun ds b ε1 z => scD_mono hg hf h ds [] _ z) z
  · intro Z O σ ε L H Q X z
    refine hi.run Z O σ ε L H _ X (hi.mono _ _ _ (fun ds b ε1 z => ?_) z)
    intro J L1 H1 X1 e1 W _ D nD
    have eD : Ext none L1 H1 L1 (upd H1 D (SetTO P w D [])) := Ext.own nD
    have X1' := X1.step eD (same_own X1.lh (X1.lh.free nD))
    have n0 : Z.H0 D = none := X1.ex.free nD
    have nO : ¬ O D := fun o => (X1.oh D o).1 nD
    have bD : Z.b ≠ some D := X1.nob n0
    refine ⟨fun k m H2 => k + m = ds.length ∧ ∃ L2 n acc M, Rep w Z O L2 H2 σ ⟨ε1.s, n⟩ ∧ Ext Z.b L1 H1 L2 H2 ∧ H2 D = some (SetTO P w D M) ∧ (∀ p ∈ M, Sol L2 p.1 (IL p.2) ∧ p.2 ≠ []) ∧ M.length ≤ acc.length ∧ (∀ x, x ∈ M.map (·.2) ↔ x ∈ acc) ∧ L2 D = none ∧ scD γ f vs ε1.s (fun r ε' => ∀ v L' H', Rep w Z O L' H' σ ε' → Ext Z.b L H L' H' → VR w Z O σ H L' H' v r → Q v H') (ds.drop k) acc n,
      ⟨ds.length, by omega, L1, ε1.c, [], [], X1', eD.any, upd_same, (fun p h => nomatch h), Nat.le_refl _, fun x => Iff.rfl, X1.lh.free nD, by rw [List.drop_zero]; exact z⟩, ?_⟩
    rintro k m H2 ⟨hkm, L2, n, acc, M, X2, e2, hD, rM, lM, mem, lD, z2⟩
    by_cases hlt : k < ds.length
    · refine .inr ⟨W.go k L2 H2 e2 X2.lh hlt, fun H' => ∃ L2 n acc M, Rep w Z O L2 H' σ ⟨ε1.s, n⟩ ∧ Ext Z.b L1 H1 L2 H' ∧ H' D = some (SetTO P w D M) ∧ (∀ p ∈ M, Sol L2 p.1 (IL p.2) ∧ p.2 ≠ []) ∧ M.length ≤ acc.length ∧ (∀ x, x ∈ M.map (·.2) ↔ x ∈ acc) ∧ L2 D = none ∧ scD γ f vs ε1.s (fun r ε' => ∀ v L' H', Rep w Z O L' H' σ ε' → Ext Z.b L H L' H' → VR w Z O σ H L' H' v r → Q v H') (ds.drop (k + 1)) acc n,
        fun H' q => ⟨m - 1, by omega, by omega, q⟩, fun x H' y => ?_⟩
      have hd : ds[k]? = some ds[k] := List.getElem?_eq_getElem hlt
      rw [List.drop_eq_getElem_cons hlt] at z2
      obtain ⟨L3, e3, s3, r3⟩ := W.yld k ds[k] L2 H2 x H' e2 X2.lh hd y
      have X3 := X2.step e3 s3
      have hD3 := e3.hh D _ hD (fun z => nomatch z)
      have lD3 : L3 D = none := e3.fr D lD (by rw [hD]; exact (fun z => nomatch z))
      refine hg.run Z O _ _ L3 H' x ds[k] _ (X3.wipe vs) r3 (hg.mono _ _ _ _ (fun ε3 z3 σ3 X4 b3 => ⟨wipe_but b3, ?_⟩) z2)
      refine hf.run Z O σ3 ε3 L3 H' _ X4 (hf.mono _ _ _ (fun r ε6 z6 => ?_) z3)
      intro v L6 H6 X6 e6 r6
      split at z6
      · rename_i es
        split at z6
        · rename_i x0 ns hn
          rw [intsD_is hn] at r6
          cases (show DV L6 v (.tuple (dI (x0 :: ns))) from r6) with
          | tup h1 h2 =>
            cases ints_dvs h2
            rename_i b
            have hD6 := e6.hh D _ hD3 bD
            have lD6 : L6 D = none := e6.fr D lD3 (by rw [hD3]; exact (fun z => nomatch z))
            have et := (e3.any (b := Z.b)).trans e6
            have X8 : Rep w Z O L6 H6 σ ⟨ε1.s, ε6.c⟩ := X2.exts et X6.lh fun b hb => (X6.bo b hb).2.1
            have rM6 : ∀ p ∈ M, Sol L6 p.1 (IL p.2) ∧ p.2 ≠ [] := fun p hp => ⟨(rM p hp).1.to et.ll, (rM p hp).2⟩
            refine ⟨b, x0 :: ns, M, rfl, (h1.to X6.lh).seq, hD6, fun p hp => ((rM6 p hp).1.to X6.lh).seq, by omega, fun M' c1 c2 => ?_⟩
            refine ⟨L6, ε6.c, acc ++ [x0 :: ns], M', X8.side lD6 n0 nO, (e2.trans et).side nD, upd_same, ?_, ?_, ?_, lD6, z6.2⟩
            all_goals by_cases c : (x0 :: ns) ∈ M.map (·.2)
            · rw [c1 c]; exact rM6
            · intro p hp
              rcases List.mem_cons.mp ((c2 c).mem_iff.mp hp) with rfl | hp
              · exact ⟨h1, fun z => nomatch z⟩
              · exact rM6 p hp
            · rw [c1 c, List.length_append]; exact Nat.le_trans lM (Nat.le_add_right _ _)
            · rw [(c2 c).length_eq, List.length_append]
              exact Nat.succ_le_succ lM
            · intro y
              rw [c1 c, mem y, List.mem_append, List.mem_singleton]
              exact ⟨.inl, fun h => h.elim id fun e => by rw [e]; exact (mem _).mp c⟩
            · intro y
              rw [((c2 c).map (·.2)).mem_iff, List.map_cons, List.mem_cons, mem y, List.mem_append, List.mem_singleton]
              exact ⟨fun h => h.elim .inr .inl, fun h => h.elim .inr .inl⟩
        · exact z6.elim
      · exact z6.elim
    · have e : k = ds.length := by omega
      subst e
      rw [List.drop_length] at z2
      refine .inl ⟨W.stop L2 H2 e2 X2.lh, D, M, rfl, hD, fun p hp => ⟨((rM p hp).1.to X2.lh).seq, (rM p hp).2⟩, fun M' c pm rk nd nc => ?_⟩
      have ec : Ext none L2 H2 L2 (upd H2 c (.lst (RL M'))) := Ext.own nc
      have X3 := X2.step ec (same_own X2.lh (X2.lh.free nc))
      have et := e1.trans e2
      refine z2 (M'.map (·.2)) ⟨nd, rk.asc, fun x => ?_⟩ _ L2 _ X3 (et.trans ec.any) (VR.back (VR0.vr (r := .nw (dT (M'.map (·.2)))) ⟨c, _, rfl, nc, X2.lh.free nc, upd_same, refs_tups M' fun p hp => (rM p (pm.mem_iff.mp hp)).1⟩ X2) et)
      rw [(pm.map (·.2)).mem_iff]; exact mem x
end
section
variable {w : Wx} {K : PySem.W.Frag} {te : TE} {f : DTE}
def tyD : PyData → String
  | .none => "NoneType"
  | .bool _ => "bool"
  | .int _ => "int"
  | .str _ => "str"
  | .list _ => "list"
  | .tuple _ => "tuple"
  | .dict _ => "dict"
/-- what a value is, dicts with keys that are tuples, too -/
def TyY (K : PySem.W.Frag) (H : Hp) (x : V) (t : Value) : Prop := TyX K H x t ∨ (t = .type "dict" ∧ ∃ a xs, x = .ref a ∧ IsDct H a xs)
theorem kit_ofY {X : Cx} {pins : List (Addr × Obj)} {σ : L2.St} {H : Hp} {s : Shared} {x : V} {u t : Value} (I : Inv X pins σ H s) (rx : RelV x u) (ty : TyY X.K H x t) : ∃ P : Heap → Prop, PySem.W.KitX X.K u t P ∧ P s.heap ∧ u ≠ .builtin "__main__.__loader__#opaque" := by
  rcases ty with ty | ⟨rfl, a, xs, rfl, ob, x1⟩
  · exact kit_of I rx ty
  · cases (show u = Value.ref a from rx)
    obtain ⟨_, _, _, ys, _, o, es, ep, ho, hx, _⟩ := (I.hok a _ x1).1.2
    exact ⟨_, PySem.W.kitx_dict, ⟨o, ho, hx.1⟩, fun z => nomatch z⟩
def rIsiY (K : PySem.W.Frag) : List V → Hp → VK → Prop := fun xs H Q => ∃ (x c : V) (t u : Value) (b : Bool), xs = [x, c] ∧ ClsV c u ∧ TyY K H x t ∧ PySem.W.kitOne K t u = some b ∧ Q (.bl b) H
def rIsiTY (K : PySem.W.Frag) : List V → Hp → VK → Prop := fun xs H Q => ∃ (x : V) (tp : Addr) (cs : List V) (t : Value) (us : List Value) (b : Bool), xs = [x, .ref tp] ∧ H tp = some (.tup cs) ∧ Paired ClsV cs us ∧ TyY K H x t ∧ PySem.W.kitAny K t us = some b ∧ Q (.bl b) H
theorem call_isiY {X : Cx} : CallR X (.builtin "isinstance") (rIsiY X.K) := by
  intro pins s σ H xs us Q I r h
  obtain ⟨x, c, t, u, b, rfl, k, ty, e, q⟩ := h
  obtain ⟨u1, u2, rfl, r1, r2⟩ := vals2 r
  have e2 := k.eq r2
  subst e2
  obtain ⟨P, Z, p, hx⟩ := kit_ofY I r1 ty
  exact PySem.W.kia_one Z I.kIn p e hx fun tk => ⟨.bl b, H, I.tok tk, rfl, q⟩
theorem call_isiTY {X : Cx} : CallR X (.builtin "isinstance") (rIsiTY X.K) := by
  intro pins s σ H xs us Q I r h
  obtain ⟨x, tp, cs, t, ws, b, rfl, hT, k, ty, e, q⟩ := h
  obtain ⟨u1, u2, rfl, r1, r2⟩ := vals2 r
  cases (show u2 = Value.ref tp from r2)
  obtain ⟨P, Z, p, hx⟩ := kit_ofY I r1 ty
  obtain ⟨_, its, rv, o, h1, h2, n, h3⟩ := (show ObjOk X.prog X.w H s.heap tp (.tup cs) from I.hok tp _ hT)
  have e3 := ClsV.all k rv
  subst e3
  obtain ⟨oc, od, dt, sl⟩ := o
  simp only at h2 h3
  subst h2 h3
  exact PySem.W.kia_tup Z I.kIn p h1 e hx fun tk => ⟨.bl b, H, I.tok tk, rfl, q⟩
theorem tyX_of {L H : Hp} {v : V} {d : PyData} (h : VL L H v d) (s : Same L H) : TyY K H v (.type (tyD d)) := by
  cases d with
  | none => rw [h.non]; exact .inl (.base .non)
  | bool b => rw [h.bl]; exact .inl (.base (.bl _))
  | int i => rw [h.int]; exact .inl (.base (.int _))
  | str x => rw [h.str]; exact .inl (.base (.str _))
  | list ds =>
    obtain ⟨a, xs, rfl, h1, _⟩ := h.lst s
    exact .inl (.base (.lst h1))
  | tuple ds =>
    obtain ⟨a, xs, rfl, h1, _⟩ := h.tup
    obtain ⟨o, _, e⟩ := h1.to s
    exact .inl (.fTuple e)
  | dict _ =>
    rcases h with h | ⟨a, xs, es, e, _⟩
    · cases h with
      | dct e _ _ => exact .inr ⟨rfl, _, _, rfl, e.to s⟩
      | dci e _ _ _ => exact .inl (.fDict (s _ _ e))
    · cases e
/-- is a value of type a one of type b -/
def isaT (a b : String) : Bool := a == b || (a == "bool" && b == "int")
def TyIn (T : String) : Prop := T = "int" ∨ T = "bool" ∨ T = "str" ∨ T = "list" ∨ T = "tuple"
theorem kit_all : ∀ a ∈ ["NoneType", "bool", "int", "str", "list", "tuple", "dict"], ∀ b ∈ ["int", "bool", "str", "list", "tuple"], kitB a b = some (isaT a b) := by decide +kernel
theorem kit_tyD {T : String} (hT : TyIn T) (d : PyData) : kitB (tyD d) T = some (isaT (tyD d) T) := by
  refine kit_all _ ?_ _ ?_
  · cases d <;> simp [tyD]
  · rcases hT with rfl | rfl | rfl | rfl | rfl <;> simp
def dIsi (T : String) (f : DTE)  (ε : Env) (Q : R → Env → Prop) : Prop := f ε fun r ε1 => match r.dat with
  | some d => Q (.sh (.bool (isaT (tyD d) T))) ε1
  | none => False
theorem se_isi {T : String} (hT : TyIn T) (hf : SE w te f) : SE w (tCB (rIsiY K) (tCons te (tCons (tC (.ty T)) tNil))) (dIsi T f) := by
  constructor
  · intro ε A B h q
    refine hf.mono _ _ _ (fun r ε1 q => ?_) q
    split at q
    · exact h _ _ q
    · exact q.elim
  · intro Z O σ ε L H Q X q
    refine hf.run Z O σ ε L H _ X (hf.mono _ _ _ (fun r ε1 q => ?_) q)
    intro v L1 H1 X1 e1 r1
    split at q
    · rename_i d hd
      exact ⟨v, .ty T, .type (tyD d), .type T, _, rfl, .ty T, tyX_of (r1.vl hd) X1.lh, kit_ty (kit_tyD hT d), q _ L1 H1 X1 e1 (.bl _)⟩
    · exact q.elim
/-- isinstance(x, (list, tuple)) -/
def dIsi2 (T T' : String) (f : DTE)  (ε : Env) (Q : R → Env → Prop) : Prop := f ε fun r ε1 => match r.dat with
  | some d => Q (.sh (.bool (isaT (tyD d) T || isaT (tyD d) T'))) ε1
  | none => False
theorem se_isi2 {T T' : String} (hT : TyIn T) (hT' : TyIn T') (hf : SE w te f) : SE w (tCB (rIsiTY K) (tCons te (tCons (tTup (tCons (tC (.ty T)) (tCons (tC (.ty T')) tNil))) tNil))) (dIsi2 T T' f) := by
  constructor
  · intro ε A B h q
    refine hf.mono _ _ _ (fun r ε1 q => ?_) q
    split at q
    · exact h _ _ q
    · exact q.elim
  · intro Z O σ ε L H Q X q
    refine hf.run Z O σ ε L H _ X (hf.mono _ _ _ (fun r ε1 q => ?_) q)
    intro v L1 H1 X1 e1 r1
    split at q
    · rename_i d hd
      refine ⟨by show 2 ≤ sizeLine; decide, fun p np => ?_⟩
      have e2 : Ext none L1 H1 L1 (upd H1 p (.tup [.ty T, .ty T'])) := Ext.own np
      have X2 := X1.step e2 (same_own X1.lh (X1.lh.free np))
      refine ⟨v, p, _, .type (tyD d), [.type T, .type T'], _, rfl, upd_same, .cons (.ty T) (.cons (.ty T') .nil), tyX_of ((r1.mono X1 e2.any).vl hd) X2.lh, ?_, q _ L1 _ X2 (e1.trans e2.any) (.bl _)⟩
      refine kitAny_cons (kit_ty (kit_tyD hT d)) (fun h => ?_) (fun h => by rw [h]; rfl)
      refine kitAny_cons (kit_ty (kit_tyD hT' d)) (fun h' => ?_) (fun h' => by rw [h', Bool.or_true])
      rw [h, h']; rfl
    · exact q.elim
end
end Lp

namespace Lp
open PySem PySem.Spec PyProof.Rows L2
/-- the module's names that are the built-ins' -/
structure Bi (mg : Str → Option Value) : Prop where
  len : mg "len" = none
  list : mg "list" = none
  tuple : mg "tuple" = none
  range : mg "range" = none
  enumerate : mg "enumerate" = none
  all : mg "all" = none
  isinstance : mg "isinstance" = none
  zip : mg "zip" = none
  abs : mg "abs" = none
  int : mg "int" = none
  str : mg "str" = none
  bool : mg "bool" = none
  repr : mg "repr" = none
  set : mg "set" = none
  min : mg "min" = none
  max : mg "max" = none
  sorted : mg "sorted" = none
  sum : mg "sum" = none
  any : mg "any" = none
def φIsB  (x y : PyData) (Q : R → Prop) : Prop := match x, y with
  | .bool a, .bool b => Q (.sh (.bool (decide (a = b))))
  | _, _ => False
def dNotT (f : DTE)  (ε : Env) (Q : R → Env → Prop) : Prop := f ε fun r ε1 => match r.dat.bind truD with
  | some k => Q (.sh (.bool (!k))) ε1
  | _ => False
section
variable {X : Cx} {K : PySem.W.Frag}
theorem ixK (e : X.K = K) : IxR X (rIx K) := e ▸ ix_seq
theorem slK (e : X.K = K) : SlR X (rSlB K) := e ▸ sl_both
theorem addK (e : X.K = K) : OpR X (binaryOp .Add) (rAdd K) := e ▸ op_addA
theorem eqK (e : X.K = K) (hu : X.A.units + 64 < cLine) : OpR X (compareOp .Eq) (rEqA K) := e ▸ op_eqA hu
theorem neK (e : X.K = K) (hu : X.A.units + 64 < cLine) : OpR X (compareOp .NotEq) (rNeA K) := e ▸ op_neA hu
theorem inK (e : X.K = K) (hu : X.A.units + 65 < cLine) : OpR X (compareOp .In) (rInA K) := e ▸ op_inA hu
theorem notInK (e : X.K = K) (hu : X.A.units + 65 < cLine) : OpR X (compareOp .NotIn) (rNotInA K) := e ▸ op_notInA hu
theorem lenK (e : X.K = K) : CallR X (.builtin "len") (rLen K) := e ▸ call_len_seq
theorem listK (e : X.K = K) : CallR X (.type "list") (rList K) := e ▸ call_list_of
theorem tupleK (e : X.K = K) : CallR X (.type "tuple") (rTuple K) := e ▸ call_tupleS
theorem minK (e : X.K = K) (hc : X.calm = true) : CallR X (.builtin "min") (rMinA K) := e ▸ cr_minA hc
theorem allK (e : X.K = K) (hc : X.calm = true) : CallR X (.builtin "all") (rAll K) := e ▸ cr_all hc
theorem sortK (e : X.K = K) : CallR X (.builtin "sorted") (rSortA K) := e ▸ cr_sortA
theorem sortSK {P : Program} {w : World} (e : X.K = K) (eP : X.prog = P) (ew : X.w = w) (hc : X.calm = true) : CallR X (.builtin "sorted") (rSortS K P w) := by
  subst e eP ew
  exact cr_sortS hc
theorem seqK {tg o : Expr} {to : TE} (e : X.K = K) (ho : PE X o to) : PI X tg o (iSeq K to) := e ▸ pi_seq ho
theorem indexK {o e : Expr} {to : TE} {t : TA} {apos cpos : Pos} (h : X.K = K) (x : PE X (.Call (.Attribute o "index" apos) [e] [] cpos) (tIndex X.K to t)) : PE X (.Call (.Attribute o "index" apos) [e] [] cpos) (tIndex K to t) := h ▸ x
theorem gtupK {es : List Expr} {k : Nat} {t : TGs} {n : Nat} {pos : Pos} (e : X.K = K) (h : PG X (.Tuple es k pos) (gTup X.K n t)) : PG X (.Tuple es k pos) (gTup K n t) := e ▸ h
theorem isiK (e : X.K = K) : CallR X (.builtin "isinstance") (rIsiY K) := e ▸ call_isiY
theorem isiTK (e : X.K = K) : CallR X (.builtin "isinstance") (rIsiTY K) := e ▸ call_isiTY
theorem scTK {P : Program} {w : World} {e : Expr} {wi : TI} {g : TG} {te : TE} {vs : List Nat} (h : X.K = K) (eP : X.prog = P) (ew : X.w = w) (x : PE X e (tScT X.K X.prog X.w wi g te vs)) : PE X e (tScT K P w wi g te vs) := by
  subst h eP ew
  exact x
theorem zipA {ta : TA} {p pos tpos : Pos} {elts : List Expr} {kk : Nat} {a a' : Expr} (e : X.K = K) (hg : Gl X "zip") (hm : X.mg "zip" = none) (ha : PA X [a, a'] ta) (hs : starEach [a, a'] X.env = (false, eval a X.env) :: starEach [a'] X.env := by rfl) (hpl : (backTo pos (starEach [a'] X.env)).any (·.1) = false := by rfl) : PI X (.Tuple elts kk tpos) (.Call (.Name "zip" p) [a, a'] [] pos) (RZ.iZipA K ta) := e ▸ RZ.pi_zipA hg hm ha hs hpl
theorem ipR {op : Operator} {r : R2} (h : OpR X (inplaceOp op) r) : PIp X op r := h
theorem hu65 {k : Nat} {A : Around} (hr : Room k A) : A.units + 65 < cLine := by have := hr.un; omega
theorem bmK {e : Expr} {T : String} {r : V → List V → Hp → VK → Prop} {to : TE} {t : TA} (h : X.K = K) (x : PE X e (tBM X.K T r to t)) : PE X e (tBM K T r to t) := h ▸ x
theorem set0K {w : World} (e : X.w = w) : CallR X (.type "set") (rSet0 w) := e ▸ cr_set0
theorem saddK {w : World} {e : Expr} {to : TE} {t : TA} (h : X.w = w) (x : PE X e (tSAdd X.w to t)) : PE X e (tSAdd w to t) := h ▸ x
theorem snotinK {w : World} (e : X.w = w) : OpR X (compareOp .NotIn) (rSNotIn w) := e ▸ or_snotin
end
/-- a def that may be called -/
structure Cal (P : Program) (w : World) (K : PySem.W.Frag) (mg : Str → Option Value) (base : Heap) (x : Str) (k : Nat) (ps : List Str) (sp : Sp) (f : Addr) (fd : FuncData) : Prop where
  ok : FnOk P w K mg base CX0 k f fd ps sp
  g : mg x = some (.ref f)
  kp : PySem.W.keepIn K (.ref f) = true
  bd : Binds K fd ps []
def KbR (fd : FuncData) (ps : List Str) : Prop := ∀ (s : Shared) (ws : List Value), ws.length = ps.length → BindsTo s fd ⟨[], ps.reverse.zip ws⟩ (ps.zip ws.reverse)
theorem Fun.kbr {K : PySem.W.Frag} {x qual : Str} {st : Stmt} {f : Addr} {fd : FuncData} {ps : List Str} (F : Fun K x qual st f fd)
    (h : ∀ (kV doc pm : Value) (an : Option Addr) (cdv ct : Value) (ws : List Value), ws.length = ps.length → bindArgs (PySem.W.fnOf x qual (defArgs st) (defBody st) (defScope st) .none kV doc pm an cdv ct) ⟨[], ps.reverse.zip ws⟩ = pure (ps.zip ws.reverse)) : KbR fd ps := by
  obtain ⟨oc, od, kV, doc, pm, an, cdv, ct, osl, rfl, lk, hcd⟩ := F.ex
  exact fun s ws hl => .of_eq (h kV doc pm an cdv ct ws hl)
theorem inV_ints (z : Int) : ∀ ns : List Int, inV (.int z) (IL ns) = decide (z ∈ ns)
  | [] => by simp [inV]
  | x :: r => by
    have ih := inV_ints z r
    unfold inV at ih ⊢
    show (eqV (.int x) (.int z) || (IL r).any fun y => eqV y (V.int z)) = _
    rw [ih]
    simp only [eqV]
    by_cases h : x = z
    · subst h; simp
    · have h2 : ¬ z = x := fun e => h e.symm
      simp [h, h2]
section
variable {P : Program} {w : World} {K : PySem.W.Frag} {mg : Str → Option Value} {base : Heap}
end
def Dx (K : PySem.W.Frag) (x : Str) (st : Stmt) : Prop := ∃ (f : Addr) (oc : Value) (od an : Option Addr) (sl : Array (Option Value)) (kV dc pm cd ct : Value), PySem.W.nsIn K mainGlobals x = some (some (.ref f)) ∧
  K.lookup f = some ⟨oc, od, .func (PySem.W.fnOf x x (defArgs st) (defBody st) (defScope st) .none kV dc pm an cd ct), sl⟩ ∧ PySem.W.codeIn K cd x = true ∧ PySem.W.keepIn K (.ref f) = true
theorem dx_mk {K : PySem.W.Frag} {x : Str} {st : Stmt} {f : Addr} {oc : Value} {od an : Option Addr} {sl : Array (Option Value)} {kV dc pm cd ct : Value} (a : PySem.W.nsIn K mainGlobals x = some (some (.ref f)))
    (l : K.lookup f = some ⟨oc, od, .func (PySem.W.fnOf x x (defArgs st) (defBody st) (defScope st) .none kV dc pm an cd ct), sl⟩) (c : PySem.W.codeIn K cd x = true) (k : PySem.W.keepIn K (.ref f) = true) : Dx K x st := ⟨f, oc, od, an, sl, kV, dc, pm, cd, ct, a, l, c, k⟩
theorem Dx.fn {K : PySem.W.Frag} {x : Str} {st : Stmt} {h : Heap} {mg : Str → Option Value} (d : Dx K x st) (X : K.In h) (G : h.Ns mainGlobals mg) : ∃ f fd, Fun K x x st f fd ∧ mg x = some (.ref f) := by
  obtain ⟨f, oc, od, an, sl, kV, dc, pm, cd, ct, a, l, c, k⟩ := d
  exact ⟨f, _, fun_mk l c k, PySem.W.mg_of X G a⟩
structure Zs (K : PySem.W.Frag) : Prop where
  len : PySem.W.nsIn K mainGlobals "len" = some none
  list : PySem.W.nsIn K mainGlobals "list" = some none
  tuple : PySem.W.nsIn K mainGlobals "tuple" = some none
  range : PySem.W.nsIn K mainGlobals "range" = some none
  enumerate : PySem.W.nsIn K mainGlobals "enumerate" = some none
  all : PySem.W.nsIn K mainGlobals "all" = some none
  isinstance : PySem.W.nsIn K mainGlobals "isinstance" = some none
  zip : PySem.W.nsIn K mainGlobals "zip" = some none
  abs : PySem.W.nsIn K mainGlobals "abs" = some none
  int : PySem.W.nsIn K mainGlobals "int" = some none
  str : PySem.W.nsIn K mainGlobals "str" = some none
  bool : PySem.W.nsIn K mainGlobals "bool" = some none
  repr : PySem.W.nsIn K mainGlobals "repr" = some none
  set : PySem.W.nsIn K mainGlobals "set" = some none
  min : PySem.W.nsIn K mainGlobals "min" = some none
  max : PySem.W.nsIn K mainGlobals "max" = some none
  sorted : PySem.W.nsIn K mainGlobals "sorted" = some none
  sum : PySem.W.nsIn K mainGlobals "sum" = some none
  any : PySem.W.nsIn K mainGlobals "any" = some none
theorem Zs.bi {K : PySem.W.Frag} {h : Heap} {mg : Str → Option Value} (z : Zs K) (X : K.In h) (G : h.Ns mainGlobals mg) : Bi mg := by
  constructor
  · exact PySem.W.mg_none_of X G z.len
  · exact PySem.W.mg_none_of X G z.list
  · exact PySem.W.mg_none_of X G z.tuple
  · exact PySem.W.mg_none_of X G z.range
  · exact PySem.W.mg_none_of X G z.enumerate
  · exact PySem.W.mg_none_of X G z.all
  · exact PySem.W.mg_none_of X G z.isinstance
  · exact PySem.W.mg_none_of X G z.zip
  · exact PySem.W.mg_none_of X G z.abs
  · exact PySem.W.mg_none_of X G z.int
  · exact PySem.W.mg_none_of X G z.str
  · exact PySem.W.mg_none_of X G z.bool
  · exact PySem.W.mg_none_of X G z.repr
  · exact PySem.W.mg_none_of X G z.set
  · exact PySem.W.mg_none_of X G z.min
  · exact PySem.W.mg_none_of X G z.max
  · exact PySem.W.mg_none_of X G z.sorted
  · exact PySem.W.mg_none_of X G z.sum
  · exact PySem.W.mg_none_of X G z.any
abbrev FnT (x : Str) (st : Stmt) (kV doc pm : Value) (an : Option Addr) (cdv ct : Value) : FuncData := PySem.W.fnOf x x (defArgs st) (defBody st) (defScope st) .none kV doc pm an cdv ct
section
variable {K : PySem.W.Frag} {x : Str} {st : Stmt} {f : Addr} {fd : FuncData} {p p' p'' : Str} (F : Fun K x x st f fd)
include F
theorem b1 (h : ∀ kV doc pm an cdv ct u, bindArgs (FnT x st kV doc pm an cdv ct) ⟨[u], []⟩ = pure [(p, u)]) : Binds K fd [p] [] :=
  F.binds fun kV doc pm an cdv ct us hl => match us, hl with | [u], _ => h kV doc pm an cdv ct u
theorem b2 (h : ∀ kV doc pm an cdv ct u v, bindArgs (FnT x st kV doc pm an cdv ct) ⟨[u, v], []⟩ = pure [(p, u), (p', v)]) : Binds K fd [p, p'] [] :=
  F.binds fun kV doc pm an cdv ct us hl => match us, hl with | [u, v], _ => h kV doc pm an cdv ct u v
theorem b3 (h : ∀ kV doc pm an cdv ct u v t, bindArgs (FnT x st kV doc pm an cdv ct) ⟨[u, v, t], []⟩ = pure [(p, u), (p', v), (p'', t)]) : Binds K fd [p, p', p''] [] :=
  F.binds fun kV doc pm an cdv ct us hl => match us, hl with | [u, v, t], _ => h kV doc pm an cdv ct u v t
theorem r1 (h : ∀ kV doc pm an cdv ct u, bindArgs (FnT x st kV doc pm an cdv ct) ⟨[], [(p, u)]⟩ = pure [(p, u)]) : KbR fd [p] :=
  Fun.kbr F fun kV doc pm an cdv ct us hl => match us, hl with | [u], _ => h kV doc pm an cdv ct u
theorem r2 (h : ∀ kV doc pm an cdv ct u v, bindArgs (FnT x st kV doc pm an cdv ct) ⟨[], [(p', u), (p, v)]⟩ = pure [(p, v), (p', u)]) : KbR fd [p, p'] :=
  Fun.kbr F fun kV doc pm an cdv ct us hl => match us, hl with | [u, v], _ => h kV doc pm an cdv ct u v
theorem r3 (h : ∀ kV doc pm an cdv ct u v t, bindArgs (FnT x st kV doc pm an cdv ct) ⟨[], [(p'', u), (p', v), (p, t)]⟩ = pure [(p, t), (p', v), (p'', u)]) : KbR fd [p, p', p''] :=
  Fun.kbr F fun kV doc pm an cdv ct us hl => match us, hl with | [u, v, t], _ => h kV doc pm an cdv ct u v t
end
theorem Cal.up {P : Program} {w : World} {K : PySem.W.Frag} {mg : Str → Option Value} {base : Heap} {x : Str} {j k : Nat} {ps : List Str} {sp : Sp} {f : Addr} {fd : FuncData} (c : Cal P w K mg base x j ps sp f fd) (h : j ≤ k) : Cal P w K mg base x k ps sp f fd := ⟨c.ok.mono h, c.g, c.kp, c.bd⟩
end Lp

namespace Lp
open PySem PySem.Spec PyProof.Rows L2
section
variable {P : Program} {w : World} {K : PySem.W.Frag} {mg : Str → Option Value} {base : Heap}
end
theorem lay_ints : ∀ ns : List Int, PyData.canLayAll0 (dI ns) = true
  | [] => by simp [PyData.canLayAll0]
  | x :: r => by
    have := lay_ints r
    simp only [List.map_cons, PyData.canLayAll0, PyData.canLay0, this, Bool.and_self]
theorem depth_ints : ∀ ns : List Int, PyData.depthAll (dI ns) = 0
  | [] => by simp [PyData.depthAll]
  | x :: r => by
    have := depth_ints r
    simp only [List.map_cons, PyData.depthAll, PyData.depth, this]
    rfl
theorem shL (ns : List Int) : SeqAt.shaped (.list (dI ns)) = true := by
  unfold SeqAt.shaped
  simp only [PyData.canLay0, PyData.depth, lay_ints, depth_ints]
  decide
theorem shT (ns : List Int) : SeqAt.shaped (.tuple (dI ns)) = true := by
  unfold SeqAt.shaped
  simp only [PyData.canLay0, PyData.depth, lay_ints, depth_ints]
  decide
theorem eqv_ints : ∀ a b : List Int, PyData.eqvAll (dI a) (dI b) = decide (a = b)
  | [], [] => by simp [PyData.eqvAll]
  | [], _ :: _ => by simp [PyData.eqvAll]
  | _ :: _, [] => by simp [PyData.eqvAll]
  | x :: r, y :: t => by
    have ih := eqv_ints r t
    simp only [List.map_cons, PyData.eqvAll, PyData.eqv, ih]
    by_cases h : x = y
    · subst h
      by_cases h2 : r = t
      · subst h2; simp
      · simp [h2]
    · simp [h]
theorem eqvL (a b : List Int) : PyData.eqv (.list (dI a)) (.list (dI b)) = decide (a = b) := by
  simp only [PyData.eqv]; exact eqv_ints a b
theorem eqvT (a b : List Int) : PyData.eqv (.tuple (dI a)) (.tuple (dI b)) = decide (a = b) := by
  simp only [PyData.eqv]; exact eqv_ints a b
end Lp

namespace Lp
open PySem PySem.Spec PyProof.Rows L2
abbrev tupIt (t : Addr) : Obj := { cls := .type "tuple_iterator", data := .fields #[.ref t, .int 0 0] }
abbrev enumOf (it : Addr) : Obj := { cls := .type "enumerate", data := .fields #[.none, .bool false, .ref it, rawInt 0, .none, .none] }
theorem meets_enT (t : Addr) (its : Array Value) : Meets (Builtin.«enumerate.__new__» ⟨[.type "enumerate", .ref t], []⟩) (fun _ R s => s.heap.IsTuple t its ∧
    R (.ok (.ret (.ref (s.heap.push (tupIt t)).objs.size))) { s with heap := (s.heap.push (tupIt t)).push (enumOf s.heap.objs.size) }) :=
  .of_wp fun prog w A R s h => by
    obtain ⟨hp, g, d, tk, os⟩ := s
    obtain ⟨ht, h⟩ := h
    have sub := sub_enumerate
    have goIt : ∀ {A' : Around} {X : Value → Shared → Prop} {Q : Value → Shared → Prop}, Q (.ref hp.objs.size) ⟨hp.push (tupIt t), g, d, tk, os⟩ → wpAny (model prog w) A' (pyIter (.ref t)) Q X ⟨hp, g, d, tk, os⟩ :=
      fun q => wpAny_pyIter_tuple ht q
    wp_walk using goIt
    refine wpAny_stack_any fun st => wpAny_pure ?_
    split
    · rename_i c _ _ _ _ _
      cases (c == Value.type "enumerate") <;> (wp_walk using goIt; exact ⟨_, rfl, h⟩)
    · wp_walk using goIt
      exact ⟨_, rfl, h⟩
theorem call_enT {prog : Program} {w : World} {A : Around} {X : Value → Shared → Prop} {s : Shared} {t : Addr} {its : Array Value} {Q : Value → Shared → Prop} (ht : s.heap.IsTuple t its)
    (h : ∀ h', IsEnum h' (s.heap.objs.size + 1) s.heap.objs.size 0 .none → h'.IsTupleIter s.heap.objs.size t 0 → (∀ b o, s.heap.get? b = some o → h'.get? b = some o) → Q (.ref (s.heap.objs.size + 1)) { s with heap := h' }) :
    wpAny (model prog w) A (call (.type "enumerate") [.ref t]) Q X s := by
  refine callType_new F.called_enumerate (by decide) (F.typeCall_enumerate_1 _) (F.newCall_enumerate_1 _) (fun obj => F.args_object_init_2 obj _) F.entry_enumerate_new (meets_enT t its) ⟨ht, ?_⟩
  have z1 : (s.heap.push (tupIt t)).objs.size = s.heap.objs.size + 1 := Heap.size_push ..
  show _ ∧ _
  rw [z1]
  have made : IsEnum ((s.heap.push (tupIt t)).push (enumOf s.heap.objs.size)) (s.heap.objs.size + 1) s.heap.objs.size 0 .none := by
    have y := Heap.get?_push_size (s.heap.push (tupIt t)) (o := enumOf s.heap.objs.size) rfl
    rw [z1] at y
    exact y
  exact ⟨⟨_, made, rfl⟩, h _ made ⟨_, Heap.get?_push_of_some _ (Heap.get?_push_size _ rfl), rfl, rfl⟩ fun b o x => Heap.get?_push_of_some _ (Heap.get?_push_of_some _ x)⟩
/-- the tuple at a, each item in a new pair -/
def IteT (K : PySem.W.Frag) (a : Addr) : It :=
  ⟨fun i H => ∃ (xs : List V) (x : V), SqT K H a xs ∧ xs[i]? = some x, fun i H v H' => ∃ T x, v = .ref T ∧ H T = none ∧ H' = upd H T (.tup [.int (i : Nat), x]) ∧ ∀ xs, SqT K H a xs → xs[i]? = some x, fun i H => ∃ xs : List V, SqT K H a xs ∧ xs.length ≤ i⟩
theorem apartT {h : Heap} {a e it : Addr} {its : Array Value} {k : Int} {old : Value} {i : Nat} (p : h.IsTuple a its) (he : IsEnum h e it k old) (hit : h.IsTupleIter it a i) : a ≠ it ∧ e ∉ [it, a] ∨ e = it := by
  obtain ⟨o, ho, hc, _⟩ := p
  obtain ⟨o2, h2, c2, _⟩ := hit
  have n1 : a ≠ it := fun z => by
    rw [z, h2] at ho
    cases ho
    rw [hc] at c2
    injection c2 with c3
    exact absurd c3 (by decide)
  have n2 : e ≠ a := fun z => by
    have he2 : h.get? e = some _ := he
    rw [z, ho] at he2
    have := congrArg (fun x => (Option.map Obj.cls x)) he2
    simp only [Option.map_some, Option.some.injEq] at this
    rw [hc] at this
    injection this with c3
    exact absurd c3 (by decide)
  by_cases q : e = it
  · exact .inr q
  · exact .inl ⟨n1, by simp [q, n2]⟩
theorem turn_enT {P : Program} {w : World} {K : PySem.W.Frag} {elts : List Expr} {kk : Nat} {tpos : Pos} (a e it : Addr) :
    Turn P w K (.Tuple elts kk tpos) (IteT K a) [e, it] e (fun i h => (∃ old, IsEnum h e it ((i : Nat) : Int) old) ∧ h.IsTupleIter it a i ∧ e ≠ it) where
  mem := by simp
  obj := fun i h st b hb => by
    obtain ⟨⟨old, he⟩, ⟨o, ho, hc, hd⟩, _⟩ := st
    rcases (show b = e ∨ b = it by simpa using hb) with z | z
    · subst z; exact ⟨_, he, fun v q => nomatch q⟩
    · subst z; exact ⟨o, ho, fun v q => by rw [hd] at q; cases q⟩
  keep := fun i h h' st k => by
    obtain ⟨⟨old, he⟩, hi, ne⟩ := st
    exact ⟨⟨old, k e (by simp) _ he⟩, hi.at fun o q => k it (by simp) o q, ne⟩
  item := by
    intro X hP hw hK hc i pins s σ H E I hf st hg
    subst hP hw hK
    obtain ⟨⟨old, he⟩, hit, ne⟩ := st
    obtain ⟨xs, x, hq, hx⟩ := hg
    obtain ⟨its, rv, p, few⟩ := I.tuple hq
    obtain ⟨u, hu, ru⟩ := rv.get hx
    have el : e < s.heap.objs.size := Heap.lt_size he
    have il : it < s.heap.objs.size := by obtain ⟨_, q, _⟩ := hit; exact Heap.lt_size q
    obtain ⟨n1, n2⟩ := (apartT p he hit).resolve_right ne
    have iu : i < its.toArray.size := by
      have := (List.getElem?_eq_some_iff.mp hu).1
      simpa using this
    refine wpAny_pyNext_enum_itemD (Draws.tuple (A := X.A.in1) (I.ok.hd hc) it a n1 its.toArray) he ⟨hit, p⟩ iu ne n2 fun y h' tk hy ho st' hT hsz hk => ?_
    have yu : y = u := by
      have hy2 : its.toArray[i]? = some y := hy
      rw [List.getElem?_toArray, hu] at hy2
      exact (Option.some.inj hy2).symm
    subst yu
    refine ⟨_, rfl, wpAny_letOwnedTupleGo_enum (s := { s with heap := h', toks := tk + 1 }) ho fun h2 he2 sb => ?_⟩
    have hT2 : h2.get? s.heap.objs.size = some { cls := .type "tuple", data := .seq #[.int i tk, y] } := (sb.2 _ (Nat.ne_of_gt el)).trans hT
    have pair : ObjOk X.prog X.w (upd H s.heap.objs.size (.tup [.int (i : Nat), x])) h2 s.heap.objs.size (.tup [.int (i : Nat), x]) :=
      ⟨by show 2 ≤ sizeLine; decide, [.int i tk, y], .cons ⟨_, rfl⟩ (.cons ru .nil), ⟨_, hT2, rfl, _, rfl⟩⟩
    have J : Inv X pins σ (upd H s.heap.objs.size (.tup [.int (i : Nat), x])) { s with heap := h2, toks := tk + 1 } :=
      I.turnedNew (ch := [e, it]) (fun b ob hb q => (sb.2 b (fun z => hb (by simp [z]))).trans (hk b ob (fun z => hb (by simp [z])) (fun z => hb (by simp [z])) q)) hf (Nat.le_refl _) pair
    refine ⟨.ref s.heap.objs.size, _, J, rfl, ⟨_, x, rfl, I.hok.fresh (Nat.le_refl _), rfl, fun ys hy => by rw [I.tuple_inj hy hq]; exact hx⟩, ⟨⟨y, ?_⟩, st'.1.at fun o q => (sb.2 it (Ne.symm ne)).trans q, ne⟩, fun b hb => ?_⟩
    · rw [show ((i + 1 : Nat) : Int) = (i : Int) + 1 by omega]; exact he2
    · have bl : b < s.heap.objs.size := by
        rcases (show b = e ∨ b = it by simpa using hb) with z | z
        · subst z; exact el
        · subst z; exact il
      rw [upd_ne (Nat.ne_of_lt bl)]
      exact (hf b hb).1
  done := by
    intro X hP hw hK hc i pins s σ H E I hf st hg
    subst hP hw hK
    obtain ⟨⟨old, he⟩, hit, ne⟩ := st
    obtain ⟨xs, hq, hx⟩ := hg
    obtain ⟨its, rv, p, few⟩ := I.tuple hq
    obtain ⟨n1, n2⟩ := (apartT p he hit).resolve_right ne
    obtain ⟨f0, f1, f2, f3, f4, f5⟩ := hf it (by simp)
    have hl := rv.length
    have hT : s.TypeIs (.ref e) "enumerate" := ⟨_, he, rfl⟩
    unfold pyNext
    refine wpAny_bind (wpAny_attempt (wpAny_callSpecial?_slot (name := Str.ofString "__next__") hT F.slot_enumerate_next
      (wpAny_call_entry F.slot_enumerate_next hT F.entry_enumerate_next ?_ (F.args_enumerate_next_1 _))))
    show wpAny _ _ (field (.ref e) 2 >>= _) _ _ _
    refine wpAny_bind (wpAny_field he rfl (x := .ref it) rfl ?_)
    refine wpAny_bind (wpAny_nextOf_tuple_end (A := X.A.in1) (I.ok.hd hc) hit p (by simp; omega) fun h' x eb hx' => ?_)
    obtain ⟨o, ho, hc'⟩ := hx'
    refine wpAny_bind (wpAny_isInstance (T := "StopIteration") (b := true) ⟨o, ho, hc'⟩ isSubtype_stop ?_)
    exact wpAny_pure ⟨rfl, I.turned (t' := s.toks) (fun b o hb q => eb b o hb q) f0 f1 f3 f4 f5⟩
  self := fun A i s Q E st h => by
    obtain ⟨⟨_, he⟩, _⟩ := st
    exact wpAny_pyIter_enum he h
/-- enumerate(e): a list or a tuple -/
def iEnA (K : PySem.W.Frag) (ta : TA) : TI := fun σ H R => ta σ H fun vs H1 => ∃ a xs, vs = [.ref a] ∧ ((SqL K H1 a xs ∧ R (Ite K a) H1) ∨ (SqT K H1 a xs ∧ R (IteT K a) H1))
theorem pi_enA {X : Cx} {e : Expr} {ta : TA} {p pos tpos : Pos} {elts : List Expr} {kk : Nat} (hg : Gl X "enumerate") (hm : X.mg "enumerate" = none) (ha : PA X [e] ta) (hs : starEach [e] X.env = [(false, eval e X.env)] := by rfl) :
    PI X (.Tuple elts kk tpos) (.Call (.Name "enumerate" p) [e] [] pos) (iEnA X.K ta) := by
  refine ⟨fun pins s σ H R I h => ?_⟩
  refine Call_ (ld_blt I hg hm boot_enumerate (PyProof.Rows.callWith_type1 (thn (ha.run pos pins s σ H _ I h) fun us s1 ⟨vs, H1, I1, r1, q1⟩ => ?_) hs rfl))
  obtain ⟨a, xs, rfl, ways⟩ := q1
  cases r1 with
  | cons r rr =>
    cases rr
    cases r
    have fresh : ∀ b, b ∈ [s1.heap.objs.size + 1, s1.heap.objs.size] → s1.heap.objs.size ≤ b := fun b hb => by
      rcases (show b = s1.heap.objs.size + 1 ∨ b = s1.heap.objs.size by simpa using hb) with z | z <;> omega
    rcases ways with ⟨hq, q⟩ | ⟨hq, q⟩
    · obtain ⟨its, rv, pl, few⟩ := I1.list hq
      refine call_enumerate_list pl.isList fun h' he hit hsz hk => wpAny_pyIter_enum he ?_
      exact ⟨s1.heap.objs.size + 1, _, _, _, H1, rfl, I1.kept (t' := s1.toks) hk, turn_enum a (s1.heap.objs.size + 1) s1.heap.objs.size, ⟨⟨.none, he⟩, hit, Nat.succ_ne_self _⟩, fun b hb => I1.fpOk (fresh b hb) (I1.hok.fresh (fresh b hb)), q⟩
    · obtain ⟨its, rv, pt, few⟩ := I1.tuple hq
      refine call_enT pt fun h' he hit hk => wpAny_pyIter_enum he ?_
      exact ⟨s1.heap.objs.size + 1, _, _, _, H1, rfl, I1.kept (t' := s1.toks) hk, turn_enT a (s1.heap.objs.size + 1) s1.heap.objs.size, ⟨⟨.none, he⟩, hit, Nat.succ_ne_self _⟩, fun b hb => I1.fpOk (fresh b hb) (I1.hok.fresh (fresh b hb)), q⟩
section
variable {w : Wx} {K : PySem.W.Frag} {ta te : TE} {f g : DTE}
theorem enumA2 {X : Cx} {ta : TA} {p pos tpos : Pos} {elts : List Expr} {kk : Nat} {a : Expr} (e : X.K = K) (hg : Gl X "enumerate") (hm : X.mg "enumerate" = none) (ha : PA X [a] ta) (hs : starEach [a] X.env = [(false, eval a X.env)] := by rfl) : PI X (.Tuple elts kk tpos) (.Call (.Name "enumerate" p) [a] [] pos) (iEnA K ta) := e ▸ pi_enA hg hm ha hs
theorem walkS_enumT {L : Hp} {a : Addr} {xs : List V} {ds : List PyData} (h : Sol L a xs) (r : DVs L xs ds) : WalkS true L (IteT K a) (enD ds) := by
  have hl := r.len
  refine ⟨fun i L' H' s1 s2 hi => ?_, fun L' H' s1 s2 => ?_, fun i d L' H' x H2 s1 s2 hd y => ?_⟩
  · rw [enD_len] at hi
    exact ⟨xs, xs[i]'(by omega), ((h.to s1).to s2).seq, List.getElem?_eq_getElem (by omega)⟩
  · rw [enD_len]
    exact ⟨xs, ((h.to s1).to s2).seq, by omega⟩
  · obtain ⟨T, z, rfl, nT, rfl, y2⟩ := y
    have hx := y2 xs ((h.to s1).to s2).seq
    obtain ⟨d', hd', rfl⟩ := enD_get hd
    obtain ⟨v, h1, h2⟩ := r.get hd'
    rw [hx] at h1
    cases h1
    exact ⟨L', Ext.own nT, same_own s2 (s2.free nT), .inr ⟨T, _, _, rfl, rfl, upd_same, .cons (.int _) (.cons (h2.to s1) .nil)⟩⟩
def dEnA (f : DTA) (ε : Env) (Q : List PyData → Bool → Env → Prop) : Prop := f ε fun rs ε1 => match rs with
  | [.sh (.list ds)] => Q (enD ds) true ε1
  | [.sh (.tuple ds)] => Q (enD ds) true ε1
  | _ => False
theorem si_enA {n : Nat} {t : TA} {f : DTA} (hf : SA w n t f) : SI w true (iEnA K t) (dEnA f) := by
  constructor
  · intro ε A B h q
    refine hf.mono _ _ _ (fun r ε1 q => ?_) q
    split at q
    · exact h _ _ _ q
    · exact h _ _ _ q
    · exact q.elim
  · intro Z O σ ε L H R X q
    refine hf.run Z O σ ε L H _ X (hf.mono _ _ _ (fun r ε1 q => ?_) q)
    intro vs L1 H1 X1 e1 r1 hl np
    split at q
    · rename_i ds
      cases r1 with
      | cons r1 r2 =>
        cases r2
        cases (show DV L1 _ (.list ds) from r1) with
        | lst h1 h2 =>
          have W := walkS_enum (K := K) h1 h2
          exact ⟨_, _, rfl, .inl ⟨SqL.of (X1.lh _ _ h1), q _ L1 H1 X1 e1 W.e fun _ => W⟩⟩
    · rename_i ds
      cases r1 with
      | cons r1 r2 =>
        cases r2
        cases (show DV L1 _ (.tuple ds) from r1) with
        | tup h1 h2 =>
          have W := walkS_enumT (K := K) h1 h2
          exact ⟨_, _, rfl, .inr ⟨(h1.to X1.lh).seq, q _ L1 H1 X1 e1 W.e fun _ => W⟩⟩
    · exact q.elim
end
section
variable {K : PySem.W.Frag} {x : Str} {st : Stmt} {f : Addr} {fd : FuncData} {p1 p2 p3 p4 p5 : Str} (F : Fun K x x st f fd)
include F
theorem b0 (h : ∀ kV doc pm an cdv ct, bindArgs (FnT x st kV doc pm an cdv ct) ⟨[], []⟩ = pure []) : Binds K fd [] [] :=
  F.binds fun kV doc pm an cdv ct us hl => match us, hl with | [], _ => h kV doc pm an cdv ct
theorem b4 (h : ∀ kV doc pm an cdv ct u1 u2 u3 u4, bindArgs (FnT x st kV doc pm an cdv ct) ⟨[u1, u2, u3, u4], []⟩ = pure [(p1, u1), (p2, u2), (p3, u3), (p4, u4)]) : Binds K fd [p1, p2, p3, p4] [] :=
  F.binds fun kV doc pm an cdv ct us hl => match us, hl with | [u1, u2, u3, u4], _ => h kV doc pm an cdv ct u1 u2 u3 u4
theorem b5 (h : ∀ kV doc pm an cdv ct u1 u2 u3 u4 u5, bindArgs (FnT x st kV doc pm an cdv ct) ⟨[u1, u2, u3, u4, u5], []⟩ = pure [(p1, u1), (p2, u2), (p3, u3), (p4, u4), (p5, u5)]) : Binds K fd [p1, p2, p3, p4, p5] [] :=
  F.binds fun kV doc pm an cdv ct us hl => match us, hl with | [u1, u2, u3, u4, u5], _ => h kV doc pm an cdv ct u1 u2 u3 u4 u5
theorem r4 (h : ∀ kV doc pm an cdv ct u1 u2 u3 u4, bindArgs (FnT x st kV doc pm an cdv ct) ⟨[], [(p4, u1), (p3, u2), (p2, u3), (p1, u4)]⟩ = pure [(p1, u4), (p2, u3), (p3, u2), (p4, u1)]) : KbR fd [p1, p2, p3, p4] :=
  Fun.kbr F fun kV doc pm an cdv ct us hl => match us, hl with | [u1, u2, u3, u4], _ => h kV doc pm an cdv ct u1 u2 u3 u4
end
def φIsNB (x y : PyData) (Q : R → Prop) : Prop := match x, y with
  | .bool a, .bool b => Q (.sh (.bool (!decide (a = b))))
  | _, _ => False
end Lp

namespace Lp
open PySem PySem.Spec PyProof.Rows L2
def gt (ns : List Int) (i : Int) : Int := ns.getD i.toNat 0
def call1 (ns : List Int) (w : Int) : List Int := ns.set w.toNat (gt ns (gt ns w))
def callAll (ns ws : List Int) : List Int := ws.foldl call1 ns
theorem call1_len (ns : List Int) (w : Int) : (call1 ns w).length = ns.length := by unfold call1; rw [List.length_set]
theorem callAll_len : ∀ (ws ns : List Int), (callAll ns ws).length = ns.length
  | [], _ => rfl
  | w :: ws, ns => by
    show (callAll (call1 ns w) ws).length = ns.length
    rw [callAll_len ws, call1_len]
theorem gt_get {ns : List Int} {i : Int} (h0 : 0 ≤ i) (h1 : i < (ns.length : Int)) : ns[i.toNat]? = some (gt ns i) := by
  unfold gt
  have hl : i.toNat < ns.length := by omega
  rw [List.getD_eq_getElem?_getD, List.getElem?_eq_getElem hl]; rfl
theorem gt_low {n : Nat} {ns : List Int} {i : Int} (h : Low n ns) (h0 : 0 ≤ i) (h1 : i < (ns.length : Int)) : 0 ≤ gt ns i ∧ gt ns i < (n : Int) := h.at (gt_get h0 h1)
theorem call1_low {n : Nat} {ns : List Int} {w : Int} (h : Low n ns) (hn : ns.length = n) (h0 : 0 ≤ w) (h1 : w < (n : Int)) : Low n (call1 ns w) := by
  have a := gt_low h h0 (by omega)
  have b := gt_low h a.1 (by omega)
  exact h.set b.1 b.2
theorem callAll_low {n : Nat} : ∀ (ws ns : List Int), Low n ns → ns.length = n → Low n ws → Low n (callAll ns ws)
  | [], _, h, _, _ => h
  | w :: ws, ns, h, hn, hw => by
    have q := hw w (List.mem_cons_self)
    exact callAll_low ws (call1 ns w) (call1_low h hn q.1 q.2) (by rw [call1_len]; exact hn) fun z hz => hw z (List.mem_cons_of_mem _ hz)
theorem callAll_snoc (ns ws : List Int) (w : Int) : callAll ns (ws ++ [w]) = call1 (callAll ns ws) w := by
  unfold callAll; rw [List.foldl_append]; rfl
theorem Low.take {n : Nat} {ws : List Int} (h : Low n ws) (i : Nat) : Low n (ws.take i) := fun z hz => h z (List.mem_of_mem_take hz)
/-- a call changes nothing exactly if the person points at a root -/
theorem call1_idle {ns : List Int} {w : Int} (h0 : 0 ≤ w) (h1 : w < (ns.length : Int)) : call1 ns w = ns ↔ gt ns (gt ns w) = gt ns w := by
  have g := gt_get h0 h1
  have hl : w.toNat < ns.length := by omega
  unfold call1
  constructor
  · intro e
    have e2 : (ns.set w.toNat (gt ns (gt ns w)))[w.toNat]? = some (gt ns (gt ns w)) := List.getElem?_set_self hl
    rw [e, g] at e2
    exact (Option.some.inj e2).symm
  · intro e
    rw [e]
    apply List.ext_getElem?
    intro i
    by_cases hi : w.toNat = i
    · subst hi
      rw [List.getElem?_set_self hl, g]
    · rw [List.getElem?_set_ne hi]
def itr (ns : List Int) (p : Int) : Nat → Int
  | 0 => p
  | k + 1 => gt ns (itr ns p k)
theorem itr_succ (ns : List Int) (p : Int) : ∀ k, itr ns p (k + 1) = itr ns (gt ns p) k
  | 0 => rfl
  | k + 1 => by
    show gt ns (itr ns p (k + 1)) = gt ns (itr ns (gt ns p) k)
    rw [itr_succ ns p k]
theorem itr_low {ns : List Int} (lo : Low ns.length ns) {p : Int} (h0 : 0 ≤ p) (h1 : p < (ns.length : Int)) : ∀ k, 0 ≤ itr ns p k ∧ itr ns p k < (ns.length : Int)
  | 0 => ⟨h0, h1⟩
  | k + 1 => by
    have ih := itr_low lo h0 h1 k
    exact gt_low lo ih.1 ih.2
def itrs (ns : List Int) (p : Int) (m : Nat) : List Int := (List.range m).map (itr ns p)
theorem itrs_len (ns : List Int) (p : Int) (m : Nat) : (itrs ns p m).length = m := by unfold itrs; rw [List.length_map, List.length_range]
theorem itrs_succ (ns : List Int) (p : Int) (m : Nat) : itrs ns p (m + 1) = itrs ns p m ++ [itr ns p m] := by
  unfold itrs; rw [List.range_succ, List.map_append]; rfl
theorem itrs_get {ns : List Int} {p : Int} {m i : Nat} (h : i < m) : (itrs ns p m)[i]? = some (itr ns p i) := by
  unfold itrs
  rw [List.getElem?_map, List.getElem?_range h]; rfl
theorem itrs_mem {ns : List Int} {p z : Int} {m : Nat} : z ∈ itrs ns p m ↔ ∃ i, i < m ∧ itr ns p i = z := by
  unfold itrs
  rw [List.mem_map]
  constructor
  · rintro ⟨i, hi, e⟩; exact ⟨i, List.mem_range.mp hi, e⟩
  · rintro ⟨i, hi, e⟩; exact ⟨i, List.mem_range.mpr hi, e⟩
/-- rs: the people met from p on, each once -/
def Route (ns : List Int) (p : Int) (rs : List Int) : Prop := ∃ L, rs = itrs ns p L ∧ rs.Nodup ∧ itr ns p L ∈ rs
theorem itrs_apart {ns : List Int} {p : Int} {m i j : Nat} (nd : (itrs ns p m).Nodup) (hi : i < m) (hj : j < m) (e : itr ns p i = itr ns p j) : i = j := by
  have h1 := itrs_get (ns := ns) (p := p) hi
  have h2 := itrs_get (ns := ns) (p := p) hj
  rw [e] at h1
  exact nd_ix nd h1 h2
theorem Route.eq {ns : List Int} {p : Int} {rs rs' : List Int} (a : Route ns p rs) (b : Route ns p rs') : rs = rs' := by
  obtain ⟨L, rfl, n1, m1⟩ := a
  obtain ⟨M, rfl, n2, m2⟩ := b
  obtain ⟨i, hi, ei⟩ := itrs_mem.mp m1
  obtain ⟨j, hj, ej⟩ := itrs_mem.mp m2
  rcases Nat.lt_trichotomy L M with h | h | h
  · exact absurd (itrs_apart n2 (show i < M by omega) h ei) (by omega)
  · rw [h]
  · exact absurd (itrs_apart n1 (show j < L by omega) h ej) (by omega)
theorem Nodup.snoc {l : List Int} {z : Int} (h : l.Nodup) (n : z ∉ l) : (l ++ [z]).Nodup := by
  rw [List.nodup_append]
  refine ⟨h, List.nodup_cons.mpr ⟨List.not_mem_nil, List.nodup_nil⟩, fun a ha b hb => ?_⟩
  rw [List.mem_singleton] at hb
  subst hb
  exact fun e => n (e ▸ ha)
theorem low_len : ∀ (n : Nat) (l : List Int), l.Nodup → Low n l → l.length ≤ n
  | 0, l, _, h => by
    cases l with
    | nil => exact Nat.le_refl 0
    | cons x r => have := h x List.mem_cons_self; omega
  | n + 1, l, nd, h => by
    have h2 := low_len n (l.filter (fun z => decide (z ≠ (n : Int)))) (nd.filter _) fun z hz => by
      have q := List.mem_filter.mp hz
      have := h z q.1
      have := of_decide_eq_true q.2
      omega
    have h3 : l.length ≤ (l.filter (fun z => decide (z ≠ (n : Int)))).length + 1 := by
      clear h h2
      induction l with
      | nil => simp
      | cons x r ih =>
        have nd' := List.nodup_cons.mp nd
        by_cases hx : x = (n : Int)
        · have e : r.filter (fun z => decide (z ≠ (n : Int))) = r := List.filter_eq_self.mpr fun z hz => decide_eq_true fun e => nd'.1 (by rw [hx, ← e]; exact hz)
          rw [List.filter_cons_of_neg (by simp [hx]), e]; exact Nat.le_refl _
        · rw [List.filter_cons_of_pos (by simp [hx]), List.length_cons, List.length_cons]
          have := ih nd'.2
          omega
    omega
/-- behind the first return the pointers go round -/
theorem itr_round {ns : List Int} {p : Int} {b d : Nat} (h : itr ns p (b + d) = itr ns p b) : ∀ t, itr ns p (b + d + t) = itr ns p (b + t)
  | 0 => h
  | t + 1 => by
    show gt ns (itr ns p (b + d + t)) = gt ns (itr ns p (b + t))
    rw [itr_round h t]
theorem itr_mod {ns : List Int} {p : Int} {b d : Nat} (hd : 0 < d) (h : itr ns p (b + d) = itr ns p b) (t : Nat) : itr ns p (b + t) = itr ns p (b + t % d) := by
  induction t using Nat.strongRecOn with
  | ind t ih =>
    by_cases ht : t < d
    · rw [Nat.mod_eq_of_lt ht]
    · have e : t = d + (t - d) := by omega
      have := ih (t - d) (by omega)
      rw [e, ← Nat.add_assoc, itr_round h, this, Nat.add_mod_left]
def routeG (ns : List Int) : Nat → List Int → Int → List Int
  | 0, acc, _ => acc
  | k + 1, acc, at_ => if at_ ∈ acc then acc else routeG ns k (acc ++ [at_]) (gt ns at_)
def routeF (ns : List Int) (p : Int) : List Int := routeG ns (ns.length + 1) [] p
theorem routeG_ok {ns : List Int} (lo : Low ns.length ns) {p : Int} (p0 : 0 ≤ p) (p1 : p < (ns.length : Int)) : ∀ (k L : Nat), (itrs ns p L).Nodup → ns.length < k + L → Route ns p (routeG ns k (itrs ns p L) (itr ns p L))
  | 0, L, nd, h => by
    have := low_len ns.length _ nd fun z hz => by
      obtain ⟨i, _, ei⟩ := itrs_mem.mp hz
      have := itr_low lo p0 p1 i
      omega
    rw [itrs_len] at this
    omega
  | k + 1, L, nd, h => by
    unfold routeG
    by_cases hm : itr ns p L ∈ itrs ns p L
    · rw [if_pos hm]
      exact ⟨L, rfl, nd, hm⟩
    · rw [if_neg hm, ← itrs_succ]
      exact routeG_ok lo p0 p1 k (L + 1) (by rw [itrs_succ]; exact Nodup.snoc nd hm) (by omega)
theorem routeF_ok {ns : List Int} (lo : Low ns.length ns) {p : Int} (p0 : 0 ≤ p) (p1 : p < (ns.length : Int)) : Route ns p (routeF ns p) := routeG_ok lo p0 p1 (ns.length + 1) 0 List.nodup_nil (by omega)
def beginF (ns rs : List Int) : Nat := rs.idxOf (gt ns (rs.getLastD 0))
def minF : List Int → Int
  | [] => 0
  | x :: r => r.foldl (fun a b => if b < a then b else a) x
theorem fold_min : ∀ (r : List Int) (x : Int), (r.foldl (fun a b => if b < a then b else a) x = x ∨ r.foldl (fun a b => if b < a then b else a) x ∈ r) ∧ r.foldl (fun a b => if b < a then b else a) x ≤ x ∧ ∀ y ∈ r, r.foldl (fun a b => if b < a then b else a) x ≤ y
  | [], x => ⟨.inl rfl, Int.le_refl x, fun y h => nomatch h⟩
  | z :: r, x => by
    have ih := fold_min r (if z < x then z else x)
    show (r.foldl _ (if z < x then z else x) = x ∨ _) ∧ _
    refine ⟨?_, ?_, ?_⟩
    · rcases ih.1 with h | h
      · by_cases q : z < x
        · right
          show r.foldl _ (if z < x then z else x) ∈ z :: r
          rw [h, if_pos q]; exact List.mem_cons_self
        · left
          show r.foldl _ (if z < x then z else x) = x
          rw [h, if_neg q]
      · right; exact List.mem_cons_of_mem _ h
    · show r.foldl _ (if z < x then z else x) ≤ x
      have := ih.2.1
      split at this <;> rename_i q
      · rw [if_pos q]; omega
      · rw [if_neg q]; exact this
    · intro y hy
      show r.foldl _ (if z < x then z else x) ≤ y
      rcases List.mem_cons.mp hy with h | h
      · have := ih.2.1
        split at this <;> rename_i q
        · rw [if_pos q, h]; exact this
        · rw [if_neg q, h]; omega
      · exact ih.2.2 y h
theorem minF_ok {ms : List Int} (h : ms ≠ []) : minF ms ∈ ms ∧ ∀ y ∈ ms, minF ms ≤ y := by
  cases ms with
  | nil => exact absurd rfl h
  | cons x r =>
    have := fold_min r x
    refine ⟨?_, fun y hy => ?_⟩
    · rcases this.1 with e | e
      · show r.foldl _ x ∈ x :: r
        rw [e]; exact List.mem_cons_self
      · exact List.mem_cons_of_mem _ e
    · rcases List.mem_cons.mp hy with e | e
      · rw [e]; exact this.2.1
      · exact this.2.2 y e
/-- the list, turned so that its least member is the first -/
def turnF (ms : List Int) : List Int := ms.drop (ms.idxOf (minF ms)) ++ ms.take (ms.idxOf (minF ms))
def ringF (ns : List Int) (p : Int) : List Int := turnF ((routeF ns p).drop (beginF ns (routeF ns p)))
def heightF (ns : List Int) (p : Int) : Nat := beginF ns (routeF ns p)
theorem turnF_ne {ms : List Int} (h : ms ≠ []) : turnF ms ≠ [] := by
  intro e
  have := congrArg List.length e
  unfold turnF at this
  rw [List.length_append, List.length_drop, List.length_take, List.length_nil] at this
  have : ms.length = 0 := by omega
  exact h (List.eq_nil_of_length_eq_zero this)
/-- how a whole route begins its ring -/
theorem begin_at {ns : List Int} {p : Int} {L : Nat} (nd : (itrs ns p L).Nodup) (hin : itr ns p L ∈ itrs ns p L) {b : Nat} (hb : b < L) (eb : itr ns p b = itr ns p L) : beginF ns (itrs ns p L) = b := by
  obtain ⟨M, rfl⟩ : ∃ M, L = M + 1 := ⟨L - 1, by omega⟩
  unfold beginF
  have e : (itrs ns p (M + 1)).getLastD 0 = itr ns p M := by rw [itrs_succ]; simp
  rw [e]
  have hin' : gt ns (itr ns p M) ∈ itrs ns p (M + 1) := hin
  have h1 := idx_get hin'
  have hl := List.idxOf_lt_length_of_mem hin'
  rw [itrs_len] at hl
  rw [itrs_get hl] at h1
  exact itrs_apart nd hl hb ((Option.some.inj h1).trans eb.symm)
theorem lex_uniq : ∀ (a b : List (List Int)), a.Nodup → b.Nodup → a.Pairwise (fun x y => HT.lexLt y x = false) → b.Pairwise (fun x y => HT.lexLt y x = false) → (∀ k, k ∈ a ↔ k ∈ b) → a = b
  | [], [], _, _, _, _, _ => rfl
  | [], y :: _, _, _, _, _, h => nomatch (h y).mpr List.mem_cons_self
  | x :: _, [], _, _, _, _, h => nomatch (h x).mp List.mem_cons_self
  | x :: a, y :: b, na, nb, pa, pb, h => by
    have qa := List.pairwise_cons.mp pa
    have qb := List.pairwise_cons.mp pb
    have ra := List.nodup_cons.mp na
    have rb := List.nodup_cons.mp nb
    have e : x = y := by
      rcases List.mem_cons.mp ((h x).mp List.mem_cons_self) with e | e
      · exact e
      · rcases List.mem_cons.mp ((h y).mpr List.mem_cons_self) with e2 | e2
        · exact e2.symm
        · exact lex_eq x y (qb.1 x e) (qa.1 y e2)
    subst e
    have h2 : ∀ k, k ∈ a ↔ k ∈ b := fun k => by
      constructor
      · intro hk
        rcases List.mem_cons.mp ((h k).mp (List.mem_cons_of_mem _ hk)) with z | z
        · exact absurd (z ▸ hk) ra.1
        · exact z
      · intro hk
        rcases List.mem_cons.mp ((h k).mpr (List.mem_cons_of_mem _ hk)) with z | z
        · exact absurd (z ▸ hk) rb.1
        · exact z
    rw [lex_uniq a b ra.2 rb.2 qa.2 qb.2 h2]
/-- RS: all rings, ascending -/
def RingsOf (ns : List Int) (RS : List (List Int)) : Prop := RS.Nodup ∧ RS.Pairwise (fun x y => HT.lexLt y x = false) ∧ ∀ k, k ∈ RS ↔ ∃ j : Nat, j < ns.length ∧ ringF ns (j : Int) = k
theorem RingsOf.eq {ns : List Int} {a b : List (List Int)} (x : RingsOf ns a) (y : RingsOf ns b) : a = b := lex_uniq a b x.1 y.1 x.2.1 y.2.1 fun k => (x.2.2 k).trans (y.2.2 k).symm

theorem itr_add (ns : List Int) (p : Int) (a : Nat) : ∀ b, itr ns p (a + b) = itr ns (itr ns p a) b
  | 0 => rfl
  | b + 1 => congrArg (gt ns) (itr_add ns p a b)
theorem itrs_cat (ns : List Int) (p : Int) (a : Nat) : ∀ b, itrs ns p (a + b) = itrs ns p a ++ itrs ns (itr ns p a) b
  | 0 => (List.append_nil _).symm
  | b + 1 => by
    rw [← Nat.add_assoc, itrs_succ, itrs_cat ns p a b, itrs_succ, itr_add, List.append_assoc]
def Cyc (ns : List Int) (q : Int) (c : Nat) : Prop := 0 < c ∧ itr ns q c = q ∧ (itrs ns q c).Nodup
theorem Cyc.cut {ns : List Int} {q : Int} {c j : Nat} (h : j ≤ c) : (itrs ns q c).drop j = itrs ns (itr ns q j) (c - j) ∧ (itrs ns q c).take j = itrs ns q j := by
  obtain ⟨d, rfl⟩ : ∃ d, c = j + d := ⟨c - j, by omega⟩
  rw [itrs_cat, Nat.add_sub_cancel_left]
  have l := itrs_len ns q j
  constructor
  · conv => lhs; arg 1; rw [← l]
    rw [List.drop_left]
  · conv => lhs; arg 1; rw [← l]
    rw [List.take_left]
theorem Cyc.turn {ns : List Int} {q : Int} {c j : Nat} (x : Cyc ns q c) (h : j ≤ c) : itrs ns (itr ns q j) c = (itrs ns q c).drop j ++ (itrs ns q c).take j := by
  rw [(Cyc.cut h).1, (Cyc.cut h).2]
  have e : itrs ns (itr ns q j) c = itrs ns (itr ns q j) ((c - j) + j) := by congr 1; omega
  rw [e, itrs_cat, ← itr_add]
  have e2 : j + (c - j) = c := by omega
  rw [e2, x.2.1]
theorem Cyc.all {ns : List Int} {q : Int} {c : Nat} (x : Cyc ns q c) (t : Nat) : itr ns q t ∈ itrs ns q c := by
  have := itr_mod (ns := ns) (p := q) (b := 0) (d := c) x.1 (by rw [Nat.zero_add]; exact x.2.1) t
  rw [Nat.zero_add, Nat.zero_add] at this
  rw [this]
  exact itrs_mem.mpr ⟨t % c, Nat.mod_lt _ x.1, rfl⟩
theorem Cyc.at {ns : List Int} {q z : Int} {c : Nat} (x : Cyc ns q c) (h : z ∈ itrs ns q c) : Cyc ns z c ∧ ∀ y, y ∈ itrs ns z c ↔ y ∈ itrs ns q c := by
  obtain ⟨j, hj, rfl⟩ := itrs_mem.mp h
  have t := x.turn (j := j) (by omega)
  have pm : (itrs ns (itr ns q j) c).Perm (itrs ns q c) := by
    rw [t]
    have := List.perm_append_comm (l₁ := (itrs ns q c).drop j) (l₂ := (itrs ns q c).take j)
    rw [List.take_append_drop] at this
    exact this
  refine ⟨⟨x.1, ?_, pm.nodup_iff.mpr x.2.2⟩, fun y => pm.mem_iff⟩
  rw [← itr_add, Nat.add_comm, itr_add, x.2.1]
theorem Cyc.uniq {ns : List Int} {z : Int} {c d : Nat} (x : Cyc ns z c) (y : Cyc ns z d) : c = d := by
  rcases Nat.lt_trichotomy c d with h | h | h
  · have := itrs_apart y.2.2 (i := 0) (j := c) y.1 h x.2.1.symm
    have := x.1; omega
  · exact h
  · have := itrs_apart x.2.2 (i := 0) (j := d) x.1 h y.2.1.symm
    have := y.1; omega
theorem itrs_ne {ns : List Int} {q : Int} {c : Nat} (h : 0 < c) : itrs ns q c ≠ [] := fun e => by
  have := itrs_len ns q c
  rw [e] at this
  simp at this; omega
theorem Cyc.turnF {ns : List Int} {q : Int} {c : Nat} (x : Cyc ns q c) : turnF (itrs ns q c) = itrs ns (minF (itrs ns q c)) c := by
  have m := minF_ok (itrs_ne (ns := ns) (q := q) x.1)
  have il := List.idxOf_lt_length_of_mem m.1
  have g := idx_get m.1
  unfold Lp.turnF
  generalize hj : (itrs ns q c).idxOf (minF (itrs ns q c)) = j at il g
  rw [itrs_len] at il
  rw [itrs_get il] at g
  rw [← Option.some.inj g, x.turn (by omega)]
theorem Cyc.same {ns : List Int} {q r z : Int} {c d : Nat} (x : Cyc ns q c) (y : Cyc ns r d) (h1 : z ∈ itrs ns q c) (h2 : z ∈ itrs ns r d) : Lp.turnF (itrs ns q c) = Lp.turnF (itrs ns r d) := by
  have a := x.at h1
  have b := y.at h2
  have e := a.1.uniq b.1
  subst e
  rw [x.turnF, y.turnF]
  have m1 := minF_ok (itrs_ne (ns := ns) (q := q) x.1)
  have m2 := minF_ok (itrs_ne (ns := ns) (q := r) x.1)
  have := m1.2 _ ((a.2 _).mp ((b.2 _).mpr m2.1))
  have := m2.2 _ ((b.2 _).mp ((a.2 _).mpr m1.1))
  have e : minF (itrs ns q c) = minF (itrs ns r c) := by omega
  rw [e]
theorem ringF_cyc {ns : List Int} (lo : Low ns.length ns) {p : Int} (p0 : 0 ≤ p) (p1 : p < (ns.length : Int)) : ∃ c, Cyc ns (itr ns p (heightF ns p)) c ∧ ringF ns p = turnF (itrs ns (itr ns p (heightF ns p)) c) ∧ routeF ns p = itrs ns p (heightF ns p + c) := by
  have rt := routeF_ok lo p0 p1
  obtain ⟨L, hrs, nd, hin⟩ := id rt
  rw [hrs] at nd hin
  obtain ⟨b, hb, eb⟩ := itrs_mem.mp hin
  have e := begin_at nd hin hb eb
  have eh : heightF ns p = b := by unfold heightF; rw [hrs]; exact e
  have ct := Cyc.cut (ns := ns) (q := p) (c := L) (j := b) (by omega)
  rw [eh]
  refine ⟨L - b, ⟨by omega, ?_, ?_⟩, ?_, ?_⟩
  · rw [← itr_add]
    have : b + (L - b) = L := by omega
    rw [this, eb]
  · rw [← ct.1]
    exact nd.sublist (List.drop_sublist b _)
  · unfold ringF
    rw [hrs, e, ct.1]
  · rw [hrs]; congr 1; omega
theorem ringF_step {ns : List Int} (lo : Low ns.length ns) {p : Int} (p0 : 0 ≤ p) (p1 : p < (ns.length : Int)) : ringF ns (gt ns p) = ringF ns p := by
  have g := gt_low lo p0 (by omega)
  obtain ⟨c, x, e, _⟩ := ringF_cyc lo p0 p1
  obtain ⟨d, y, e2, _⟩ := ringF_cyc lo g.1 g.2
  rw [e, e2]
  refine y.same x (z := itr ns p (heightF ns p + (heightF ns (gt ns p) + 1))) ?_ ?_
  · have : heightF ns p + (heightF ns (gt ns p) + 1) = (heightF ns (gt ns p) + heightF ns p) + 1 := by omega
    rw [this, itr_succ, itr_add]
    exact y.all _
  · rw [itr_add]
    exact x.all _
theorem ringF_itr {ns : List Int} (lo : Low ns.length ns) {p : Int} (p0 : 0 ≤ p) (p1 : p < (ns.length : Int)) : ∀ k, ringF ns (itr ns p k) = ringF ns p
  | 0 => rfl
  | k + 1 => by
    have l := itr_low lo p0 p1 k
    show ringF ns (gt ns (itr ns p k)) = _
    rw [ringF_step lo l.1 l.2, ringF_itr lo p0 p1 k]
/-- a ring: its least member first, each member pointing at the next one -/
theorem ringF_form {ns : List Int} (lo : Low ns.length ns) {p : Int} (p0 : 0 ≤ p) (p1 : p < (ns.length : Int)) : ∃ m c, ringF ns p = itrs ns m c ∧ Cyc ns m c ∧ (∀ y ∈ ringF ns p, m ≤ y) ∧ 0 ≤ m ∧ m < (ns.length : Int) := by
  obtain ⟨c, x, e, _⟩ := ringF_cyc lo p0 p1
  have m := minF_ok (itrs_ne (ns := ns) (q := itr ns p (heightF ns p)) x.1)
  have a := x.at m.1
  have l := itr_low lo p0 p1 (heightF ns p)
  refine ⟨_, c, e.trans x.turnF, a.1, fun y hy => ?_, ?_⟩
  · rw [e, x.turnF] at hy
    exact m.2 y ((a.2 y).mp hy)
  · obtain ⟨i, _, ei⟩ := itrs_mem.mp m.1
    rw [← ei]
    exact itr_low lo l.1 l.2 i

/-- the way on from the last one met on a way: the whole ring -/
theorem lap_of {ns : List Int} (lo : Low ns.length ns) {q : Int} (q0 : 0 ≤ q) (q1 : q < (ns.length : Int)) {L : Nat} (rt : Route ns q (itrs ns q L)) : ∃ M z c, L = M + 1 ∧ gt ns (itr ns q M) = z ∧ Cyc ns z c ∧ ringF ns q = turnF (itrs ns z c) ∧ Route ns z (itrs ns z c) := by
  obtain ⟨c, x, e1, e2⟩ := ringF_cyc lo q0 q1
  have e := rt.eq (routeF_ok lo q0 q1)
  rw [e2] at e
  have el := congrArg List.length e
  rw [itrs_len, itrs_len] at el
  have c0 := x.1
  refine ⟨L - 1, itr ns q (heightF ns q), c, by omega, ?_, x, e1, ⟨c, rfl, x.2.2, ?_⟩⟩
  · show itr ns q (L - 1 + 1) = _
    have : L - 1 + 1 = heightF ns q + c := by omega
    rw [this, itr_add, x.2.1]
  · exact x.all c

def headF (ns : List Int) (p : Int) : Int := (ringF ns p).headD 0
theorem headF_form {ns : List Int} (lo : Low ns.length ns) {p : Int} (p0 : 0 ≤ p) (p1 : p < (ns.length : Int)) : ∃ c, ringF ns p = itrs ns (headF ns p) c ∧ Cyc ns (headF ns p) c ∧ 0 ≤ headF ns p ∧ headF ns p < (ns.length : Int) := by
  obtain ⟨m, c, e, cy, _, m0, m1⟩ := ringF_form lo p0 p1
  have em : headF ns p = m := by
    unfold headF
    obtain ⟨d, rfl⟩ : ∃ d, c = 1 + d := ⟨c - 1, by have := cy.1; omega⟩
    rw [e, itrs_cat]; rfl
  rw [em]
  exact ⟨c, e, cy, m0, m1⟩
theorem head_iff {ns : List Int} (lo : Low ns.length ns) {p q : Int} (p0 : 0 ≤ p) (p1 : p < (ns.length : Int)) (q0 : 0 ≤ q) (q1 : q < (ns.length : Int)) : headF ns p = headF ns q ↔ ringF ns p = ringF ns q := by
  constructor
  · intro e
    obtain ⟨c, e1, cy, _⟩ := headF_form lo p0 p1
    obtain ⟨d, e2, dy, _⟩ := headF_form lo q0 q1
    rw [e] at e1 cy
    rw [e1, e2, cy.uniq dy]
  · intro e
    unfold headF
    rw [e]
/-- the people below i whose ring begins with m -/
def compH (ns : List Int) (m : Int) (i : Nat) : List Int := ((List.range i).filter fun j : Nat => decide (headF ns (j : Int) = m)).map Int.ofNat
theorem compH_mem {ns : List Int} {m z : Int} {i : Nat} : z ∈ compH ns m i ↔ ∃ j : Nat, j < i ∧ headF ns (j : Int) = m ∧ z = (j : Int) := by
  unfold compH
  rw [List.mem_map]
  constructor
  · rintro ⟨j, hj, e⟩
    have q := List.mem_filter.mp hj
    exact ⟨j, List.mem_range.mp q.1, of_decide_eq_true q.2, e.symm⟩
  · rintro ⟨j, hj, e, rfl⟩
    exact ⟨j, List.mem_filter.mpr ⟨List.mem_range.mpr hj, decide_eq_true e⟩, rfl⟩
def compF (ns : List Int) (p : Int) : List Int := compH ns (headF ns p) ns.length
def CompsOf (ns : List Int) (CS : List (List Int)) : Prop := CS.Nodup ∧ CS.Pairwise (fun x y => HT.lexLt y x = false) ∧ ∀ k, k ∈ CS ↔ ∃ j : Nat, j < ns.length ∧ compF ns (j : Int) = k
theorem CompsOf.eq {ns : List Int} {a b : List (List Int)} (x : CompsOf ns a) (y : CompsOf ns b) : a = b := lex_uniq a b x.1 y.1 x.2.1 y.2.1 fun k => (x.2.2 k).trans (y.2.2 k).symm
/-- on a ring: met again on the own way -/
theorem on_ring {ns : List Int} {z : Int} {c : Nat} (cy : Cyc ns z c) {rs : List Int} (rt : Route ns (gt ns z) rs) : z ∈ rs := by
  have m1 : gt ns z ∈ itrs ns z c := cy.all 1
  have a := cy.at m1
  have e := rt.eq ⟨c, rfl, a.1.2.2, a.1.all c⟩
  rw [e]
  exact (a.2 z).mpr (cy.all 0)
/-- off the rings: never met again -/
theorem off_ring {ns : List Int} (lo : Low ns.length ns) {p : Int} (p0 : 0 ≤ p) (p1 : p < (ns.length : Int)) {t : Nat} (ht : t < heightF ns p) {rs : List Int} (rt : Route ns (gt ns (itr ns p t)) rs) : itr ns p t ∉ rs := by
  obtain ⟨c, cy, _, er⟩ := ringF_cyc lo p0 p1
  have nd : (itrs ns p (heightF ns p + c)).Nodup := by
    have := routeF_ok lo p0 p1
    obtain ⟨L, e, nd, _⟩ := this
    rw [er] at nd; exact nd
  intro h
  obtain ⟨L, e, _, _⟩ := rt
  rw [e] at h
  obtain ⟨i, _, ei⟩ := itrs_mem.mp h
  rw [← itr_succ, ← itr_add] at ei
  have c0 := cy.1
  by_cases z : t + (i + 1) < heightF ns p + c
  · have := itrs_apart nd z (show t < heightF ns p + c by omega) ei
    omega
  · have e1 : t + (i + 1) = heightF ns p + (t + (i + 1) - heightF ns p) := by omega
    rw [e1, itr_mod c0 (by rw [itr_add]; exact cy.2.1)] at ei
    have hm := Nat.mod_lt (t + (i + 1) - heightF ns p) c0
    have := itrs_apart nd (show heightF ns p + (t + (i + 1) - heightF ns p) % c < heightF ns p + c by omega) (show t < heightF ns p + c by omega) ei
    omega
theorem nd_subG {α : Type} [DecidableEq α] : ∀ (a b : List α), a.Nodup → (∀ x ∈ a, x ∈ b) → a.length ≤ b.length
  | [], b, _, _ => Nat.zero_le _
  | x :: a, b, nd, h => by
    have q := List.nodup_cons.mp nd
    have xb := h x List.mem_cons_self
    have := nd_subG a (b.erase x) q.2 fun y hy => (List.mem_erase_of_ne (fun e : y = x => q.1 (by rw [← e]; exact hy))).mpr (h y (List.mem_cons_of_mem _ hy))
    rw [List.length_erase_of_mem xb] at this
    have := List.length_pos_of_mem xb
    rw [List.length_cons]; omega
theorem CompsOf.len {ns : List Int} {CS : List (List Int)} (h : CompsOf ns CS) : CS.length ≤ ns.length := by
  have := nd_subG CS ((List.range ns.length).map fun j : Nat => compF ns (j : Int)) h.1 fun x hx => by
    obtain ⟨j, hj, e⟩ := (h.2.2 x).mp hx
    exact List.mem_map.mpr ⟨j, List.mem_range.mpr hj, e⟩
  rw [List.length_map, List.length_range] at this
  exact this
/-- together they hold everybody once -/
theorem CompsOf.sum {ns : List Int} {CS : List (List Int)} (h : CompsOf ns CS) : (CS.map List.length).sum = ns.length := by
  rw [← List.length_flatten]
  have nd : CS.flatten.Nodup := by
    refine List.pairwise_flatten.mpr ⟨fun l hl => ?_, List.Pairwise.imp_of_mem (fun {a b} ha hb ne x hx y hy e => ?_) h.1⟩
    · obtain ⟨j, _, e⟩ := (h.2.2 l).mp hl
      rw [← e]
      refine List.pairwise_map.mpr (List.Pairwise.imp (fun {a b} ne e => ne (Int.ofNat.inj e)) (List.Pairwise.filter _ List.nodup_range))
    · subst e
      obtain ⟨i, _, ei⟩ := (h.2.2 a).mp ha
      obtain ⟨j, _, ej⟩ := (h.2.2 b).mp hb
      rw [← ei] at hx
      rw [← ej] at hy
      obtain ⟨u, _, h1, e1⟩ := compH_mem.mp hx
      obtain ⟨v, _, h2, e2⟩ := compH_mem.mp hy
      have : u = v := by omega
      subst this
      refine ne ?_
      rw [← ei, ← ej]
      unfold compF
      rw [← h1, h2]
  refine Nat.le_antisymm (low_len _ _ nd fun z hz => ?_) ?_
  · obtain ⟨l, hl, hz⟩ := List.mem_flatten.mp hz
    obtain ⟨j, _, e⟩ := (h.2.2 l).mp hl
    rw [← e] at hz
    obtain ⟨u, hu, _, eu⟩ := compH_mem.mp hz
    omega
  · have := nd_subG ((List.range ns.length).map Int.ofNat) CS.flatten (List.pairwise_map.mpr (List.Pairwise.imp (fun {a b} ne e => ne (Int.ofNat.inj e)) List.nodup_range)) fun x hx => by
      obtain ⟨j, hj, e⟩ := List.mem_map.mp hx
      have hj' := List.mem_range.mp hj
      refine List.mem_flatten.mpr ⟨compF ns (j : Int), (h.2.2 _).mpr ⟨j, hj', rfl⟩, ?_⟩
      exact compH_mem.mpr ⟨j, hj', rfl, e.symm⟩
    rw [List.length_map, List.length_range] at this
    exact this
theorem gt_callN {ns : List Int} {w p : Int} (w0 : 0 ≤ w) (w1 : w < (ns.length : Int)) (p0 : 0 ≤ p) : gt (call1 ns w) p = if p = w then gt ns (gt ns w) else gt ns p := by
  show (ns.set w.toNat (gt ns (gt ns w))).getD p.toNat 0 = if p = w then _ else ns.getD p.toNat 0
  rw [List.getD_eq_getElem?_getD, List.getD_eq_getElem?_getD, List.getElem?_set]
  by_cases h : p = w
  · subst h
    rw [if_pos rfl, if_pos rfl, if_pos (by omega)]; rfl
  · rw [if_neg h, if_neg (by omega)]
section
variable {ns : List Int} (lo : Low ns.length ns) {w : Int} (w0 : 0 ≤ w) (w1 : w < (ns.length : Int))
include lo w0 w1
theorem low_call : Low (call1 ns w).length (call1 ns w) := by
  rw [call1_len]; exact call1_low lo rfl w0 w1
/-- a step behind the call is one or two steps ahead of it -/
theorem itr_call {p : Int} (p0 : 0 ≤ p) (p1 : p < (ns.length : Int)) : ∀ k, ∃ k', k ≤ k' ∧ itr (call1 ns w) p k = itr ns p k'
  | 0 => ⟨0, Nat.le_refl _, rfl⟩
  | k + 1 => by
    obtain ⟨k', hk, e⟩ := itr_call p0 p1 k
    have l := itr_low lo p0 p1 k'
    have g := gt_callN w0 w1 l.1 (ns := ns)
    have e2 : itr (call1 ns w) p (k + 1) = gt (call1 ns w) (itr ns p k') := congrArg (gt (call1 ns w)) e
    by_cases z : itr ns p k' = w
    · refine ⟨k' + 2, by omega, ?_⟩
      rw [e2, g, if_pos z, ← z]; rfl
    · refine ⟨k' + 1, by omega, ?_⟩
      rw [e2, g, if_neg z]; rfl
theorem ring_stepC {p : Int} (p0 : 0 ≤ p) (p1 : p < (ns.length : Int)) : ringF (call1 ns w) (gt ns p) = ringF (call1 ns w) p := by
  have lc := low_call lo w0 w1
  have len : (call1 ns w).length = ns.length := call1_len _ _
  have g := gt_low lo p0 p1
  by_cases z : p = w
  · subst z
    by_cases y : gt ns p = p
    · rw [y]
    · have s1 := ringF_step lc (p := p) p0 (by rw [len]; exact p1)
      have s2 := ringF_step lc (p := gt ns p) g.1 (by rw [len]; exact g.2)
      rw [gt_callN w0 w1 p0, if_pos rfl] at s1
      rw [gt_callN w0 w1 g.1, if_neg y] at s2
      rw [← s2, s1]
  · have s1 := ringF_step lc (p := p) p0 (by rw [len]; exact p1)
    rw [gt_callN w0 w1 p0, if_neg z] at s1
    exact s1
theorem ring_itrC {p : Int} (p0 : 0 ≤ p) (p1 : p < (ns.length : Int)) : ∀ k, ringF (call1 ns w) (itr ns p k) = ringF (call1 ns w) p
  | 0 => rfl
  | k + 1 => by
    have l := itr_low lo p0 p1 k
    show ringF (call1 ns w) (gt ns (itr ns p k)) = _
    rw [ring_stepC lo w0 w1 l.1 l.2, ring_itrC p0 p1 k]
end
theorem ring_itr {ns : List Int} (lo : Low ns.length ns) {p m : Int} (p0 : 0 ≤ p) (p1 : p < (ns.length : Int)) (h : m ∈ ringF ns p) : ∃ s, itr ns p s = m := by
  obtain ⟨c, x, e, _⟩ := ringF_cyc lo p0 p1
  rw [e, x.turnF] at h
  have mm := minF_ok (itrs_ne (ns := ns) (q := itr ns p (heightF ns p)) x.1)
  obtain ⟨i, _, ei⟩ := itrs_mem.mp (((x.at mm.1).2 m).mp h)
  exact ⟨heightF ns p + i, by rw [itr_add]; exact ei⟩
theorem meet_iff {ns : List Int} (lo : Low ns.length ns) {p r : Int} (p0 : 0 ≤ p) (p1 : p < (ns.length : Int)) (r0 : 0 ≤ r) (r1 : r < (ns.length : Int)) : ringF ns p = ringF ns r ↔ ∃ s t, itr ns p s = itr ns r t := by
  constructor
  · intro e
    obtain ⟨m, c, e1, cy, _⟩ := ringF_form lo p0 p1
    have hm : m ∈ ringF ns p := by rw [e1]; exact itrs_mem.mpr ⟨0, cy.1, rfl⟩
    obtain ⟨s, es⟩ := ring_itr lo p0 p1 hm
    obtain ⟨t, et⟩ := ring_itr lo r0 r1 (e ▸ hm)
    exact ⟨s, t, es.trans et.symm⟩
  · rintro ⟨s, t, e⟩
    rw [← ringF_itr lo p0 p1 s, ← ringF_itr lo r0 r1 t, e]
theorem ring_call {ns : List Int} (lo : Low ns.length ns) {w p r : Int} (w0 : 0 ≤ w) (w1 : w < (ns.length : Int)) (p0 : 0 ≤ p) (p1 : p < (ns.length : Int)) (r0 : 0 ≤ r) (r1 : r < (ns.length : Int)) : ringF ns p = ringF ns r ↔ ringF (call1 ns w) p = ringF (call1 ns w) r := by
  have lc := low_call lo w0 w1
  have len : (call1 ns w).length = ns.length := call1_len _ _
  constructor
  · intro e
    obtain ⟨s, t, e⟩ := (meet_iff lo p0 p1 r0 r1).mp e
    rw [← ring_itrC lo w0 w1 p0 p1 s, ← ring_itrC lo w0 w1 r0 r1 t, e]
  · intro e
    obtain ⟨s, t, e⟩ := (meet_iff lc p0 (by rw [len]; exact p1) r0 (by rw [len]; exact r1)).mp e
    obtain ⟨s', _, es⟩ := itr_call lo w0 w1 p0 p1 s
    obtain ⟨t', _, et⟩ := itr_call lo w0 w1 r0 r1 t
    exact (meet_iff lo p0 p1 r0 r1).mpr ⟨s', t', by rw [← es, ← et]; exact e⟩
theorem comp_call {ns : List Int} (lo : Low ns.length ns) {w : Int} (w0 : 0 ≤ w) (w1 : w < (ns.length : Int)) {p : Nat} (hp : p < ns.length) : compF (call1 ns w) (p : Int) = compF ns (p : Int) := by
  have lc := low_call lo w0 w1
  have len : (call1 ns w).length = ns.length := call1_len _ _
  unfold compF compH
  rw [len]
  congr 1
  refine List.filter_congr fun j hj => ?_
  have hj' := List.mem_range.mp hj
  have a := head_iff lo (p := (j : Int)) (q := (p : Int)) (by omega) (by omega) (by omega) (by omega)
  have b := head_iff lc (p := (j : Int)) (q := (p : Int)) (by omega) (by omega) (by omega) (by omega)
  have c := ring_call lo w0 w1 (p := (j : Int)) (r := (p : Int)) (by omega) (by omega) (by omega) (by omega)
  by_cases z : headF ns (j : Int) = headF ns (p : Int)
  · rw [decide_eq_true z, decide_eq_true (b.mpr (c.mp (a.mp z)))]
  · rw [decide_eq_false z, decide_eq_false (fun y => z (a.mpr (c.mpr (b.mp y))))]
theorem CompsOf.call {ns : List Int} (lo : Low ns.length ns) {w : Int} (w0 : 0 ≤ w) (w1 : w < (ns.length : Int)) {CS : List (List Int)} (h : CompsOf ns CS) : CompsOf (call1 ns w) CS := by
  refine ⟨h.1, h.2.1, fun k => (h.2.2 k).trans ?_⟩
  rw [call1_len]
  constructor
  · rintro ⟨j, hj, e⟩; exact ⟨j, hj, (comp_call lo w0 w1 hj).trans e⟩
  · rintro ⟨j, hj, e⟩; exact ⟨j, hj, (comp_call lo w0 w1 hj).symm.trans e⟩
theorem ring_at {ns : List Int} (lo : Low ns.length ns) {m : Int} (m0 : 0 ≤ m) (m1 : m < (ns.length : Int)) {c : Nat} (cy : Cyc ns m c) : ringF ns m = turnF (itrs ns m c) := by
  obtain ⟨d, x, e, _⟩ := ringF_cyc lo m0 m1
  rw [e]
  exact x.same cy (z := itr ns m (heightF ns m)) (x.all 0) (cy.all _)
theorem turn_self {ns : List Int} {m : Int} {c : Nat} (cy : Cyc ns m c) (least : ∀ y ∈ itrs ns m c, m ≤ y) : turnF (itrs ns m c) = itrs ns m c := by
  rw [cy.turnF]
  have mm := minF_ok (itrs_ne (ns := ns) (q := m) cy.1)
  have := least _ mm.1
  have := mm.2 m (itrs_mem.mpr ⟨0, cy.1, rfl⟩)
  have e : minF (itrs ns m c) = m := by omega
  rw [e]
end Lp

namespace Lp
open PySem PySem.Spec PyProof.Rows L2
def gv (i : Nat) (o : Option SV) (ε : Env) (Q : R → Env → Prop) : Prop := match o with
  | some (.sh d) => Q (.sh d) ε
  | some (.ow ds) => Q (.br i ds) ε
  | some .bx => Q .bx ε
  | some (.raw v) => Q (.raw v) ε
  | some (.st S n) => Q (.sr i S n) ε
  | some (.exn x) => Q (.exn x) ε
  | some (.dco xs) => Q (.dbr i xs) ε
  | some (.sto M) => Q (.srt i M) ε
  | some (.dsh xs) => Q (.dsh xs) ε
  | some (.gen g) => Q (.gen g) ε
  | _ => False
theorem dVar_ (i : Nat) (ε : Env) (Q : R → Env → Prop) : dVar i ε Q = gv i ε.s[i]? ε Q := rfl
section
variable (i : Nat) (ε : Env) (Q : R → Env → Prop)
theorem gv_sh (d : PyData) : gv i (some (.sh d)) ε Q = Q (.sh d) ε := rfl
theorem gv_ow (ds : List PyData) : gv i (some (.ow ds)) ε Q = Q (.br i ds) ε := rfl
theorem gv_bx : gv i (some .bx) ε Q = Q .bx ε := rfl
theorem gv_raw (v : V) : gv i (some (.raw v)) ε Q = Q (.raw v) ε := rfl
theorem gv_exn (x : Xn) : gv i (some (.exn x)) ε Q = Q (.exn x) ε := rfl
theorem gv_st (S : Int → Bool) (n : Nat) : gv i (some (.st S n)) ε Q = Q (.sr i S n) ε := rfl
end
def ga (F : DSp) (o : Option (List SV)) (b : Bool) (ε : Env) (Q : R → Env → Prop) : Prop := match o with
  | some args => F args ε.c fun r c => match b with
    | true => immR r = true ∧ Q r ⟨ε.s, c⟩
    | false => Q r ⟨ε.s, c⟩
  | none => False
theorem dArgs_ (F : DSp) (rs : List R) (ε : Env) (Q : R → Env → Prop) : dArgs F rs ε Q = ga F (argsOf rs) (hasBr rs) ε Q := rfl
theorem ga_f (F : DSp) (args : List SV) (ε : Env) (Q : R → Env → Prop) : ga F (some args) false ε Q = F args ε.c fun r c => Q r ⟨ε.s, c⟩ := rfl
theorem ga_t (F : DSp) (args : List SV) (ε : Env) (Q : R → Env → Prop) : ga F (some args) true ε Q = F args ε.c fun r c => immR r = true ∧ Q r ⟨ε.s, c⟩ := rfl
def gi (r : R) (ε : Env) (Q : List PyData → Bool → Env → Prop) : Prop := match r with
  | .sh (.list ds) => Q ds true ε
  | .sh (.tuple ds) => Q ds true ε
  | .br _ ds => Q ds false ε
  | _ => False
theorem dIter_ (f : DTE) (ε : Env) (Q : List PyData → Bool → Env → Prop) : dIter f ε Q = f ε fun r ε1 => gi r.pub ε1 Q := rfl
theorem gi_l (ds : List PyData) (ε : Env) (Q : List PyData → Bool → Env → Prop) : gi (.sh (.list ds)) ε Q = Q ds true ε := rfl
theorem gi_t (ds : List PyData) (ε : Env) (Q : List PyData → Bool → Env → Prop) : gi (.sh (.tuple ds)) ε Q = Q ds true ε := rfl
theorem gi_b (i : Nat) (ds : List PyData) (ε : Env) (Q : List PyData → Bool → Env → Prop) : gi (.br i ds) ε Q = Q ds false ε := rfl
section
variable (Q : R → Prop)
theorem add_i (i j : Int) : φAdd (.int i) (.int j) Q = Q (.sh (.int (i + j))) := rfl
theorem add_l (a b : List PyData) : φAdd (.list a) (.list b) Q = (a.length + b.length ≤ sizeLine ∧ Q (.nw (a ++ b))) := rfl
theorem add_t (a b : List PyData) : φAdd (.tuple a) (.tuple b) Q = (a.length + b.length ≤ sizeLine ∧ Q (.sh (.tuple (a ++ b)))) := rfl
theorem mul_i (i j : Int) : φMul (.int i) (.int j) Q = (CMulW i j ∧ Q (.sh (.int (i * j)))) := rfl
theorem mul_l (a : List PyData) (k : Int) : φMul (.list a) (.int k) Q = ((-(2 ^ 63) ≤ k ∧ k < 2 ^ 63 ∧ a.length * k.toNat ≤ sizeLine) ∧ Q (.nw (List.replicate k.toNat a).flatten)) := rfl
theorem sl_l (ds : List PyData) (l h : Option Int) : φSl (.list ds) l h Q = Q (.nw (cutD ds l h)) := rfl
theorem sl_t (ds : List PyData) (l h : Option Int) : φSl (.tuple ds) l h Q = Q (.sh (.tuple (cutD ds l h))) := rfl
theorem eq_i (n : Bool) (i j : Int) : φEq n (.int i) (.int j) Q = Q (.sh (.bool (if n then !decide (i = j) else decide (i = j)))) := rfl
theorem eq_s (n : Bool) (i j : Str) : φEq n (.str i) (.str j) Q = Q (.sh (.bool (if n then !decide (i = j) else decide (i = j)))) := rfl
theorem eq_l (n : Bool) (a b : List PyData) : φEq n (.list a) (.list b) Q = ((SeqAt.shaped (.list a) = true ∧ SeqAt.shaped (.list b) = true) ∧ Q (.sh (.bool (if n then !PyData.eqv (.list a) (.list b) else PyData.eqv (.list a) (.list b))))) := rfl
theorem eq_t (n : Bool) (a b : List PyData) : φEq n (.tuple a) (.tuple b) Q = ((SeqAt.shaped (.tuple a) = true ∧ SeqAt.shaped (.tuple b) = true) ∧ Q (.sh (.bool (if n then !PyData.eqv (.tuple a) (.tuple b) else PyData.eqv (.tuple a) (.tuple b))))) := rfl
theorem eq_b (n : Bool) (a b : Bool) : φEq n (.bool a) (.bool b) Q = ((SeqAt.shaped (.bool a) = true ∧ SeqAt.shaped (.bool b) = true) ∧ Q (.sh (.bool (if n then !PyData.eqv (.bool a) (.bool b) else PyData.eqv (.bool a) (.bool b))))) := rfl
theorem eq_n (n : Bool) : φEq n .none .none Q = ((SeqAt.shaped .none = true ∧ SeqAt.shaped .none = true) ∧ Q (.sh (.bool (if n then !PyData.eqv .none .none else PyData.eqv .none .none)))) := rfl
end
end Lp

namespace Lp
open PySem PySem.Spec PyProof.Rows L2
theorem its_l (ds : List PyData) : PyData.its (.list ds) = some ds := rfl
theorem its_t (ds : List PyData) : PyData.its (.tuple ds) = some ds := rfl
theorem isN_n : isN .none = true := rfl
theorem isN_b (b : Bool) : isN (.bool b) = false := rfl
theorem isN_i (z : Int) : isN (.int z) = false := rfl
theorem isN_s (x : Str) : isN (.str x) = false := rfl
theorem isN_l (ds : List PyData) : isN (.list ds) = false := rfl
theorem isN_t (ds : List PyData) : isN (.tuple ds) = false := rfl
theorem rd_sh (d : PyData) : R.dat (.sh d) = some d := rfl
theorem rd_nw (ds : List PyData) : R.dat (.nw ds) = some (.list ds) := rfl
theorem rd_br (i : Nat) (ds : List PyData) : R.dat (.br i ds) = some (.list ds) := rfl
theorem rp_sh (d : PyData) : R.pub (.sh d) = .sh d := rfl
theorem rp_nw (ds : List PyData) : R.pub (.nw ds) = .sh (.list ds) := rfl
theorem rp_br (i : Nat) (ds : List PyData) : R.pub (.br i ds) = .br i ds := rfl
theorem rp_bx : R.pub .bx = .bx := rfl
theorem rp_raw (v : V) : R.pub (.raw v) = .raw v := rfl
theorem rp_sr (i : Nat) (S : Int → Bool) (n : Nat) : R.pub (.sr i S n) = .sr i S n := rfl
theorem rr_sh (d : PyData) : R.ret (.sh d) = some (.sh d) := rfl
theorem rr_nw (ds : List PyData) : R.ret (.nw ds) = some (.nw ds) := rfl
theorem rr_br (i : Nat) (ds : List PyData) : R.ret (.br i ds) = some (.nw ds) := rfl
theorem ra_sh (d : PyData) : R.arg (.sh d) = some (.sh d) := rfl
theorem ra_br (i : Nat) (ds : List PyData) : R.arg (.br i ds) = some (.sh (.list ds)) := rfl
theorem ra_bx : R.arg .bx = some .bx := rfl
theorem ra_raw (v : V) : R.arg (.raw v) = some (.raw v) := rfl
theorem va_sh (o : Bool) (d : PyData) : val o (.sh d) = some (.sh d) := rfl
theorem va_nt (ds : List PyData) : val true (.nw ds) = some (.ow ds) := rfl
theorem va_nf (ds : List PyData) : val false (.nw ds) = some (.sh (.list ds)) := rfl
theorem va_raw (o : Bool) (v : V) : val o (.raw v) = some (.raw v) := rfl
theorem hb_n : hasBr [] = false := rfl
theorem hb_sh (d : PyData) (rs : List R) : hasBr (.sh d :: rs) = hasBr rs := rfl
theorem hb_bx (rs : List R) : hasBr (.bx :: rs) = hasBr rs := rfl
theorem hb_raw (v : V) (rs : List R) : hasBr (.raw v :: rs) = hasBr rs := rfl
theorem hb_br (i : Nat) (ds : List PyData) (rs : List R) : hasBr (.br i ds :: rs) = true := rfl
theorem sh_n : shs [] = some [] := rfl
theorem sh_c (d : PyData) (rs : List R) : shs (.sh d :: rs) = match shs rs with
    | some ds => some (d :: ds)
    | none => none := rfl
theorem tr_n : truD .none = some false := rfl
theorem tr_b (b : Bool) : truD (.bool b) = some b := rfl
theorem tr_i (z : Int) : truD (.int z) = some (z != 0) := rfl
theorem tr_l (ds : List PyData) : truD (.list ds) = some (!ds.isEmpty) := rfl
theorem tr_t (ds : List PyData) : truD (.tuple ds) = some (!ds.isEmpty) := rfl
theorem ty_n : tyD .none = "NoneType" := rfl
theorem ty_b (b : Bool) : tyD (.bool b) = "bool" := rfl
theorem ty_i (z : Int) : tyD (.int z) = "int" := rfl
theorem ty_s (x : Str) : tyD (.str x) = "str" := rfl
theorem ty_l (ds : List PyData) : tyD (.list ds) = "list" := rfl
theorem ty_t (ds : List PyData) : tyD (.tuple ds) = "tuple" := rfl
universe u
theorem if_ff {α : Sort u} (a b : α) : (if false = true then a else b) = b := rfl
theorem if_tt {α : Sort u} (a b : α) : (if true = true then a else b) = a := rfl
theorem sq_ {p q : DTS} {Δ : DEnds} {ε : Env} (h : p { Δ with nx := q Δ } ε) : dSeq p q Δ ε := h
theorem sqa_ {p q : DTS} {Δ : DEnds} {ε : Env} (h : ∀ D : Env → Prop, (∀ ε, q Δ ε → D ε) → p { Δ with nx := D } ε) : dSeq p q Δ ε := h _ fun _ z => z
theorem if_t {b : Bool} {A B : Prop} (h : b = true) (a : A) : if b = true then A else B := by rw [if_pos h]; exact a
theorem if_f {b : Bool} {A B : Prop} (h : b = false) (x : B) : if b = true then A else B := by rw [h]; exact iteF x
theorem it_t {P A B : Prop} [Decidable P] (h : P) (a : A) : if decide P = true then A else B := if_t (decide_eq_true h) a
theorem it_f {P A B : Prop} [Decidable P] (h : ¬ P) (x : B) : if decide P = true then A else B := if_f (decide_eq_false h) x
theorem it_2 {P A B : Prop} [Decidable P] (h : P → A) (k : ¬ P → B) : if decide P = true then A else B := by
  by_cases q : P
  · exact it_t q (h q)
  · exact it_f q (k q)
theorem in_t {P A B : Prop} [Decidable P] (h : ¬ P) (a : A) : if (!decide P) = true then A else B := if_t (by rw [decide_eq_false h]; rfl) a
theorem in_f {P A B : Prop} [Decidable P] (h : P) (x : B) : if (!decide P) = true then A else B := if_f (by rw [decide_eq_true h]; rfl) x
theorem in_2 {P A B : Prop} [Decidable P] (h : ¬ P → A) (k : P → B) : if (!decide P) = true then A else B := by
  by_cases q : P
  · exact in_f q (k q)
  · exact in_t q (h q)
/-- ints as a list or as a tuple -/
def sq (b : Bool) (ns : List Int) : PyData := match b with
  | true => .list (dI ns)
  | false => .tuple (dI ns)
theorem dI_len (ns : List Int) : (dI ns).length = ns.length := List.length_map ..
theorem dI_get {ns : List Int} {i : Nat} {z : Int} (h : ns[i]? = some z) : (dI ns)[i]? = some (.int z) := by rw [List.getElem?_map, h]; rfl
theorem dI_app (a b : List Int) : dI a ++ dI b = dI (a ++ b) := by
  show a.map _ ++ b.map _ = _
  rw [← List.map_append]
theorem dI_snoc (a : List Int) (z : Int) : dI a ++ [.int z] = dI (a ++ [z]) := dI_app a [z]
theorem dI_set (ns : List Int) (i : Nat) (z : Int) : (dI ns).set i (.int z) = dI (ns.set i z) := by
  exact (List.map_set ..).symm
theorem atI_nat {α : Type} {xs : List α} {i : Int} (h0 : 0 ≤ i) (h1 : i < (xs.length : Int)) : atI xs i = xs[i.toNat]? := by
  unfold atI ixN
  rw [if_pos h0, if_pos h1]; rfl
theorem atI_dI {ns : List Int} {i : Int} (h0 : 0 ≤ i) (h1 : i < (ns.length : Int)) : atI (dI ns) i = some (.int (gt ns i)) := by
  rw [atI_nat h0 (by rw [dI_len]; exact h1)]
  exact dI_get (gt_get h0 h1)
theorem atI_last {α : Type} {xs : List α} {v : α} (h : xs.getLast? = some v) : atI xs (-1) = some v := by
  have hn : xs ≠ [] := fun e => by rw [e] at h; cases h
  have hl : 0 < xs.length := List.length_pos_iff.mpr hn
  unfold atI ixN
  rw [if_neg (by decide), if_pos (by omega)]
  show xs[((-1 : Int) + (xs.length : Int)).toNat]? = some v
  rw [show ((-1 : Int) + (xs.length : Int)).toNat = xs.length - 1 by omega, ← List.getLast?_eq_getElem?]; exact h
theorem ixN_ok {n : Nat} {i : Int} (h0 : 0 ≤ i) (h1 : i < (n : Int)) : ixN n i = some i.toNat := by
  unfold ixN; rw [if_pos h0, if_pos h1]
theorem sIx_int (n d : Nat) (k : Int) (h : 0 ≤ k) : HT.sIx n d (some k) = min k.toNat n := by
  have e : k = ((k.toNat : Nat) : Int) := by omega
  rw [e]; rw [HT.sIx_nat]; congr 1
theorem cutD_from (ds : List PyData) (k : Int) (h : 0 ≤ k) : cutD ds (some k) none = ds.drop k.toNat := by
  unfold cutD
  rw [sIx_int _ _ _ h, HT.sIx_none]
  by_cases q : k.toNat ≤ ds.length
  · rw [Nat.min_eq_left q, List.take_of_length_le (by rw [List.length_drop]; exact Nat.le_refl _)]
  · rw [Nat.min_eq_right (by omega), List.drop_length, List.drop_eq_nil_of_le (by omega), List.take_nil]
theorem cutD_to (ds : List PyData) (k : Int) (h : 0 ≤ k) : cutD ds none (some k) = ds.take k.toNat := by
  unfold cutD
  rw [sIx_int _ _ _ h, HT.sIx_none, List.drop_zero, Nat.sub_zero]
  by_cases q : k.toNat ≤ ds.length
  · rw [Nat.min_eq_left q]
  · rw [Nat.min_eq_right (by omega), List.take_of_length_le (Nat.le_refl _), List.take_of_length_le (by omega)]
theorem dI_drop (ns : List Int) (k : Nat) : (dI ns).drop k = dI (ns.drop k) := by rw [← List.map_drop]
theorem dI_take (ns : List Int) (k : Nat) : (dI ns).take k = dI (ns.take k) := by rw [← List.map_take]
theorem flatsD_dI : ∀ ns : List Int, flatsD (dI ns) = some (IL ns)
  | [] => rfl
  | x :: r => by
    show (match flatD (.int x), flatsD (dI r) with | some v, some vs => some (v :: vs) | _, _ => none) = _
    rw [flatsD_dI r]; rfl
/-- x in xs, ints -/
theorem φIn_dI {neg : Bool} {z : Int} {d : PyData} {ns : List Int} {Q : R → Prop} (hd : PyData.its d = some (dI ns)) (q : Q (.sh (.bool (if neg then !decide (z ∈ ns) else decide (z ∈ ns))))) : φIn neg (.int z) d Q := by
  unfold φIn
  rw [hd]
  show (match flatD (.int z), flatsD (dI ns) with | some v, some vs => Q (.sh (.bool (if neg then !inV v vs else inV v vs))) | _, _ => _)
  rw [flatsD_dI]
  show Q (.sh (.bool (if neg then !inV (.int z) (IL ns) else inV (.int z) (IL ns))))
  rw [inV_ints]; exact q
/-- a state: people 0 .. n - 1, at most 1000 -/
structure Stt (ns : List Int) : Prop where
  lo : Low ns.length ns
  le : ns.length ≤ 1000
  ge : 1 ≤ ns.length
def Per (ns : List Int) (p : Int) : Prop := 0 ≤ p ∧ p < (ns.length : Int)
theorem Stt.gt {ns : List Int} (h : Stt ns) {p : Int} (hp : Per ns p) : Per ns (gt ns p) := gt_low h.lo hp.1 hp.2
/-- check_person: state, person -/
def b_check_person : DTS := (dIfS (dNot (dTest (dChain (φB fun i j => decide (i ≤ j)) (φB fun i j => decide (i < j)) (dC (.int 0)) (dVar 1) (dCB φLen (dCons (dVar 0) dNil))))) dNever dNext)
abbrev k_check_person : Nat := 0
def p_check_person : DSp := fun args c Q => ∃ (d : PyData) (ds : List PyData) (p : Int), args = [.sh d, .sh (.int p)] ∧ PyData.its d = some ds ∧ 0 ≤ p ∧ p < (ds.length : Int) ∧ Q (.sh .none) c
theorem mon_check_person : MonF p_check_person := fun args c A B h ⟨d, ds, p, e, h1, h2, h3, q⟩ => ⟨d, ds, p, e, h1, h2, h3, h _ _ q⟩
theorem m_check_person : ∀ args c Q, p_check_person args c Q → defF k_check_person b_check_person args c Q := by
  rintro _ c Q ⟨d, ds, p, rfl, h1, h2, h3, q⟩
  show b_check_person _ ⟨[.sh d, .sh (.int p)], c⟩
  unfold b_check_person
  try dsimp only [dVar_, gv_sh, gv_ow, gv_bx, gv_raw, gv_st, dC, dRaw, dOp, dUn, dTest, dTruth, dAnd, dOr, dNot, dYes, dIf, dAndV, dOrV, dNotV, dNotT, dChain, dNil, dCons, dTup, dLst, dats, dCB, dNoP, dPart, dSl, dNext, dBreak, dCont, dNever, dDrop, dRet, dRetN, dIfS, dSetG, dPar, dPar3, dAppend, dAppPop, dSetIx, dExt, dAug, dSet0, dSAdd, dSNotIn, dIter_, gi_l, gi_t, gi_b, dRng1, dRng2, dName, dGNil, dGCons, dGTup, dAsg, dFor, dWhile, dCall, dCallR, dArgs_, ga_f, ga_t, argsOf, dLc, wipeE, dListRg, dIndex, dSortSet, dSortSc, dEnum, dEnA, dZip, dIsi, dIsi2, isaT, φI, φB, φC, φNeg, add_i, add_l, add_t, mul_i, mul_l, φIx, sl_l, sl_t, eq_i, eq_s, eq_l, eq_t, eq_b, eq_n, φIsN, isN_n, isN_b, isN_i, isN_s, isN_l, isN_t, φLen, φList, φTuple, φAbs, φInt, φMax, φIsB, φIsNB, its_l, its_t, rd_sh, rd_nw, rd_br, rp_sh, rp_nw, rp_br, rp_bx, rp_raw, rp_sr, rr_sh, rr_nw, rr_br, ra_sh, ra_br, ra_bx, ra_raw, va_sh, va_nt, va_nf, va_raw, hb_n, hb_sh, hb_bx, hb_raw, hb_br, sh_n, sh_c, tr_n, tr_b, tr_i, tr_l, tr_t, ty_n, ty_b, ty_i, ty_s, ty_l, ty_t, if_ff, if_tt, Env.set, List.getElem?_cons_succ, List.getElem?_cons_zero, List.set_cons_succ, List.set_cons_zero, List.reverse_cons, List.reverse_nil, List.nil_append, List.cons_append, Option.bind_some, ite_true, ite_false]
  rw [h1]
  exact it_t h2 (in_f h3 q)
def ofO : Option Int → PyData
  | none => .none
  | some z => .int z
def dO (os : List (Option Int)) : List PyData := os.map ofO
def gO (os : List (Option Int)) (p : Int) : Option Int := os.getD p.toNat none
def routeOG (os : List (Option Int)) : Nat → List Int → Option Int → List Int
  | 0, acc, _ => acc
  | _ + 1, acc, none => acc
  | k + 1, acc, some z => if z ∈ acc then acc else routeOG os k (acc ++ [z]) (gO os z)
def routeO (os : List (Option Int)) (p : Int) : List Int := routeOG os (os.length + 1) [] (some p)
def LowO (n : Nat) (os : List (Option Int)) : Prop := ∀ z, some z ∈ os → 0 ≤ z ∧ z < (n : Int)
theorem dO_len (os : List (Option Int)) : (dO os).length = os.length := List.length_map ..
theorem gO_at {os : List (Option Int)} {p : Int} (h0 : 0 ≤ p) (h1 : p < (os.length : Int)) : atI (dO os) p = some (ofO (gO os p)) := by
  rw [atI_nat h0 (by rw [dO_len]; exact h1)]
  unfold dO gO
  rw [List.getElem?_map, List.getD_eq_getElem?_getD, List.getElem?_eq_getElem (by omega)]; rfl
theorem gO_low {n : Nat} {os : List (Option Int)} (lo : LowO n os) {p z : Int} (h1 : p < (os.length : Int)) (h0 : 0 ≤ p) (e : gO os p = some z) : 0 ≤ z ∧ z < (n : Int) := by
  refine lo z ?_
  unfold gO at e
  rw [List.getD_eq_getElem?_getD, List.getElem?_eq_getElem (show p.toNat < os.length by omega)] at e
  rw [← show _ = some z from e]; exact List.getElem_mem _
theorem dO_ints (ns : List Int) : dO (ns.map some) = dI ns := by
  unfold dO
  show _ = ns.map _
  rw [List.map_map]; rfl
theorem LowO.of {n : Nat} {ns : List Int} (lo : Low n ns) : LowO n (ns.map some) := fun z hz => by
  obtain ⟨y, hy, e⟩ := List.mem_map.mp hz
  cases e
  exact lo z hy
theorem gO_some {ns : List Int} {p : Int} (h0 : 0 ≤ p) (h1 : p < (ns.length : Int)) : gO (ns.map some) p = some (gt ns p) := by
  unfold gO gt
  rw [List.getD_eq_getElem?_getD, List.getD_eq_getElem?_getD, List.getElem?_map, List.getElem?_eq_getElem (show p.toNat < ns.length by omega)]; rfl
theorem routeOG_some {ns : List Int} (lo : Low ns.length ns) : ∀ (k : Nat) (acc : List Int) (p : Int), 0 ≤ p → p < (ns.length : Int) → routeOG (ns.map some) k acc (some p) = routeG ns k acc p
  | 0, _, _, _, _ => rfl
  | k + 1, acc, p, h0, h1 => by
    unfold routeOG routeG
    rw [gO_some h0 h1]
    have := gt_low lo h0 h1
    rw [routeOG_some lo k _ _ this.1 this.2]
theorem routeO_some {ns : List Int} (lo : Low ns.length ns) {p : Int} (h0 : 0 ≤ p) (h1 : p < (ns.length : Int)) : routeO (ns.map some) p = routeF ns p := by
  unfold routeO routeF
  rw [List.length_map]
  exact routeOG_some lo _ _ _ h0 h1
/-- route_from: pointers, person, route, seen, at -/
def b_route_from : DTS := (dSeq (dSetG true 2 (dLst dNil))
  (dSeq (dSet0 3)
  (dSeq (dSetG false 4 (dVar 1))
  (dSeq (dWhile (dAnd (dTest (dOp (φIsN true) (dVar 4) (dC .none))) (dTest (dSNotIn (dVar 4) (dVar 3)))) (dSeq (dSAdd 3 (dVar 4))
  (dSeq (dAppend 2 (dVar 4))
  (dSetG false 4 (dOp φIx (dVar 0) (dVar 4))))))
  (dRet (dVar 2))))))
abbrev k_route_from : Nat := 3
def p_route_from : DSp := fun args c Q => ∃ (d : PyData) (os : List (Option Int)) (p : Int), args = [.sh d, .sh (.int p)] ∧ PyData.its d = some (dO os) ∧ LowO os.length os ∧ os.length ≤ 1000 ∧ 0 ≤ p ∧ p < (os.length : Int) ∧ Q (.nw (dI (routeO os p))) c
theorem mon_route_from : MonF p_route_from := fun args c A B h ⟨d, os, p, e, h1, h2, h3, h4, h5, q⟩ => ⟨d, os, p, e, h1, h2, h3, h4, h5, h _ _ q⟩
theorem route_loop {d : PyData} {os : List (Option Int)} (hd : PyData.its d = some (dO os)) (lo : LowO os.length os) (le : os.length ≤ 1000) {x : SV} {c : Nat} {Δ : DEnds} :
    ∀ (k : Nat) (acc : List Int) (at_ : Option Int), acc.Nodup → Low os.length acc → (∀ z, at_ = some z → 0 ≤ z ∧ z < (os.length : Int)) → os.length < k + acc.length →
      (∀ S n y, Δ.nx ⟨[.sh d, x, .ow (dI (routeOG os k acc at_)), .st S n, y], c⟩) →
      whileN (dAnd (dTest (dOp (φIsN true) (dVar 4) (dC .none))) (dTest (dSNotIn (dVar 4) (dVar 3)))) (dSeq (dSAdd 3 (dVar 4)) (dSeq (dAppend 2 (dVar 4)) (dSetG false 4 (dOp φIx (dVar 0) (dVar 4))))) Δ (k + 1) ⟨[.sh d, x, .ow (dI acc), .st (fun j => decide (j ∈ acc)) acc.length, .sh (ofO at_)], c⟩
  | 0, acc, at_, nd, la, _, hk, _ => by
    have := low_len os.length acc nd la
    omega
  | k + 1, acc, none, nd, la, _, hk, q => by
    unfold whileN
    dsimp only [ofO]
    try dsimp only [dVar_, gv_sh, gv_ow, gv_bx, gv_raw, gv_st, dC, dRaw, dOp, dUn, dTest, dTruth, dAnd, dOr, dNot, dYes, dIf, dAndV, dOrV, dNotV, dNotT, dChain, dNil, dCons, dTup, dLst, dats, dCB, dNoP, dPart, dSl, dNext, dBreak, dCont, dNever, dDrop, dRet, dRetN, dIfS, dSetG, dPar, dPar3, dAppend, dAppPop, dSetIx, dExt, dAug, dSet0, dSAdd, dSNotIn, dIter_, gi_l, gi_t, gi_b, dRng1, dRng2, dName, dGNil, dGCons, dGTup, dAsg, dFor, dWhile, dCall, dCallR, dArgs_, ga_f, ga_t, argsOf, dLc, wipeE, dListRg, dIndex, dSortSet, dSortSc, dEnum, dEnA, dZip, dIsi, dIsi2, isaT, φI, φB, φC, φNeg, add_i, add_l, add_t, mul_i, mul_l, φIx, sl_l, sl_t, eq_i, eq_s, eq_l, eq_t, eq_b, eq_n, φIsN, isN_n, isN_b, isN_i, isN_s, isN_l, isN_t, φLen, φList, φTuple, φAbs, φInt, φMax, φIsB, φIsNB, its_l, its_t, rd_sh, rd_nw, rd_br, rp_sh, rp_nw, rp_br, rp_bx, rp_raw, rp_sr, rr_sh, rr_nw, rr_br, ra_sh, ra_br, ra_bx, ra_raw, va_sh, va_nt, va_nf, va_raw, hb_n, hb_sh, hb_bx, hb_raw, hb_br, sh_n, sh_c, tr_n, tr_b, tr_i, tr_l, tr_t, ty_n, ty_b, ty_i, ty_s, ty_l, ty_t, if_ff, if_tt, Env.set, List.getElem?_cons_succ, List.getElem?_cons_zero, List.set_cons_succ, List.set_cons_zero, List.reverse_cons, List.reverse_nil, List.nil_append, List.cons_append, Option.bind_some, ite_true, ite_false]
    exact q _ _ _
  | k + 1, acc, some z, nd, la, hz, hk, q => by
    unfold whileN
    dsimp only [ofO]
    try dsimp only [dVar_, gv_sh, gv_ow, gv_bx, gv_raw, gv_st, dC, dRaw, dOp, dUn, dTest, dTruth, dAnd, dOr, dNot, dYes, dIf, dAndV, dOrV, dNotV, dNotT, dChain, dNil, dCons, dTup, dLst, dats, dCB, dNoP, dPart, dSl, dNext, dBreak, dCont, dNever, dDrop, dRet, dRetN, dIfS, dSetG, dPar, dPar3, dAppend, dAppPop, dSetIx, dExt, dAug, dSet0, dSAdd, dSNotIn, dIter_, gi_l, gi_t, gi_b, dRng1, dRng2, dName, dGNil, dGCons, dGTup, dAsg, dFor, dWhile, dCall, dCallR, dArgs_, ga_f, ga_t, argsOf, dLc, wipeE, dListRg, dIndex, dSortSet, dSortSc, dEnum, dEnA, dZip, dIsi, dIsi2, isaT, φI, φB, φC, φNeg, add_i, add_l, add_t, mul_i, mul_l, φIx, sl_l, sl_t, eq_i, eq_s, eq_l, eq_t, eq_b, eq_n, φIsN, isN_n, isN_b, isN_i, isN_s, isN_l, isN_t, φLen, φList, φTuple, φAbs, φInt, φMax, φIsB, φIsNB, its_l, its_t, rd_sh, rd_nw, rd_br, rp_sh, rp_nw, rp_br, rp_bx, rp_raw, rp_sr, rr_sh, rr_nw, rr_br, ra_sh, ra_br, ra_bx, ra_raw, va_sh, va_nt, va_nf, va_raw, hb_n, hb_sh, hb_bx, hb_raw, hb_br, sh_n, sh_c, tr_n, tr_b, tr_i, tr_l, tr_t, ty_n, ty_b, ty_i, ty_s, ty_l, ty_t, if_ff, if_tt, Env.set, List.getElem?_cons_succ, List.getElem?_cons_zero, List.set_cons_succ, List.set_cons_zero, List.reverse_cons, List.reverse_nil, List.nil_append, List.cons_append, Option.bind_some, ite_true, ite_false]
    unfold routeOG at q
    obtain ⟨z0, z1⟩ := hz z rfl
    have hl := low_len os.length acc nd la
    by_cases hm : z ∈ acc
    · rw [if_pos hm] at q
      refine in_f hm ?_
      exact q _ _ _
    · rw [if_neg hm] at q
      refine in_t hm ?_
      refine sq_ ?_
      try dsimp only [dVar_, gv_sh, gv_ow, gv_bx, gv_raw, gv_st, dC, dRaw, dOp, dUn, dTest, dTruth, dAnd, dOr, dNot, dYes, dIf, dAndV, dOrV, dNotV, dNotT, dChain, dNil, dCons, dTup, dLst, dats, dCB, dNoP, dPart, dSl, dNext, dBreak, dCont, dNever, dDrop, dRet, dRetN, dIfS, dSetG, dPar, dPar3, dAppend, dAppPop, dSetIx, dExt, dAug, dSet0, dSAdd, dSNotIn, dIter_, gi_l, gi_t, gi_b, dRng1, dRng2, dName, dGNil, dGCons, dGTup, dAsg, dFor, dWhile, dCall, dCallR, dArgs_, ga_f, ga_t, argsOf, dLc, wipeE, dListRg, dIndex, dSortSet, dSortSc, dEnum, dEnA, dZip, dIsi, dIsi2, isaT, φI, φB, φC, φNeg, add_i, add_l, add_t, mul_i, mul_l, φIx, sl_l, sl_t, eq_i, eq_s, eq_l, eq_t, eq_b, eq_n, φIsN, isN_n, isN_b, isN_i, isN_s, isN_l, isN_t, φLen, φList, φTuple, φAbs, φInt, φMax, φIsB, φIsNB, its_l, its_t, rd_sh, rd_nw, rd_br, rp_sh, rp_nw, rp_br, rp_bx, rp_raw, rp_sr, rr_sh, rr_nw, rr_br, ra_sh, ra_br, ra_bx, ra_raw, va_sh, va_nt, va_nf, va_raw, hb_n, hb_sh, hb_bx, hb_raw, hb_br, sh_n, sh_c, tr_n, tr_b, tr_i, tr_l, tr_t, ty_n, ty_b, ty_i, ty_s, ty_l, ty_t, if_ff, if_tt, Env.set, List.getElem?_cons_succ, List.getElem?_cons_zero, List.set_cons_succ, List.set_cons_zero, List.reverse_cons, List.reverse_nil, List.nil_append, List.cons_append, Option.bind_some, ite_true, ite_false]
      refine ⟨show acc.length + 1 < 4096 by omega, ?_⟩
      refine sq_ ?_
      try dsimp only [dVar_, gv_sh, gv_ow, gv_bx, gv_raw, gv_st, dC, dRaw, dOp, dUn, dTest, dTruth, dAnd, dOr, dNot, dYes, dIf, dAndV, dOrV, dNotV, dNotT, dChain, dNil, dCons, dTup, dLst, dats, dCB, dNoP, dPart, dSl, dNext, dBreak, dCont, dNever, dDrop, dRet, dRetN, dIfS, dSetG, dPar, dPar3, dAppend, dAppPop, dSetIx, dExt, dAug, dSet0, dSAdd, dSNotIn, dIter_, gi_l, gi_t, gi_b, dRng1, dRng2, dName, dGNil, dGCons, dGTup, dAsg, dFor, dWhile, dCall, dCallR, dArgs_, ga_f, ga_t, argsOf, dLc, wipeE, dListRg, dIndex, dSortSet, dSortSc, dEnum, dEnA, dZip, dIsi, dIsi2, isaT, φI, φB, φC, φNeg, add_i, add_l, add_t, mul_i, mul_l, φIx, sl_l, sl_t, eq_i, eq_s, eq_l, eq_t, eq_b, eq_n, φIsN, isN_n, isN_b, isN_i, isN_s, isN_l, isN_t, φLen, φList, φTuple, φAbs, φInt, φMax, φIsB, φIsNB, its_l, its_t, rd_sh, rd_nw, rd_br, rp_sh, rp_nw, rp_br, rp_bx, rp_raw, rp_sr, rr_sh, rr_nw, rr_br, ra_sh, ra_br, ra_bx, ra_raw, va_sh, va_nt, va_nf, va_raw, hb_n, hb_sh, hb_bx, hb_raw, hb_br, sh_n, sh_c, tr_n, tr_b, tr_i, tr_l, tr_t, ty_n, ty_b, ty_i, ty_s, ty_l, ty_t, if_ff, if_tt, Env.set, List.getElem?_cons_succ, List.getElem?_cons_zero, List.set_cons_succ, List.set_cons_zero, List.reverse_cons, List.reverse_nil, List.nil_append, List.cons_append, Option.bind_some, ite_true, ite_false]
      refine ⟨show (dI acc).length < 16777216 by rw [dI_len]; omega, ?_⟩
      rw [hd]
      refine ⟨_, gO_at z0 z1, ?_⟩
      rw [dI_snoc, show (fun j => decide (j ∈ acc) || decide (j = z)) = fun j => decide (j ∈ acc ++ [z]) by funext j; simp]
      have e : (if decide (z ∈ acc) = true then acc.length else acc.length + 1) = (acc ++ [z]).length := by rw [if_neg (by simp [hm]), List.length_append]; rfl
      rw [e]
      refine route_loop hd lo le k (acc ++ [z]) (gO os z) (Nodup.snoc nd hm) ?_ ?_ (by rw [List.length_append]; show os.length < k + (acc.length + 1); omega) q
      · intro y hy
        rcases List.mem_append.mp hy with h | h
        · exact la y h
        · rw [List.mem_singleton.mp h]; exact ⟨z0, z1⟩
      · intro y hy
        exact gO_low lo z1 z0 hy
theorem m_route_from : ∀ args c Q, p_route_from args c Q → defF k_route_from b_route_from args c Q := by
  rintro _ c Q ⟨d, os, p, rfl, h1, h2, h3, h4, h5, q⟩
  show b_route_from _ ⟨[.sh d, .sh (.int p), .un, .un, .un], c⟩
  unfold b_route_from
  refine sq_ ?_
  try dsimp only [dVar_, gv_sh, gv_ow, gv_bx, gv_raw, gv_st, dC, dRaw, dOp, dUn, dTest, dTruth, dAnd, dOr, dNot, dYes, dIf, dAndV, dOrV, dNotV, dNotT, dChain, dNil, dCons, dTup, dLst, dats, dCB, dNoP, dPart, dSl, dNext, dBreak, dCont, dNever, dDrop, dRet, dRetN, dIfS, dSetG, dPar, dPar3, dAppend, dAppPop, dSetIx, dExt, dAug, dSet0, dSAdd, dSNotIn, dIter_, gi_l, gi_t, gi_b, dRng1, dRng2, dName, dGNil, dGCons, dGTup, dAsg, dFor, dWhile, dCall, dCallR, dArgs_, ga_f, ga_t, argsOf, dLc, wipeE, dListRg, dIndex, dSortSet, dSortSc, dEnum, dEnA, dZip, dIsi, dIsi2, isaT, φI, φB, φC, φNeg, add_i, add_l, add_t, mul_i, mul_l, φIx, sl_l, sl_t, eq_i, eq_s, eq_l, eq_t, eq_b, eq_n, φIsN, isN_n, isN_b, isN_i, isN_s, isN_l, isN_t, φLen, φList, φTuple, φAbs, φInt, φMax, φIsB, φIsNB, its_l, its_t, rd_sh, rd_nw, rd_br, rp_sh, rp_nw, rp_br, rp_bx, rp_raw, rp_sr, rr_sh, rr_nw, rr_br, ra_sh, ra_br, ra_bx, ra_raw, va_sh, va_nt, va_nf, va_raw, hb_n, hb_sh, hb_bx, hb_raw, hb_br, sh_n, sh_c, tr_n, tr_b, tr_i, tr_l, tr_t, ty_n, ty_b, ty_i, ty_s, ty_l, ty_t, if_ff, if_tt, Env.set, List.getElem?_cons_succ, List.getElem?_cons_zero, List.set_cons_succ, List.set_cons_zero, List.reverse_cons, List.reverse_nil, List.nil_append, List.cons_append, Option.bind_some, ite_true, ite_false]
  refine sq_ ?_
  try dsimp only [dVar_, gv_sh, gv_ow, gv_bx, gv_raw, gv_st, dC, dRaw, dOp, dUn, dTest, dTruth, dAnd, dOr, dNot, dYes, dIf, dAndV, dOrV, dNotV, dNotT, dChain, dNil, dCons, dTup, dLst, dats, dCB, dNoP, dPart, dSl, dNext, dBreak, dCont, dNever, dDrop, dRet, dRetN, dIfS, dSetG, dPar, dPar3, dAppend, dAppPop, dSetIx, dExt, dAug, dSet0, dSAdd, dSNotIn, dIter_, gi_l, gi_t, gi_b, dRng1, dRng2, dName, dGNil, dGCons, dGTup, dAsg, dFor, dWhile, dCall, dCallR, dArgs_, ga_f, ga_t, argsOf, dLc, wipeE, dListRg, dIndex, dSortSet, dSortSc, dEnum, dEnA, dZip, dIsi, dIsi2, isaT, φI, φB, φC, φNeg, add_i, add_l, add_t, mul_i, mul_l, φIx, sl_l, sl_t, eq_i, eq_s, eq_l, eq_t, eq_b, eq_n, φIsN, isN_n, isN_b, isN_i, isN_s, isN_l, isN_t, φLen, φList, φTuple, φAbs, φInt, φMax, φIsB, φIsNB, its_l, its_t, rd_sh, rd_nw, rd_br, rp_sh, rp_nw, rp_br, rp_bx, rp_raw, rp_sr, rr_sh, rr_nw, rr_br, ra_sh, ra_br, ra_bx, ra_raw, va_sh, va_nt, va_nf, va_raw, hb_n, hb_sh, hb_bx, hb_raw, hb_br, sh_n, sh_c, tr_n, tr_b, tr_i, tr_l, tr_t, ty_n, ty_b, ty_i, ty_s, ty_l, ty_t, if_ff, if_tt, Env.set, List.getElem?_cons_succ, List.getElem?_cons_zero, List.set_cons_succ, List.set_cons_zero, List.reverse_cons, List.reverse_nil, List.nil_append, List.cons_append, Option.bind_some, ite_true, ite_false]
  refine sq_ ?_
  try dsimp only [dVar_, gv_sh, gv_ow, gv_bx, gv_raw, gv_st, dC, dRaw, dOp, dUn, dTest, dTruth, dAnd, dOr, dNot, dYes, dIf, dAndV, dOrV, dNotV, dNotT, dChain, dNil, dCons, dTup, dLst, dats, dCB, dNoP, dPart, dSl, dNext, dBreak, dCont, dNever, dDrop, dRet, dRetN, dIfS, dSetG, dPar, dPar3, dAppend, dAppPop, dSetIx, dExt, dAug, dSet0, dSAdd, dSNotIn, dIter_, gi_l, gi_t, gi_b, dRng1, dRng2, dName, dGNil, dGCons, dGTup, dAsg, dFor, dWhile, dCall, dCallR, dArgs_, ga_f, ga_t, argsOf, dLc, wipeE, dListRg, dIndex, dSortSet, dSortSc, dEnum, dEnA, dZip, dIsi, dIsi2, isaT, φI, φB, φC, φNeg, add_i, add_l, add_t, mul_i, mul_l, φIx, sl_l, sl_t, eq_i, eq_s, eq_l, eq_t, eq_b, eq_n, φIsN, isN_n, isN_b, isN_i, isN_s, isN_l, isN_t, φLen, φList, φTuple, φAbs, φInt, φMax, φIsB, φIsNB, its_l, its_t, rd_sh, rd_nw, rd_br, rp_sh, rp_nw, rp_br, rp_bx, rp_raw, rp_sr, rr_sh, rr_nw, rr_br, ra_sh, ra_br, ra_bx, ra_raw, va_sh, va_nt, va_nf, va_raw, hb_n, hb_sh, hb_bx, hb_raw, hb_br, sh_n, sh_c, tr_n, tr_b, tr_i, tr_l, tr_t, ty_n, ty_b, ty_i, ty_s, ty_l, ty_t, if_ff, if_tt, Env.set, List.getElem?_cons_succ, List.getElem?_cons_zero, List.set_cons_succ, List.set_cons_zero, List.reverse_cons, List.reverse_nil, List.nil_append, List.cons_append, Option.bind_some, ite_true, ite_false]
  refine sq_ ?_
  try dsimp only [dVar_, gv_sh, gv_ow, gv_bx, gv_raw, gv_st, dC, dRaw, dOp, dUn, dTest, dTruth, dAnd, dOr, dNot, dYes, dIf, dAndV, dOrV, dNotV, dNotT, dChain, dNil, dCons, dTup, dLst, dats, dCB, dNoP, dPart, dSl, dNext, dBreak, dCont, dNever, dDrop, dRet, dRetN, dIfS, dSetG, dPar, dPar3, dAppend, dAppPop, dSetIx, dExt, dAug, dSet0, dSAdd, dSNotIn, dIter_, gi_l, gi_t, gi_b, dRng1, dRng2, dName, dGNil, dGCons, dGTup, dAsg, dFor, dWhile, dCall, dCallR, dArgs_, ga_f, ga_t, argsOf, dLc, wipeE, dListRg, dIndex, dSortSet, dSortSc, dEnum, dEnA, dZip, dIsi, dIsi2, isaT, φI, φB, φC, φNeg, add_i, add_l, add_t, mul_i, mul_l, φIx, sl_l, sl_t, eq_i, eq_s, eq_l, eq_t, eq_b, eq_n, φIsN, isN_n, isN_b, isN_i, isN_s, isN_l, isN_t, φLen, φList, φTuple, φAbs, φInt, φMax, φIsB, φIsNB, its_l, its_t, rd_sh, rd_nw, rd_br, rp_sh, rp_nw, rp_br, rp_bx, rp_raw, rp_sr, rr_sh, rr_nw, rr_br, ra_sh, ra_br, ra_bx, ra_raw, va_sh, va_nt, va_nf, va_raw, hb_n, hb_sh, hb_bx, hb_raw, hb_br, sh_n, sh_c, tr_n, tr_b, tr_i, tr_l, tr_t, ty_n, ty_b, ty_i, ty_s, ty_l, ty_t, if_ff, if_tt, Env.set, List.getElem?_cons_succ, List.getElem?_cons_zero, List.set_cons_succ, List.set_cons_zero, List.reverse_cons, List.reverse_nil, List.nil_append, List.cons_append, Option.bind_some, ite_true, ite_false]
  refine ⟨os.length + 1 + 1, route_loop h1 h2 h3 (os.length + 1) [] (some p) List.nodup_nil (fun _ h => nomatch h) (fun z h => by cases h; exact ⟨h4, h5⟩) (by show os.length < os.length + 1 + 0; omega) ?_⟩
  intro S n y
  try dsimp only [dVar_, gv_sh, gv_ow, gv_bx, gv_raw, gv_st, dC, dRaw, dOp, dUn, dTest, dTruth, dAnd, dOr, dNot, dYes, dIf, dAndV, dOrV, dNotV, dNotT, dChain, dNil, dCons, dTup, dLst, dats, dCB, dNoP, dPart, dSl, dNext, dBreak, dCont, dNever, dDrop, dRet, dRetN, dIfS, dSetG, dPar, dPar3, dAppend, dAppPop, dSetIx, dExt, dAug, dSet0, dSAdd, dSNotIn, dIter_, gi_l, gi_t, gi_b, dRng1, dRng2, dName, dGNil, dGCons, dGTup, dAsg, dFor, dWhile, dCall, dCallR, dArgs_, ga_f, ga_t, argsOf, dLc, wipeE, dListRg, dIndex, dSortSet, dSortSc, dEnum, dEnA, dZip, dIsi, dIsi2, isaT, φI, φB, φC, φNeg, add_i, add_l, add_t, mul_i, mul_l, φIx, sl_l, sl_t, eq_i, eq_s, eq_l, eq_t, eq_b, eq_n, φIsN, isN_n, isN_b, isN_i, isN_s, isN_l, isN_t, φLen, φList, φTuple, φAbs, φInt, φMax, φIsB, φIsNB, its_l, its_t, rd_sh, rd_nw, rd_br, rp_sh, rp_nw, rp_br, rp_bx, rp_raw, rp_sr, rr_sh, rr_nw, rr_br, ra_sh, ra_br, ra_bx, ra_raw, va_sh, va_nt, va_nf, va_raw, hb_n, hb_sh, hb_bx, hb_raw, hb_br, sh_n, sh_c, tr_n, tr_b, tr_i, tr_l, tr_t, ty_n, ty_b, ty_i, ty_s, ty_l, ty_t, if_ff, if_tt, Env.set, List.getElem?_cons_succ, List.getElem?_cons_zero, List.set_cons_succ, List.set_cons_zero, List.reverse_cons, List.reverse_nil, List.nil_append, List.cons_append, Option.bind_some, ite_true, ite_false]
  exact q
theorem its_cases {d : PyData} {ds : List PyData} (h : PyData.its d = some ds) : d = .list ds ∨ d = .tuple ds := by
  cases d <;> first | (cases h; exact .inl rfl) | (cases h; exact .inr rfl) | cases h
theorem for_cons {γ : DTG} {p : DTS} {Δ : DEnds} {d : PyData} {ds : List PyData} {ε : Env} (h : γ d ε fun ε1 => p { nx := forD γ p Δ ds, rt := Δ.rt, bk := Δ.nx, ct := forD γ p Δ ds } ε1) : forD γ p Δ (d :: ds) ε := h
theorem for_nil {γ : DTG} {p : DTS} {Δ : DEnds} {ε : Env} (h : Δ.nx ε) : forD γ p Δ [] ε := h
theorem lc_cons {γ : DTG} {c : DTT} {f : DTE} {vs : List Nat} {s : List SV} {Q : R → Env → Prop} {d : PyData} {ds acc : List PyData} {n : Nat} (h : γ d ⟨wipeE ⟨s, n⟩ vs, n⟩ fun ε1 => c ε1 fun b ε2 => if b = true then f ε2 fun r ε3 => match r.pub with
      | .sh e => acc.length < sizeLine ∧ lcD γ c f vs s Q ds (acc ++ [e]) ε3.c
      | _ => False
    else lcD γ c f vs s Q ds acc ε2.c) : lcD γ c f vs s Q (d :: ds) acc n := h
theorem lc_all {α : Type} {γ : DTG} {f : DTE} {vs : List Nat} {s : List SV} {Q : R → Env → Prop} {n : Nat} (h e : α → PyData) : ∀ (xs : List α) (acc : List PyData),
    (∀ x ∈ xs, ∀ K : R → Env → Prop, (∀ r ε, r.pub = .sh (e x) → ε.c = n → K r ε) → γ (h x) ⟨wipeE ⟨s, n⟩ vs, n⟩ fun ε1 => f ε1 K) →
    acc.length + xs.length ≤ 16777216 → Q (.nw (acc ++ xs.map e)) ⟨s, n⟩ → lcD γ dYes f vs s Q (xs.map h) acc n
  | [], acc, _, _, q => by
    rw [List.map_nil, List.append_nil] at q
    exact q
  | x :: xs, acc, st, le, q => by
    rw [List.length_cons] at le
    rw [List.map_cons]
    refine lc_cons ?_
    refine st x List.mem_cons_self (fun r ε3 => match r.pub with
      | .sh e => acc.length < sizeLine ∧ lcD γ dYes f vs s Q (xs.map h) (acc ++ [e]) ε3.c
      | _ => False) fun r ε hr hc => ?_
    rw [hr, hc]
    refine ⟨show acc.length < 16777216 by omega, ?_⟩
    refine lc_all h e xs (acc ++ [e x]) (fun y hy => st y (List.mem_cons_of_mem _ hy)) (by rw [List.length_append, List.length_singleton]; omega) ?_
    rw [List.append_assoc]; exact q
theorem lc_if {α : Type} {γ : DTG} {c : DTT} {f : DTE} {vs : List Nat} {s : List SV} {Q : R → Env → Prop} {n : Nat} (h e : α → PyData) (k : α → Bool) : ∀ (xs : List α) (acc : List PyData),
    (∀ x ∈ xs, ∀ (Y : R → Env → Prop) (N : Env → Prop), (k x = true → ∀ r ε, r.pub = .sh (e x) → ε.c = n → Y r ε) → (k x = false → ∀ ε, ε.c = n → N ε) → γ (h x) ⟨wipeE ⟨s, n⟩ vs, n⟩ fun ε1 => c ε1 fun b ε2 => if b = true then f ε2 Y else N ε2) →
    acc.length + xs.length ≤ 16777216 → Q (.nw (acc ++ (xs.filter k).map e)) ⟨s, n⟩ → lcD γ c f vs s Q (xs.map h) acc n
  | [], acc, _, _, q => by
    rw [List.filter_nil, List.map_nil, List.append_nil] at q
    exact q
  | x :: xs, acc, st, le, q => by
    rw [List.length_cons] at le
    rw [List.map_cons]
    refine lc_cons ?_
    refine st x List.mem_cons_self (fun r ε3 => match r.pub with
      | .sh e => acc.length < sizeLine ∧ lcD γ c f vs s Q (xs.map h) (acc ++ [e]) ε3.c
      | _ => False) (fun ε => lcD γ c f vs s Q (xs.map h) acc ε.c) (fun hk r ε hr hc => ?_) fun hk ε hc => ?_
    · rw [hr, hc]
      refine ⟨show acc.length < 16777216 by omega, ?_⟩
      refine lc_if h e k xs (acc ++ [e x]) (fun y hy => st y (List.mem_cons_of_mem _ hy)) (by rw [List.length_append, List.length_singleton]; omega) ?_
      rw [List.filter_cons_of_pos hk, List.map_cons] at q
      rw [List.append_assoc]; exact q
    · rw [hc]
      refine lc_if h e k xs acc (fun y hy => st y (List.mem_cons_of_mem _ hy)) (by omega) ?_
      rw [List.filter_cons_of_neg (by rw [hk]; exact fun z => nomatch z)] at q
      exact q
theorem sc_all {α : Type} {γ : DTG} {f : DTE} {vs : List Nat} {s : List SV} {Q : R → Env → Prop} {n : Nat} (h : α → PyData) (e : α → List Int) : ∀ (xs : List α) (acc : List (List Int)),
    (∀ x ∈ xs, e x ≠ [] ∧ ∀ K : R → Env → Prop, (∀ ε, ε.c = n → K (.sh (.tuple (dI (e x)))) ε) → γ (h x) ⟨wipeE ⟨s, n⟩ vs, n⟩ fun ε1 => f ε1 K) →
    acc.length + xs.length < 64 → (∀ RS, Asc (acc ++ xs.map e) RS → Q (.nw (dT RS)) ⟨s, n⟩) → scD γ f vs s Q (xs.map h) acc n
  | [], acc, _, _, q => by
    rw [List.map_nil, List.append_nil] at q
    exact q
  | x :: xs, acc, st, le, q => by
    rw [List.length_cons] at le
    rw [List.map_cons]
    obtain ⟨ne, st1⟩ := st x List.mem_cons_self
    unfold scD
    refine st1 _ fun ε hc => ?_
    dsimp only
    rw [intsD_dI, hc]
    cases ex : e x with
    | nil => exact absurd ex ne
    | cons y ys =>
      refine ⟨by omega, ?_⟩
      refine sc_all h e xs (acc ++ [y :: ys]) (fun y hy => st y (List.mem_cons_of_mem _ hy)) (by rw [List.length_append, List.length_singleton]; omega) ?_
      rw [← ex, List.append_assoc]; exact q
def rq (b : Bool) (ns : List Int) : R := match b with
  | true => .nw (dI ns)
  | false => .sh (.tuple (dI ns))
def turnTo (ms : List Int) (z : Int) : List Int := ms.drop (ms.idxOf z) ++ ms.take (ms.idxOf z)
theorem turnTo_len (ms : List Int) (z : Int) : (turnTo ms z).length = ms.length := by
  unfold turnTo
  rw [List.length_append, List.length_drop, List.length_take]; omega
/-- turned: members, first, at -/
def b_turned : DTS := (dSeq (dSetG false 2 (dIndex (dVar 0) (dVar 1)))
  (dRet (dOp φAdd (dSl φSl (dVar 0) (dPart (dVar 2)) dNoP) (dSl φSl (dVar 0) dNoP (dPart (dVar 2))))))
abbrev k_turned : Nat := 1
def p_turned : DSp := fun args c Q => ∃ (b : Bool) (ms : List Int) (z : Int), args = [.sh (sq b ms), .sh (.int z)] ∧ z ∈ ms ∧ ms.length ≤ 1000000 ∧ Q (rq b (turnTo ms z)) c
theorem mon_turned : MonF p_turned := fun args c A B h ⟨d, os, p, e, h1, h2, q⟩ => ⟨d, os, p, e, h1, h2, h _ _ q⟩
theorem m_turned : ∀ args c Q, p_turned args c Q → defF k_turned b_turned args c Q := by
  rintro _ c Q ⟨b, ms, z, rfl, h1, h2, q⟩
  have hl : ((dI ms).drop (ms.idxOf z)).length + ((dI ms).take (ms.idxOf z)).length ≤ 16777216 := by
    rw [List.length_drop, List.length_take, dI_len]; omega
  have e : (dI ms).drop (ms.idxOf z) ++ (dI ms).take (ms.idxOf z) = dI (turnTo ms z) := by rw [dI_drop, dI_take, dI_app]; rfl
  cases b with
  | true =>
    show b_turned _ ⟨[.sh (.list (dI ms)), .sh (.int z), .un], c⟩
    refine sq_ ?_
    try dsimp only [dVar_, gv_sh, gv_ow, gv_bx, gv_raw, gv_st, dC, dRaw, dOp, dUn, dTest, dTruth, dAnd, dOr, dNot, dYes, dIf, dAndV, dOrV, dNotV, dNotT, dChain, dNil, dCons, dTup, dLst, dats, dCB, dNoP, dPart, dSl, dNext, dBreak, dCont, dNever, dDrop, dRet, dRetN, dIfS, dSetG, dPar, dPar3, dAppend, dAppPop, dSetIx, dExt, dAug, dSet0, dSAdd, dSNotIn, dIter_, gi_l, gi_t, gi_b, dRng1, dRng2, dName, dGNil, dGCons, dGTup, dAsg, dFor, dWhile, dCall, dCallR, dArgs_, ga_f, ga_t, argsOf, dLc, wipeE, dListRg, dIndex, dSortSet, dSortSc, dEnum, dEnA, dZip, dIsi, dIsi2, isaT, φI, φB, φC, φNeg, add_i, add_l, add_t, mul_i, mul_l, φIx, sl_l, sl_t, eq_i, eq_s, eq_l, eq_t, eq_b, eq_n, φIsN, isN_n, isN_b, isN_i, isN_s, isN_l, isN_t, φLen, φList, φTuple, φAbs, φInt, φMax, φIsB, φIsNB, its_l, its_t, rd_sh, rd_nw, rd_br, rp_sh, rp_nw, rp_br, rp_bx, rp_raw, rp_sr, rr_sh, rr_nw, rr_br, ra_sh, ra_br, ra_bx, ra_raw, va_sh, va_nt, va_nf, va_raw, hb_n, hb_sh, hb_bx, hb_raw, hb_br, sh_n, sh_c, tr_n, tr_b, tr_i, tr_l, tr_t, ty_n, ty_b, ty_i, ty_s, ty_l, ty_t, if_ff, if_tt, Env.set, List.getElem?_cons_succ, List.getElem?_cons_zero, List.set_cons_succ, List.set_cons_zero, List.reverse_cons, List.reverse_nil, List.nil_append, List.cons_append, Option.bind_some, ite_true, ite_false]
    rw [intsD_dI]
    refine ⟨h1, ?_⟩
    rw [cutD_from _ _ (Int.natCast_nonneg _), cutD_to _ _ (Int.natCast_nonneg _), Int.toNat_natCast, e]
    exact ⟨hl, q⟩
  | false =>
    show b_turned _ ⟨[.sh (.tuple (dI ms)), .sh (.int z), .un], c⟩
    refine sq_ ?_
    try dsimp only [dVar_, gv_sh, gv_ow, gv_bx, gv_raw, gv_st, dC, dRaw, dOp, dUn, dTest, dTruth, dAnd, dOr, dNot, dYes, dIf, dAndV, dOrV, dNotV, dNotT, dChain, dNil, dCons, dTup, dLst, dats, dCB, dNoP, dPart, dSl, dNext, dBreak, dCont, dNever, dDrop, dRet, dRetN, dIfS, dSetG, dPar, dPar3, dAppend, dAppPop, dSetIx, dExt, dAug, dSet0, dSAdd, dSNotIn, dIter_, gi_l, gi_t, gi_b, dRng1, dRng2, dName, dGNil, dGCons, dGTup, dAsg, dFor, dWhile, dCall, dCallR, dArgs_, ga_f, ga_t, argsOf, dLc, wipeE, dListRg, dIndex, dSortSet, dSortSc, dEnum, dEnA, dZip, dIsi, dIsi2, isaT, φI, φB, φC, φNeg, add_i, add_l, add_t, mul_i, mul_l, φIx, sl_l, sl_t, eq_i, eq_s, eq_l, eq_t, eq_b, eq_n, φIsN, isN_n, isN_b, isN_i, isN_s, isN_l, isN_t, φLen, φList, φTuple, φAbs, φInt, φMax, φIsB, φIsNB, its_l, its_t, rd_sh, rd_nw, rd_br, rp_sh, rp_nw, rp_br, rp_bx, rp_raw, rp_sr, rr_sh, rr_nw, rr_br, ra_sh, ra_br, ra_bx, ra_raw, va_sh, va_nt, va_nf, va_raw, hb_n, hb_sh, hb_bx, hb_raw, hb_br, sh_n, sh_c, tr_n, tr_b, tr_i, tr_l, tr_t, ty_n, ty_b, ty_i, ty_s, ty_l, ty_t, if_ff, if_tt, Env.set, List.getElem?_cons_succ, List.getElem?_cons_zero, List.set_cons_succ, List.set_cons_zero, List.reverse_cons, List.reverse_nil, List.nil_append, List.cons_append, Option.bind_some, ite_true, ite_false]
    rw [intsD_dI]
    refine ⟨h1, ?_⟩
    rw [cutD_from _ _ (Int.natCast_nonneg _), cutD_to _ _ (Int.natCast_nonneg _), Int.toNat_natCast, e]
    exact ⟨hl, q⟩
theorem dI_last {ns : List Int} {z : Int} (h : ns.getLast? = some z) : (dI ns).getLast? = some (.int z) := by
  rw [List.getLast?_map, h]; rfl
theorem φMin_dI {d : PyData} {ns : List Int} {Q : R → Prop} (hd : PyData.its d = some (dI ns)) (ne : ns ≠ []) (q : ∀ m, IsMin ns m → Q (.sh (.int m))) : φMin [d] Q := by
  have e : (PyData.its d).bind intsD = some ns := by rw [hd]; exact intsD_dI ns
  rcases its_cases hd with rfl | rfl
  · unfold φMin
    dsimp only
    rw [e]
    exact ⟨List.length_pos_iff.mpr ne, q⟩
  · unfold φMin
    dsimp only
    rw [e]
    exact ⟨List.length_pos_iff.mpr ne, q⟩
theorem Stt.rt {ns : List Int} (h : Stt ns) {p : Int} (hp : Per ns p) : Route ns p (routeF ns p) := routeF_ok h.lo hp.1 hp.2
theorem route_low {ns : List Int} (h : Stt ns) {p : Int} (hp : Per ns p) : Low ns.length (routeF ns p) := by
  obtain ⟨L, e, nd, hin⟩ := h.rt hp
  intro z hz
  rw [e] at hz
  obtain ⟨i, _, ei⟩ := itrs_mem.mp hz
  rw [← ei]; exact itr_low h.lo hp.1 hp.2 i
theorem route_len {ns : List Int} (h : Stt ns) {p : Int} (hp : Per ns p) : 1 ≤ (routeF ns p).length ∧ (routeF ns p).length ≤ ns.length := by
  obtain ⟨L, e, nd, hin⟩ := h.rt hp
  refine ⟨?_, low_len ns.length _ nd (route_low h hp)⟩
  exact List.length_pos_iff.mpr fun z => by rw [z] at hin; cases hin
/-- the last one of a route, and whom they point at -/
theorem route_last {ns : List Int} (h : Stt ns) {p : Int} (hp : Per ns p) : ∃ l, (routeF ns p).getLast? = some l ∧ Per ns l ∧ gt ns l ∈ routeF ns p ∧ (routeF ns p).getLastD 0 = l := by
  obtain ⟨L, e, nd, hin⟩ := h.rt hp
  have l1 := (route_len h hp).1
  have hL : (routeF ns p).length = L := by rw [e, itrs_len]
  have el : (routeF ns p)[L - 1]? = some (itr ns p (L - 1)) := by rw [e]; exact itrs_get (by omega)
  have e2 : (routeF ns p).getLast? = some (itr ns p (L - 1)) := by rw [List.getLast?_eq_getElem?, hL]; exact el
  refine ⟨itr ns p (L - 1), e2, itr_low h.lo hp.1 hp.2 _, ?_, ?_⟩
  · have : gt ns (itr ns p (L - 1)) = itr ns p L := by
      have : L = L - 1 + 1 := by omega
      rw [this]; rfl
    rw [this]; exact hin
  · rw [List.getLastD_eq_getLast?, e2]; rfl
/-- ring_begin: state, route -/
def b_ring_begin : DTS := (dRet (dIndex (dVar 1) (dOp φIx (dVar 0) (dOp φIx (dVar 1) (dUn φNeg (dC (.int 1)))))))
abbrev k_ring_begin : Nat := 0
def p_ring_begin : DSp := fun args c Q => ∃ (d e : PyData) (ns : List Int) (p : Int), args = [.sh d, .sh e] ∧ PyData.its d = some (dI ns) ∧ Stt ns ∧ Per ns p ∧ PyData.its e = some (dI (routeF ns p)) ∧ Q (.sh (.int (heightF ns p : Nat))) c
theorem mon_ring_begin : MonF p_ring_begin := fun args c A B h ⟨d, e, ns, p, ea, h1, h2, h3, h4, q⟩ => ⟨d, e, ns, p, ea, h1, h2, h3, h4, h _ _ q⟩
theorem m_ring_begin : ∀ args c Q, p_ring_begin args c Q → defF k_ring_begin b_ring_begin args c Q := by
  rintro _ c Q ⟨d, e, ns, p, rfl, h1, h2, h3, h4, q⟩
  show b_ring_begin _ ⟨[.sh d, .sh e], c⟩
  unfold b_ring_begin
  try dsimp only [dVar_, gv_sh, gv_ow, gv_bx, gv_raw, gv_st, dC, dRaw, dOp, dUn, dTest, dTruth, dAnd, dOr, dNot, dYes, dIf, dAndV, dOrV, dNotV, dNotT, dChain, dNil, dCons, dTup, dLst, dats, dCB, dNoP, dPart, dSl, dNext, dBreak, dCont, dNever, dDrop, dRet, dRetN, dIfS, dSetG, dPar, dPar3, dAppend, dAppPop, dSetIx, dExt, dAug, dSet0, dSAdd, dSNotIn, dIter_, gi_l, gi_t, gi_b, dRng1, dRng2, dName, dGNil, dGCons, dGTup, dAsg, dFor, dWhile, dCall, dCallR, dArgs_, ga_f, ga_t, argsOf, dLc, wipeE, dListRg, dIndex, dSortSet, dSortSc, dEnum, dEnA, dZip, dIsi, dIsi2, isaT, φI, φB, φC, φNeg, add_i, add_l, add_t, mul_i, mul_l, φIx, sl_l, sl_t, eq_i, eq_s, eq_l, eq_t, eq_b, eq_n, φIsN, isN_n, isN_b, isN_i, isN_s, isN_l, isN_t, φLen, φList, φTuple, φAbs, φInt, φMax, φIsB, φIsNB, its_l, its_t, rd_sh, rd_nw, rd_br, rp_sh, rp_nw, rp_br, rp_bx, rp_raw, rp_sr, rr_sh, rr_nw, rr_br, ra_sh, ra_br, ra_bx, ra_raw, va_sh, va_nt, va_nf, va_raw, hb_n, hb_sh, hb_bx, hb_raw, hb_br, sh_n, sh_c, tr_n, tr_b, tr_i, tr_l, tr_t, ty_n, ty_b, ty_i, ty_s, ty_l, ty_t, if_ff, if_tt, Env.set, List.getElem?_cons_succ, List.getElem?_cons_zero, List.set_cons_succ, List.set_cons_zero, List.reverse_cons, List.reverse_nil, List.nil_append, List.cons_append, Option.bind_some, ite_true, ite_false]
  obtain ⟨l, l1, l2, l3, l4⟩ := route_last h2 h3
  rw [h4]
  dsimp only
  rw [h1]
  refine ⟨_, atI_last (dI_last l1), ?_⟩
  dsimp only
  refine ⟨_, atI_dI l2.1 l2.2, ?_⟩
  rw [intsD_dI]
  refine ⟨l3, ?_⟩
  unfold heightF beginF at q
  rw [l4] at q
  exact q
/-- ring_of: state, person, route, members -/
def b_ring_of : DTS := (dSeq (dDrop (dCall p_check_person (dCons (dVar 0) (dCons (dVar 1) dNil))))
  (dSeq (dSetG false 2 (dCall p_route_from (dCons (dVar 0) (dCons (dVar 1) dNil))))
  (dSeq (dSetG false 3 (dSl φSl (dVar 2) (dPart (dCall p_ring_begin (dCons (dVar 0) (dCons (dVar 2) dNil)))) dNoP))
  (dRet (dCB φTuple (dCons (dCall p_turned (dCons (dVar 3) (dCons (dCB φMin (dCons (dVar 3) dNil)) dNil))) dNil))))))
abbrev k_ring_of : Nat := 2
def p_ring_of : DSp := fun args c Q => ∃ (d : PyData) (ns : List Int) (p : Int), args = [.sh d, .sh (.int p)] ∧ PyData.its d = some (dI ns) ∧ Stt ns ∧ Per ns p ∧ Q (.sh (.tuple (dI (ringF ns p)))) c
theorem mon_ring_of : MonF p_ring_of := fun args c A B h ⟨d, ns, p, ea, h1, h2, h3, q⟩ => ⟨d, ns, p, ea, h1, h2, h3, h _ _ q⟩
theorem dI_lenI (ns : List Int) : ((dI ns).length : Int) = ns.length := by rw [dI_len]
theorem c_check {d : PyData} {ns : List Int} {p : Int} {c : Nat} {Q : R → Nat → Prop} (h1 : PyData.its d = some (dI ns)) (hp : Per ns p) (q : Q (.sh .none) c) : p_check_person [.sh d, .sh (.int p)] c Q :=
  ⟨d, dI ns, p, rfl, h1, hp.1, by rw [dI_lenI]; exact hp.2, q⟩
theorem c_route {d : PyData} {ns : List Int} {p : Int} {c : Nat} {Q : R → Nat → Prop} (h1 : PyData.its d = some (dI ns)) (h2 : Stt ns) (hp : Per ns p) (q : Q (.nw (dI (routeF ns p))) c) : p_route_from [.sh d, .sh (.int p)] c Q :=
  ⟨d, ns.map some, p, rfl, by rw [dO_ints]; exact h1, by rw [List.length_map]; exact .of h2.lo, by rw [List.length_map]; exact h2.le, hp.1, by rw [List.length_map]; exact hp.2, by rw [routeO_some h2.lo hp.1 hp.2]; exact q⟩
theorem begin_lt {ns : List Int} (h : Stt ns) {p : Int} (hp : Per ns p) : heightF ns p < (routeF ns p).length := by
  obtain ⟨l, l1, l2, l3, l4⟩ := route_last h hp
  unfold heightF beginF
  rw [l4]; exact List.idxOf_lt_length_of_mem l3
theorem m_ring_of : ∀ args c Q, p_ring_of args c Q → defF k_ring_of b_ring_of args c Q := by
  rintro _ c Q ⟨d, ns, p, rfl, h1, h2, h3, q⟩
  show b_ring_of _ ⟨[.sh d, .sh (.int p), .un, .un], c⟩
  unfold b_ring_of
  refine sq_ ?_
  try dsimp only [dVar_, gv_sh, gv_ow, gv_bx, gv_raw, gv_st, dC, dRaw, dOp, dUn, dTest, dTruth, dAnd, dOr, dNot, dYes, dIf, dAndV, dOrV, dNotV, dNotT, dChain, dNil, dCons, dTup, dLst, dats, dCB, dNoP, dPart, dSl, dNext, dBreak, dCont, dNever, dDrop, dRet, dRetN, dIfS, dSetG, dPar, dPar3, dAppend, dAppPop, dSetIx, dExt, dAug, dSet0, dSAdd, dSNotIn, dIter_, gi_l, gi_t, gi_b, dRng1, dRng2, dName, dGNil, dGCons, dGTup, dAsg, dFor, dWhile, dCall, dCallR, dArgs_, ga_f, ga_t, argsOf, dLc, wipeE, dListRg, dIndex, dSortSet, dSortSc, dEnum, dEnA, dZip, dIsi, dIsi2, isaT, φI, φB, φC, φNeg, add_i, add_l, add_t, mul_i, mul_l, φIx, sl_l, sl_t, eq_i, eq_s, eq_l, eq_t, eq_b, eq_n, φIsN, isN_n, isN_b, isN_i, isN_s, isN_l, isN_t, φLen, φList, φTuple, φAbs, φInt, φMax, φIsB, φIsNB, its_l, its_t, rd_sh, rd_nw, rd_br, rp_sh, rp_nw, rp_br, rp_bx, rp_raw, rp_sr, rr_sh, rr_nw, rr_br, ra_sh, ra_br, ra_bx, ra_raw, va_sh, va_nt, va_nf, va_raw, hb_n, hb_sh, hb_bx, hb_raw, hb_br, sh_n, sh_c, tr_n, tr_b, tr_i, tr_l, tr_t, ty_n, ty_b, ty_i, ty_s, ty_l, ty_t, if_ff, if_tt, Env.set, List.getElem?_cons_succ, List.getElem?_cons_zero, List.set_cons_succ, List.set_cons_zero, List.reverse_cons, List.reverse_nil, List.nil_append, List.cons_append, Option.bind_some, ite_true, ite_false]
  refine c_check h1 h3 ?_
  refine sq_ ?_
  try dsimp only [dVar_, gv_sh, gv_ow, gv_bx, gv_raw, gv_st, dC, dRaw, dOp, dUn, dTest, dTruth, dAnd, dOr, dNot, dYes, dIf, dAndV, dOrV, dNotV, dNotT, dChain, dNil, dCons, dTup, dLst, dats, dCB, dNoP, dPart, dSl, dNext, dBreak, dCont, dNever, dDrop, dRet, dRetN, dIfS, dSetG, dPar, dPar3, dAppend, dAppPop, dSetIx, dExt, dAug, dSet0, dSAdd, dSNotIn, dIter_, gi_l, gi_t, gi_b, dRng1, dRng2, dName, dGNil, dGCons, dGTup, dAsg, dFor, dWhile, dCall, dCallR, dArgs_, ga_f, ga_t, argsOf, dLc, wipeE, dListRg, dIndex, dSortSet, dSortSc, dEnum, dEnA, dZip, dIsi, dIsi2, isaT, φI, φB, φC, φNeg, add_i, add_l, add_t, mul_i, mul_l, φIx, sl_l, sl_t, eq_i, eq_s, eq_l, eq_t, eq_b, eq_n, φIsN, isN_n, isN_b, isN_i, isN_s, isN_l, isN_t, φLen, φList, φTuple, φAbs, φInt, φMax, φIsB, φIsNB, its_l, its_t, rd_sh, rd_nw, rd_br, rp_sh, rp_nw, rp_br, rp_bx, rp_raw, rp_sr, rr_sh, rr_nw, rr_br, ra_sh, ra_br, ra_bx, ra_raw, va_sh, va_nt, va_nf, va_raw, hb_n, hb_sh, hb_bx, hb_raw, hb_br, sh_n, sh_c, tr_n, tr_b, tr_i, tr_l, tr_t, ty_n, ty_b, ty_i, ty_s, ty_l, ty_t, if_ff, if_tt, Env.set, List.getElem?_cons_succ, List.getElem?_cons_zero, List.set_cons_succ, List.set_cons_zero, List.reverse_cons, List.reverse_nil, List.nil_append, List.cons_append, Option.bind_some, ite_true, ite_false]
  refine c_route h1 h2 h3 ?_
  refine sq_ ?_
  try dsimp only [dVar_, gv_sh, gv_ow, gv_bx, gv_raw, gv_st, dC, dRaw, dOp, dUn, dTest, dTruth, dAnd, dOr, dNot, dYes, dIf, dAndV, dOrV, dNotV, dNotT, dChain, dNil, dCons, dTup, dLst, dats, dCB, dNoP, dPart, dSl, dNext, dBreak, dCont, dNever, dDrop, dRet, dRetN, dIfS, dSetG, dPar, dPar3, dAppend, dAppPop, dSetIx, dExt, dAug, dSet0, dSAdd, dSNotIn, dIter_, gi_l, gi_t, gi_b, dRng1, dRng2, dName, dGNil, dGCons, dGTup, dAsg, dFor, dWhile, dCall, dCallR, dArgs_, ga_f, ga_t, argsOf, dLc, wipeE, dListRg, dIndex, dSortSet, dSortSc, dEnum, dEnA, dZip, dIsi, dIsi2, isaT, φI, φB, φC, φNeg, add_i, add_l, add_t, mul_i, mul_l, φIx, sl_l, sl_t, eq_i, eq_s, eq_l, eq_t, eq_b, eq_n, φIsN, isN_n, isN_b, isN_i, isN_s, isN_l, isN_t, φLen, φList, φTuple, φAbs, φInt, φMax, φIsB, φIsNB, its_l, its_t, rd_sh, rd_nw, rd_br, rp_sh, rp_nw, rp_br, rp_bx, rp_raw, rp_sr, rr_sh, rr_nw, rr_br, ra_sh, ra_br, ra_bx, ra_raw, va_sh, va_nt, va_nf, va_raw, hb_n, hb_sh, hb_bx, hb_raw, hb_br, sh_n, sh_c, tr_n, tr_b, tr_i, tr_l, tr_t, ty_n, ty_b, ty_i, ty_s, ty_l, ty_t, if_ff, if_tt, Env.set, List.getElem?_cons_succ, List.getElem?_cons_zero, List.set_cons_succ, List.set_cons_zero, List.reverse_cons, List.reverse_nil, List.nil_append, List.cons_append, Option.bind_some, ite_true, ite_false]
  refine ⟨d, _, ns, p, rfl, h1, h2, h3, its_l _, ?_⟩
  try dsimp only [dVar_, gv_sh, gv_ow, gv_bx, gv_raw, gv_st, dC, dRaw, dOp, dUn, dTest, dTruth, dAnd, dOr, dNot, dYes, dIf, dAndV, dOrV, dNotV, dNotT, dChain, dNil, dCons, dTup, dLst, dats, dCB, dNoP, dPart, dSl, dNext, dBreak, dCont, dNever, dDrop, dRet, dRetN, dIfS, dSetG, dPar, dPar3, dAppend, dAppPop, dSetIx, dExt, dAug, dSet0, dSAdd, dSNotIn, dIter_, gi_l, gi_t, gi_b, dRng1, dRng2, dName, dGNil, dGCons, dGTup, dAsg, dFor, dWhile, dCall, dCallR, dArgs_, ga_f, ga_t, argsOf, dLc, wipeE, dListRg, dIndex, dSortSet, dSortSc, dEnum, dEnA, dZip, dIsi, dIsi2, isaT, φI, φB, φC, φNeg, add_i, add_l, add_t, mul_i, mul_l, φIx, sl_l, sl_t, eq_i, eq_s, eq_l, eq_t, eq_b, eq_n, φIsN, isN_n, isN_b, isN_i, isN_s, isN_l, isN_t, φLen, φList, φTuple, φAbs, φInt, φMax, φIsB, φIsNB, its_l, its_t, rd_sh, rd_nw, rd_br, rp_sh, rp_nw, rp_br, rp_bx, rp_raw, rp_sr, rr_sh, rr_nw, rr_br, ra_sh, ra_br, ra_bx, ra_raw, va_sh, va_nt, va_nf, va_raw, hb_n, hb_sh, hb_bx, hb_raw, hb_br, sh_n, sh_c, tr_n, tr_b, tr_i, tr_l, tr_t, ty_n, ty_b, ty_i, ty_s, ty_l, ty_t, if_ff, if_tt, Env.set, List.getElem?_cons_succ, List.getElem?_cons_zero, List.set_cons_succ, List.set_cons_zero, List.reverse_cons, List.reverse_nil, List.nil_append, List.cons_append, Option.bind_some, ite_true, ite_false]
  rw [cutD_from _ _ (Int.natCast_nonneg _), Int.toNat_natCast, dI_drop]
  have hne : (routeF ns p).drop (heightF ns p) ≠ [] := fun e => by
    have := congrArg List.length e
    have h := begin_lt h2 h3
    rw [List.length_drop] at this
    rw [List.length_nil] at this
    omega
  have hl : ((routeF ns p).drop (heightF ns p)).length ≤ 1000 := by
    rw [List.length_drop]
    have := (route_len h2 h3).2
    have := h2.le
    omega
  refine φMin_dI (its_l _) hne fun m hm => ?_
  refine ⟨true, _, m, rfl, hm.1, by omega, ?_⟩
  try dsimp only [dVar_, gv_sh, gv_ow, gv_bx, gv_raw, gv_st, dC, dRaw, dOp, dUn, dTest, dTruth, dAnd, dOr, dNot, dYes, dIf, dAndV, dOrV, dNotV, dNotT, dChain, dNil, dCons, dTup, dLst, dats, dCB, dNoP, dPart, dSl, dNext, dBreak, dCont, dNever, dDrop, dRet, dRetN, dIfS, dSetG, dPar, dPar3, dAppend, dAppPop, dSetIx, dExt, dAug, dSet0, dSAdd, dSNotIn, dIter_, gi_l, gi_t, gi_b, dRng1, dRng2, dName, dGNil, dGCons, dGTup, dAsg, dFor, dWhile, dCall, dCallR, dArgs_, ga_f, ga_t, argsOf, dLc, wipeE, dListRg, dIndex, dSortSet, dSortSc, dEnum, dEnA, dZip, dIsi, dIsi2, isaT, φI, φB, φC, φNeg, add_i, add_l, add_t, mul_i, mul_l, φIx, sl_l, sl_t, eq_i, eq_s, eq_l, eq_t, eq_b, eq_n, φIsN, isN_n, isN_b, isN_i, isN_s, isN_l, isN_t, φLen, φList, φTuple, φAbs, φInt, φMax, φIsB, φIsNB, its_l, its_t, rd_sh, rd_nw, rd_br, rp_sh, rp_nw, rp_br, rp_bx, rp_raw, rp_sr, rr_sh, rr_nw, rr_br, ra_sh, ra_br, ra_bx, ra_raw, va_sh, va_nt, va_nf, va_raw, hb_n, hb_sh, hb_bx, hb_raw, hb_br, sh_n, sh_c, tr_n, tr_b, tr_i, tr_l, tr_t, ty_n, ty_b, ty_i, ty_s, ty_l, ty_t, if_ff, if_tt, Env.set, List.getElem?_cons_succ, List.getElem?_cons_zero, List.set_cons_succ, List.set_cons_zero, List.reverse_cons, List.reverse_nil, List.nil_append, List.cons_append, Option.bind_some, ite_true, ite_false, rq]
  have em : m = minF ((routeF ns p).drop (heightF ns p)) := by
    have := minF_ok hne
    exact Int.le_antisymm (hm.2 _ this.1) (this.2 _ hm.1)
  rw [em]
  exact q
end Lp

namespace Lp
open PySem PySem.Spec PyProof.Rows L2
local macro_rules | `(tactic| rfl') => `(tactic| try dsimp only [dVar_, gv_sh, gv_ow, gv_bx, gv_raw, gv_st, dC, dRaw, dOp, dUn, dTest, dTruth, dAnd, dOr, dNot, dYes, dIf, dAndV, dOrV, dNotV, dNotT, dChain, dNil, dCons, dTup, dLst, dats, dCB, dNoP, dPart, dSl, dNext, dBreak, dCont, dNever, dDrop, dRet, dRetN, dIfS, dSetG, dPar, dPar3, dAppend, dAppPop, dSetIx, dExt, dAug, dSet0, dSAdd, dSNotIn, dIter_, gi_l, gi_t, gi_b, dRng1, dRng2, dName, dGNil, dGCons, dGTup, dAsg, dFor, dWhile, dCall, dCallR, dArgs_, ga_f, ga_t, argsOf, dLc, wipeE, dListRg, dIndex, dSortSet, dSortSc, dEnum, dEnA, dZip, dIsi, dIsi2, isaT, φI, φB, φC, φNeg, add_i, add_l, add_t, mul_i, mul_l, φIx, sl_l, sl_t, eq_i, eq_s, eq_l, eq_t, eq_b, eq_n, φIsN, isN_n, isN_b, isN_i, isN_s, isN_l, isN_t, φLen, φList, φTuple, φAbs, φInt, φMax, φIsB, φIsNB, its_l, its_t, rd_sh, rd_nw, rd_br, rp_sh, rp_nw, rp_br, rp_bx, rp_raw, rp_sr, rr_sh, rr_nw, rr_br, ra_sh, ra_br, ra_bx, ra_raw, va_sh, va_nt, va_nf, va_raw, hb_n, hb_sh, hb_bx, hb_raw, hb_br, sh_n, sh_c, tr_n, tr_b, tr_i, tr_l, tr_t, ty_n, ty_b, ty_i, ty_s, ty_l, ty_t, if_ff, if_tt, Env.set, List.getElem?_cons_succ, List.getElem?_cons_zero, List.set_cons_succ, List.set_cons_zero, List.reverse_cons, List.reverse_nil, List.nil_append, List.cons_append, Option.bind_some, ite_true, ite_false])
theorem rg0 (n : Nat) : rgD 0 n = (List.range n).map fun i : Nat => .int (i : Nat) := by
  unfold rgD
  exact List.map_congr_left fun i _ => by rw [Int.zero_add]
theorem per_nat {ns : List Int} {j : Nat} (h : j < ns.length) : Per ns (j : Int) := ⟨Int.natCast_nonneg _, by omega⟩
theorem c_ring {d : PyData} {ns : List Int} {p : Int} {c : Nat} {Q : R → Nat → Prop} (h1 : PyData.its d = some (dI ns)) (h2 : Stt ns) (hp : Per ns p) (q : Q (.sh (.tuple (dI (ringF ns p)))) c) : p_ring_of [.sh d, .sh (.int p)] c Q := ⟨d, ns, p, rfl, h1, h2, hp, q⟩
theorem ring_ne {ns : List Int} (h : Stt ns) {p : Int} (hp : Per ns p) : ringF ns p ≠ [] := by
  unfold ringF
  refine turnF_ne fun e => ?_
  have := congrArg List.length e
  have h := begin_lt h hp
  rw [List.length_drop, List.length_nil] at this
  unfold heightF at h
  omega
theorem Stt.rg {ns : List Int} (h : Stt ns) : -(2 ^ 62) ≤ (ns.length : Int) ∧ (ns.length : Int) < 2 ^ 62 := by have := h.le; omega
/-- rings: state, person -/
def b_rings : DTS := (dRet (dSortSc (dRng1 (dCons (dCB φLen (dCons (dVar 0) dNil)) dNil)) (dName 1) (dCall p_ring_of (dCons (dVar 0) (dCons (dVar 1) dNil))) [1]))
abbrev k_rings : Nat := 1
def p_rings : DSp := fun args c Q => ∃ (d : PyData) (ns : List Int), args = [.sh d] ∧ PyData.its d = some (dI ns) ∧ Stt ns ∧ ns.length < 64 ∧ ∀ RS, RingsOf ns RS → Q (.nw (dT RS)) c
theorem mon_rings : MonF p_rings := fun args c A B h ⟨d, ns, ea, h1, h2, h3, q⟩ => ⟨d, ns, ea, h1, h2, h3, fun RS hR => h _ _ (q RS hR)⟩
theorem asc_rings {ns : List Int} {RS : List (List Int)} (h : Asc ((List.range ns.length).map fun i : Nat => ringF ns (i : Int)) RS) : RingsOf ns RS := by
  refine ⟨h.1, h.2.1, fun k => (h.2.2 k).trans ?_⟩
  rw [List.mem_map]
  constructor
  · rintro ⟨j, hj, e⟩; exact ⟨j, List.mem_range.mp hj, e⟩
  · rintro ⟨j, hj, e⟩; exact ⟨j, List.mem_range.mpr hj, e⟩
theorem m_rings : ∀ args c Q, p_rings args c Q → defF k_rings b_rings args c Q := by
  rintro _ c Q ⟨d, ns, rfl, h1, h2, h3, q⟩
  show b_rings _ ⟨[.sh d, .un], c⟩
  unfold b_rings
  rfl'
  rw [h1]
  dsimp only
  rw [dI_len]
  refine ⟨h2.rg, ?_⟩
  rw [Int.toNat_natCast, rg0]
  refine sc_all _ (fun i : Nat => ringF ns (i : Int)) (List.range ns.length) [] (fun i hi => ?_) (by rw [List.length_range]; exact Nat.lt_of_le_of_lt (Nat.le_of_eq (Nat.zero_add _)) h3) fun RS hR => ?_
  · have hp := per_nat (List.mem_range.mp hi)
    refine ⟨ring_ne h2 hp, fun K hK => ?_⟩
    rfl'
    exact c_ring h1 h2 hp (hK _ rfl)
  · rfl'
    exact q RS (asc_rings hR)
theorem c_rings {d : PyData} {ns : List Int} {c : Nat} {Q : R → Nat → Prop} (h1 : PyData.its d = some (dI ns)) (h2 : Stt ns) (h3 : ns.length < 64) (q : ∀ RS, RingsOf ns RS → Q (.nw (dT RS)) c) : p_rings [.sh d] c Q := ⟨d, ns, rfl, h1, h2, h3, q⟩
theorem φAll_dB {any : Bool} {bs : List Bool} {Q : R → Prop} (q : Q (.sh (.bool (if any then bs.any id else bs.all id)))) : φAll any [.list (dB bs)] Q := by
  unfold φAll
  dsimp only
  rw [boolsD_dB]
  exact q
theorem dB_map {α : Type} (xs : List α) (f : α → Bool) : (xs.map fun x => PyData.bool (f x)) = dB (xs.map f) := by
  show _ = (xs.map f).map _
  rw [List.map_map]; rfl
theorem ring_le {ns : List Int} (h : Stt ns) {p : Int} (hp : Per ns p) : (ringF ns p).length ≤ ns.length := by
  unfold ringF turnF
  rw [List.length_append, List.length_drop, List.length_take, List.length_drop]
  have := (route_len h hp).2
  omega
theorem RingsOf.mem {ns : List Int} (h : Stt ns) {RS : List (List Int)} (hR : RingsOf ns RS) {r : List Int} (hr : r ∈ RS) : r ≠ [] ∧ r.length ≤ ns.length := by
  obtain ⟨j, hj, rfl⟩ := (hR.2.2 r).mp hr
  exact ⟨ring_ne h (per_nat hj), ring_le h (per_nat hj)⟩
theorem RingsOf.len {ns : List Int} {RS : List (List Int)} (hR : RingsOf ns RS) : RS.length ≤ ns.length := by
  have := nd_subG RS ((List.range ns.length).map fun i : Nat => ringF ns (i : Int)) hR.1 fun r hr => by
    obtain ⟨j, hj, e⟩ := (hR.2.2 r).mp hr
    exact List.mem_map.mpr ⟨j, List.mem_range.mpr hj, e⟩
  rw [List.length_map, List.length_range] at this
  exact this
end Lp

namespace Lp
open PySem PySem.Spec PyProof.Rows L2
local macro_rules | `(tactic| rfl') => `(tactic| try dsimp only [dVar_, gv_sh, gv_ow, gv_bx, gv_raw, gv_st, dC, dRaw, dOp, dUn, dTest, dTruth, dAnd, dOr, dNot, dYes, dIf, dAndV, dOrV, dNotV, dNotT, dChain, dNil, dCons, dTup, dLst, dats, dCB, dNoP, dPart, dSl, dNext, dBreak, dCont, dNever, dDrop, dRet, dRetN, dIfS, dSetG, dPar, dPar3, dAppend, dAppPop, dSetIx, dExt, dAug, dSet0, dSAdd, dSNotIn, dIter_, gi_l, gi_t, gi_b, dRng1, dRng2, dName, dGNil, dGCons, dGTup, dAsg, dFor, dWhile, dCall, dCallR, dArgs_, ga_f, ga_t, argsOf, dLc, wipeE, dListRg, dIndex, dSortSet, dSortSc, dEnum, dEnA, dZip, dIsi, dIsi2, isaT, φI, φB, φC, φNeg, add_i, add_l, add_t, mul_i, mul_l, φIx, sl_l, sl_t, eq_i, eq_s, eq_l, eq_t, eq_b, eq_n, φIsN, isN_n, isN_b, isN_i, isN_s, isN_l, isN_t, φLen, φList, φTuple, φAbs, φInt, φMax, φIsB, φIsNB, its_l, its_t, rd_sh, rd_nw, rd_br, rp_sh, rp_nw, rp_br, rp_bx, rp_raw, rp_sr, rr_sh, rr_nw, rr_br, ra_sh, ra_br, ra_bx, ra_raw, va_sh, va_nt, va_nf, va_raw, hb_n, hb_sh, hb_bx, hb_raw, hb_br, sh_n, sh_c, tr_n, tr_b, tr_i, tr_l, tr_t, ty_n, ty_b, ty_i, ty_s, ty_l, ty_t, if_ff, if_tt, Env.set, List.getElem?_cons_succ, List.getElem?_cons_zero, List.set_cons_succ, List.set_cons_zero, List.reverse_cons, List.reverse_nil, List.nil_append, List.cons_append, Option.bind_some, ite_true, ite_false])
def p_law_take : DSp := fun args c Q => ∃ span : Int, args = [.bx, .sh (.int span)] ∧ 1 ≤ span ∧ span ≤ 10000000000000 ∧ c ≤ 900000000 ∧ ∀ (r : Int) (c' : Nat), 0 ≤ r → r < span → c' ≤ c + 3 → Q (.sh (.int r)) c'
theorem mon_law_take : MonF p_law_take := fun args c A B h ⟨s, e, h1, h2, h3, q⟩ => ⟨s, e, h1, h2, h3, fun r c' a b d => h _ _ (q r c' a b d)⟩
theorem c_take {span : Int} {c : Nat} {Q : R → Nat → Prop} (h1 : 1 ≤ span) (h2 : span ≤ 10000000000000) (h3 : c ≤ 900000000) (q : ∀ (r : Int) (c' : Nat), 0 ≤ r → r < span → c' ≤ c + 3 → Q (.sh (.int r)) c') : p_law_take [.bx, .sh (.int span)] c Q := ⟨span, rfl, h1, h2, h3, q⟩
/-- _law_pick: _law_box_here, _law_some -/
def b_law_pick : DTS := (dRet (dOp φIx (dVar 1) (dCall p_law_take (dCons (dVar 0) (dCons (dCB φLen (dCons (dVar 1) dNil)) dNil)))))
abbrev k_law_pick : Nat := 0
def p_law_pick : DSp := fun args c Q => ∃ (d : PyData) (ds : List PyData), args = [.bx, .sh d] ∧ PyData.its d = some ds ∧ ds ≠ [] ∧ ds.length ≤ 1000000 ∧ c ≤ 900000000 ∧ ∀ e c', e ∈ ds → c' ≤ c + 3 → Q (.sh e) c'
theorem mon_law_pick : MonF p_law_pick := fun args c A B h ⟨s, ds, e, h1, h2, h3, h4, q⟩ => ⟨s, ds, e, h1, h2, h3, h4, fun r c' a b => h _ _ (q r c' a b)⟩
theorem m_law_pick : ∀ args c Q, p_law_pick args c Q → defF k_law_pick b_law_pick args c Q := by
  rintro _ c Q ⟨d, ds, rfl, h1, h2, h3, h4, q⟩
  have hl : 1 ≤ ds.length := List.length_pos_iff.mpr h2
  show b_law_pick _ ⟨[.bx, .sh d], c⟩
  unfold b_law_pick
  rfl'
  rw [h1]
  rfl'
  refine c_take (by omega) (by omega) h4 fun r c' r0 r1 hc => ?_
  rfl'
  rw [h1]
  have hr : r.toNat < ds.length := by omega
  exact ⟨ds[r.toNat], by rw [atI_nat r0 r1]; exact List.getElem?_eq_getElem hr, q _ _ (List.getElem_mem hr) hc⟩
def NetOk (n : Nat) (ns : List Int) : Prop := ns.length = n ∧ Low n ns
theorem enD_dI (ms : List Int) : enD (dI ms) = ms.zipIdx.map fun p => .tuple [.int (p.2 : Nat), .int p.1] := by
  unfold enD
  rw [List.mapIdx_eq_zipIdx_map]
  show ((ms.map _).zipIdx).map _ = _
  rw [List.zipIdx_map, List.map_map]
  rfl
end Lp

namespace Lp
open PySem PySem.Spec PyProof.Rows L2
local macro_rules | `(tactic| rfl') => `(tactic| try dsimp only [dVar_, gv_sh, gv_ow, gv_bx, gv_raw, gv_st, dC, dRaw, dOp, dUn, dTest, dTruth, dAnd, dOr, dNot, dYes, dIf, dAndV, dOrV, dNotV, dNotT, dChain, dNil, dCons, dTup, dLst, dats, dCB, dNoP, dPart, dSl, dNext, dBreak, dCont, dNever, dDrop, dRet, dRetN, dIfS, dSetG, dPar, dPar3, dAppend, dAppPop, dSetIx, dExt, dAug, dSet0, dSAdd, dSNotIn, dIter_, gi_l, gi_t, gi_b, dRng1, dRng2, dName, dGNil, dGCons, dGTup, dAsg, dFor, dWhile, dCall, dCallR, dArgs_, ga_f, ga_t, argsOf, dLc, wipeE, dListRg, dIndex, dSortSet, dSortSc, dEnum, dEnA, dZip, dIsi, dIsi2, isaT, φI, φB, φC, φNeg, add_i, add_l, add_t, mul_i, mul_l, φIx, sl_l, sl_t, eq_i, eq_s, eq_l, eq_t, eq_b, eq_n, φIsN, isN_n, isN_b, isN_i, isN_s, isN_l, isN_t, φLen, φList, φTuple, φAbs, φInt, φMax, φIsB, φIsNB, its_l, its_t, rd_sh, rd_nw, rd_br, rp_sh, rp_nw, rp_br, rp_bx, rp_raw, rp_sr, rr_sh, rr_nw, rr_br, ra_sh, ra_br, ra_bx, ra_raw, va_sh, va_nt, va_nf, va_raw, hb_n, hb_sh, hb_bx, hb_raw, hb_br, sh_n, sh_c, tr_n, tr_b, tr_i, tr_l, tr_t, ty_n, ty_b, ty_i, ty_s, ty_l, ty_t, if_ff, if_tt, Env.set, List.getElem?_cons_succ, List.getElem?_cons_zero, List.set_cons_succ, List.set_cons_zero, List.reverse_cons, List.reverse_nil, List.nil_append, List.cons_append, Option.bind_some, ite_true, ite_false])
theorem NetOk.stt {n : Nat} {ns : List Int} (h : NetOk n ns) (h1 : 1 ≤ n) (h2 : n ≤ 1000) : Stt ns := by
  obtain ⟨rfl, lo⟩ := h
  exact ⟨lo, h2, h1⟩
end Lp

namespace Lp
open PySem PySem.Spec PyProof.Rows L2
local macro_rules | `(tactic| rfl') => `(tactic| try dsimp only [dVar_, gv_sh, gv_ow, gv_bx, gv_raw, gv_st, dC, dRaw, dOp, dUn, dTest, dTruth, dAnd, dOr, dNot, dYes, dIf, dAndV, dOrV, dNotV, dNotT, dChain, dNil, dCons, dTup, dLst, dats, dCB, dNoP, dPart, dSl, dNext, dBreak, dCont, dNever, dDrop, dRet, dRetN, dIfS, dSetG, dPar, dPar3, dAppend, dAppPop, dSetIx, dExt, dAug, dSet0, dSAdd, dSNotIn, dIter_, gi_l, gi_t, gi_b, dRng1, dRng2, dName, dGNil, dGCons, dGTup, dAsg, dFor, dWhile, dCall, dCallR, dArgs_, ga_f, ga_t, argsOf, dLc, wipeE, dListRg, dIndex, dSortSet, dSortSc, dEnum, dEnA, dZip, dIsi, dIsi2, isaT, φI, φB, φC, φNeg, add_i, add_l, add_t, mul_i, mul_l, φIx, sl_l, sl_t, eq_i, eq_s, eq_l, eq_t, eq_b, eq_n, φIsN, isN_n, isN_b, isN_i, isN_s, isN_l, isN_t, φLen, φList, φTuple, φAbs, φInt, φMax, φIsB, φIsNB, its_l, its_t, rd_sh, rd_nw, rd_br, rp_sh, rp_nw, rp_br, rp_bx, rp_raw, rp_sr, rr_sh, rr_nw, rr_br, ra_sh, ra_br, ra_bx, ra_raw, va_sh, va_nt, va_nf, va_raw, hb_n, hb_sh, hb_bx, hb_raw, hb_br, sh_n, sh_c, tr_n, tr_b, tr_i, tr_l, tr_t, ty_n, ty_b, ty_i, ty_s, ty_l, ty_t, if_ff, if_tt, Env.set, List.getElem?_cons_succ, List.getElem?_cons_zero, List.set_cons_succ, List.set_cons_zero, List.reverse_cons, List.reverse_nil, List.nil_append, List.cons_append, Option.bind_some, ite_true, ite_false])
def dep : Nat → PyData → Bool
  | 0, _ => false
  | k + 1, .list ds => decide (ds.length ≤ 1000000) && ds.all (dep k)
  | k + 1, .tuple ds => decide (ds.length ≤ 1000000) && ds.all (dep k)
  | _ + 1, .dict _ => false
  | _ + 1, _ => true
def p_law_same (k : Nat) : DSp := fun args c Q => ∃ a b : PyData, args = [.sh a, .sh b] ∧ a = b ∧ dep k a = true ∧ Q (.sh (.bool true)) c
theorem mon_law_same (k : Nat) : MonF (p_law_same k) := fun args c A B h ⟨a, b, e, h1, h2, q⟩ => ⟨a, b, e, h1, h2, h _ _ q⟩
theorem zip_self (ds : List PyData) : zipDs ds ds = ds.map fun d => .tuple [d, d] := by
  unfold zipDs
  induction ds with
  | nil => rfl
  | cons x r ih => rw [List.zipWith_cons_cons, ih]; rfl
theorem same_seq {k : Nat} {ds : List PyData} {s : List SV} {c : Nat} {Q : R → Env → Prop} (hk : ds.all (dep k) = true) (hl : ds.length ≤ 16777216) (hs : ∃ x y, s = [x, y, .un, .un]) (q : Q (.nw (ds.map fun _ => .bool true)) ⟨s, c⟩) :
    lcD (dGTup 2 (dGCons (dName 2) (dGCons (dName 3) dGNil))) dYes (dCall (p_law_same k) (dCons (dVar 2) (dCons (dVar 3) dNil))) [2, 3] s Q (zipDs ds ds) [] c := by
  obtain ⟨x, y, rfl⟩ := hs
  rw [zip_self]
  refine lc_all (fun d => .tuple [d, d]) (fun _ => .bool true) ds [] (fun d hd K hK => ?_) (by show 0 + _ ≤ _; omega) q
  rfl'
  refine ⟨rfl, ?_⟩
  refine ⟨d, d, rfl, rfl, List.all_eq_true.mp hk d hd, ?_⟩
  rfl'
  exact hK _ _ rfl rfl
theorem eqv_self_b (b : Bool) : PyData.eqv (.bool b) (.bool b) = true := by cases b <;> rfl
theorem dep_list {k : Nat} {ds : List PyData} (h : dep (k + 1) (.list ds) = true) : ds.length ≤ 1000000 ∧ ds.all (dep k) = true := by
  unfold dep at h
  rw [Bool.and_eq_true] at h
  exact ⟨of_decide_eq_true h.1, h.2⟩
theorem dep_tuple {k : Nat} {ds : List PyData} (h : dep (k + 1) (.tuple ds) = true) : ds.length ≤ 1000000 ∧ ds.all (dep k) = true := by
  unfold dep at h
  rw [Bool.and_eq_true] at h
  exact ⟨of_decide_eq_true h.1, h.2⟩
theorem all_true (ds : List PyData) : (dB (ds.map fun _ => true)).length = ds.length ∧ (ds.map fun _ => true).all id = true := by
  refine ⟨by rw [List.length_map, List.length_map], ?_⟩
  rw [List.all_map]
  exact List.all_eq_true.mpr fun _ _ => rfl
end Lp

namespace Lp
open PySem PySem.Spec PyProof.Rows L2
local macro_rules | `(tactic| rfl') => `(tactic| try dsimp only [dVar_, gv_sh, gv_ow, gv_bx, gv_raw, gv_st, dC, dRaw, dOp, dUn, dTest, dTruth, dAnd, dOr, dNot, dYes, dIf, dAndV, dOrV, dNotV, dNotT, dChain, dNil, dCons, dTup, dLst, dats, dCB, dNoP, dPart, dSl, dNext, dBreak, dCont, dNever, dDrop, dRet, dRetN, dIfS, dSetG, dPar, dPar3, dAppend, dAppPop, dSetIx, dExt, dAug, dSet0, dSAdd, dSNotIn, dIter_, gi_l, gi_t, gi_b, dRng1, dRng2, dName, dGNil, dGCons, dGTup, dAsg, dFor, dWhile, dCall, dCallR, dArgs_, ga_f, ga_t, argsOf, dLc, wipeE, dListRg, dIndex, dSortSet, dSortSc, dEnum, dEnA, dZip, dIsi, dIsi2, isaT, φI, φB, φC, φNeg, add_i, add_l, add_t, mul_i, mul_l, φIx, sl_l, sl_t, eq_i, eq_s, eq_l, eq_t, eq_b, eq_n, φIsN, isN_n, isN_b, isN_i, isN_s, isN_l, isN_t, φLen, φList, φTuple, φAbs, φInt, φMax, φIsB, φIsNB, its_l, its_t, rd_sh, rd_nw, rd_br, rp_sh, rp_nw, rp_br, rp_bx, rp_raw, rp_sr, rr_sh, rr_nw, rr_br, ra_sh, ra_br, ra_bx, ra_raw, va_sh, va_nt, va_nf, va_raw, hb_n, hb_sh, hb_bx, hb_raw, hb_br, sh_n, sh_c, tr_n, tr_b, tr_i, tr_l, tr_t, ty_n, ty_b, ty_i, ty_s, ty_l, ty_t, if_ff, if_tt, Env.set, List.getElem?_cons_succ, List.getElem?_cons_zero, List.set_cons_succ, List.set_cons_zero, List.reverse_cons, List.reverse_nil, List.nil_append, List.cons_append, Option.bind_some, ite_true, ite_false])
inductive All2 {α β : Type} (P : α → β → Prop) : List α → List β → Prop
  | nil : All2 P [] []
  | cons {x : α} {y : β} {xs : List α} {ys : List β} : P x y → All2 P xs ys → All2 P (x :: xs) (y :: ys)
theorem All2.len {α β : Type} {P : α → β → Prop} : ∀ {xs : List α} {ys : List β}, All2 P xs ys → ys.length = xs.length
  | _, _, .nil => rfl
  | _, _, .cons _ r => by rw [List.length_cons, List.length_cons, r.len]
theorem All2.mem {α β : Type} {P : α → β → Prop} : ∀ {xs : List α} {ys : List β}, All2 P xs ys → ∀ y ∈ ys, ∃ x ∈ xs, P x y
  | _, _, .cons a r, y, h => by
    rcases List.mem_cons.mp h with rfl | h
    · exact ⟨_, List.mem_cons_self, a⟩
    · obtain ⟨x, hx, hp⟩ := r.mem y h
      exact ⟨x, List.mem_cons_of_mem _ hx, hp⟩
theorem All2.get {α β : Type} {P : α → β → Prop} : ∀ {xs : List α} {ys : List β}, All2 P xs ys → ∀ {i : Nat} {x : α}, xs[i]? = some x → ∃ y, ys[i]? = some y ∧ P x y
  | _, _, .nil, i, x, h => by simp at h
  | _, _, .cons a r, 0, x, h => by simp at h; subst h; exact ⟨_, rfl, a⟩
  | _, _, .cons a r, i + 1, x, h => by
    obtain ⟨y, h1, h2⟩ := r.get (i := i) (x := x) (by simpa using h)
    exact ⟨y, by simpa using h1, h2⟩
theorem lc_draw {α β : Type} {γ : DTG} {f : DTE} {vs : List Nat} {s : List SV} {Q : R → Env → Prop} {N : Nat} (h : α → PyData) (u : β → PyData) (P : α → β → Prop) : ∀ (xs : List α) (acc : List β) (n : Nat),
    (∀ x ∈ xs, ∀ m, m ≤ n + N * xs.length → ∀ K : R → Env → Prop, (∀ r ε y, r.pub = .sh (u y) → P x y → ε.c ≤ m + N → K r ε) → γ (h x) ⟨wipeE ⟨s, m⟩ vs, m⟩ fun ε1 => f ε1 K) →
    acc.length + xs.length ≤ 16777216 → (∀ ys m, All2 P xs ys → m ≤ n + N * xs.length → Q (.nw ((acc ++ ys).map u)) ⟨s, m⟩) → lcD γ dYes f vs s Q (xs.map h) (acc.map u) n
  | [], acc, n, _, _, q => by
    have := q [] n .nil (Nat.le_add_right _ _)
    rw [List.append_nil] at this
    exact this
  | x :: xs, acc, n, st, le, q => by
    rw [List.length_cons] at le
    rw [List.length_cons, Nat.mul_add, Nat.mul_one] at st q
    rw [List.map_cons]
    refine lc_cons ?_
    refine st x List.mem_cons_self n (Nat.le_add_right _ _) (fun r ε3 => match r.pub with
      | .sh e => (acc.map u).length < sizeLine ∧ lcD γ dYes f vs s Q (xs.map h) (acc.map u ++ [e]) ε3.c
      | _ => False) fun r ε y hr hy hc => ?_
    rw [hr]
    refine ⟨show (acc.map u).length < 16777216 by rw [List.length_map]; omega, ?_⟩
    have e : acc.map u ++ [u y] = (acc ++ [y]).map u := by rw [List.map_append]; rfl
    rw [e]
    refine lc_draw h u P xs (acc ++ [y]) ε.c (fun z hz m hm => st z (List.mem_cons_of_mem _ hz) m (by omega)) (by rw [List.length_append, List.length_singleton]; omega) fun ys m hys hm => ?_
    rw [List.append_assoc]
    exact q (y :: ys) m (.cons hy hys) (by omega)
end Lp

namespace Lp
open PySem PySem.Spec PyProof.Rows L2
local macro_rules | `(tactic| rfl') => `(tactic| try dsimp only [dVar_, gv_sh, gv_ow, gv_bx, gv_raw, gv_exn, gv_st, dC, dRaw, dOp, dUn, dTest, dTruth, dAnd, dOr, dNot, dYes, dIf, dAndV, dOrV, dNotV, dNotT, dChain, dNil, dCons, dTup, dLst, dats, dCB, dNoP, dPart, dSl, dNext, dBreak, dCont, dNever, dDrop, dRet, dRetN, dIfS, dSetG, dPar, dPar3, dAppend, dAppPop, dSetIx, dExt, dAug, dSet0, dSAdd, dSNotIn, dIter_, gi_l, gi_t, gi_b, dRng1, dRng2, dName, dGNil, dGCons, dGTup, dAsg, dFor, dWhile, dCall, dCallR, dArgs_, ga_f, ga_t, argsOf, dLc, wipeE, dListRg, dIndex, dSortSet, dSortSc, dEnum, dEnA, dZip, dIsi, dIsi2, isaT, φI, φB, φC, φNeg, add_i, add_l, add_t, mul_i, mul_l, φIx, sl_l, sl_t, eq_i, eq_s, eq_l, eq_t, eq_b, eq_n, φIsN, isN_n, isN_b, isN_i, isN_s, isN_l, isN_t, φLen, φList, φTuple, φAbs, φInt, φMax, φIsB, φIsNB, its_l, its_t, rd_sh, rd_nw, rd_br, rp_sh, rp_nw, rp_br, rp_bx, rp_raw, rp_sr, rr_sh, rr_nw, rr_br, ra_sh, ra_br, ra_bx, ra_raw, va_sh, va_nt, va_nf, va_raw, hb_n, hb_sh, hb_bx, hb_raw, hb_br, sh_n, sh_c, tr_n, tr_b, tr_i, tr_l, tr_t, ty_n, ty_b, ty_i, ty_s, ty_l, ty_t, if_ff, if_tt, Env.set, List.getElem?_cons_succ, List.getElem?_cons_zero, List.set_cons_succ, List.set_cons_zero, List.reverse_cons, List.reverse_nil, List.nil_append, List.cons_append, Option.bind_some, ite_true, ite_false])
/-- height: state, person -/
def b_height : DTS := (dSeq (dDrop (dCall p_check_person (dCons (dVar 0) (dCons (dVar 1) dNil))))
  (dRet (dCall p_ring_begin (dCons (dVar 0) (dCons (dCall p_route_from (dCons (dVar 0) (dCons (dVar 1) dNil))) dNil)))))
abbrev k_height : Nat := 0
def p_height : DSp := fun args c Q => ∃ (d : PyData) (ns : List Int) (p : Int), args = [.sh d, .sh (.int p)] ∧ PyData.its d = some (dI ns) ∧ Stt ns ∧ Per ns p ∧ Q (.sh (.int (heightF ns p : Nat))) c
theorem mon_height : MonF p_height := fun args c A B h ⟨d, ns, p, e, h1, h2, h3, q⟩ => ⟨d, ns, p, e, h1, h2, h3, h _ _ q⟩
theorem m_height : ∀ args c Q, p_height args c Q → defF k_height b_height args c Q := by
  rintro _ c Q ⟨d, ns, p, rfl, h1, h2, h3, q⟩
  show b_height _ ⟨[.sh d, .sh (.int p)], c⟩
  unfold b_height
  refine sq_ ?_
  rfl'
  refine c_check h1 h3 ?_
  rfl'
  refine c_route h1 h2 h3 ?_
  rfl'
  refine ⟨d, _, ns, p, rfl, h1, h2, h3, its_l _, ?_⟩
  rfl'
  exact q
theorem c_height {d : PyData} {ns : List Int} {p : Int} {c : Nat} {Q : R → Nat → Prop} (h1 : PyData.its d = some (dI ns)) (h2 : Stt ns) (hp : Per ns p) (q : Q (.sh (.int (heightF ns p : Nat))) c) : p_height [.sh d, .sh (.int p)] c Q := ⟨d, ns, p, rfl, h1, h2, hp, q⟩
/-- way: state, person -/
def b_way : DTS := (dSeq (dDrop (dCall p_check_person (dCons (dVar 0) (dCons (dVar 1) dNil))))
  (dRet (dCall p_route_from (dCons (dVar 0) (dCons (dOp φIx (dVar 0) (dVar 1)) dNil)))))
abbrev k_way : Nat := 0
def p_way : DSp := fun args c Q => ∃ (d : PyData) (ns : List Int) (p : Int), args = [.sh d, .sh (.int p)] ∧ PyData.its d = some (dI ns) ∧ Stt ns ∧ Per ns p ∧ Q (.nw (dI (routeF ns (gt ns p)))) c
theorem mon_way : MonF p_way := fun args c A B h ⟨d, ns, p, e, h1, h2, h3, q⟩ => ⟨d, ns, p, e, h1, h2, h3, h _ _ q⟩
theorem m_way : ∀ args c Q, p_way args c Q → defF k_way b_way args c Q := by
  rintro _ c Q ⟨d, ns, p, rfl, h1, h2, h3, q⟩
  show b_way _ ⟨[.sh d, .sh (.int p)], c⟩
  unfold b_way
  refine sq_ ?_
  rfl'
  refine c_check h1 h3 ?_
  rfl'
  rw [h1]
  refine ⟨_, atI_dI h3.1 h3.2, ?_⟩
  rfl'
  refine c_route h1 h2 (h2.gt h3) ?_
  rfl'
  exact q
theorem c_way {d : PyData} {ns : List Int} {p : Int} {c : Nat} {Q : R → Nat → Prop} (h1 : PyData.its d = some (dI ns)) (h2 : Stt ns) (hp : Per ns p) (q : Q (.nw (dI (routeF ns (gt ns p)))) c) : p_way [.sh d, .sh (.int p)] c Q := ⟨d, ns, p, rfl, h1, h2, hp, q⟩
end Lp

namespace Lp
open PySem PySem.Spec PyProof.Rows L2
local macro_rules | `(tactic| rfl') => `(tactic| try dsimp only [dVar_, gv_sh, gv_ow, gv_bx, gv_raw, gv_exn, gv_st, dC, dRaw, dOp, dUn, dTest, dTruth, dAnd, dOr, dNot, dYes, dIf, dAndV, dOrV, dNotV, dNotT, dChain, dNil, dCons, dTup, dLst, dats, dCB, dNoP, dPart, dSl, dNext, dBreak, dCont, dNever, dDrop, dRet, dRetN, dIfS, dSetG, dPar, dPar3, dAppend, dAppPop, dSetIx, dExt, dAug, dSet0, dSAdd, dSNotIn, dIter_, gi_l, gi_t, gi_b, dRng1, dRng2, dName, dGNil, dGCons, dGTup, dAsg, dFor, dWhile, dCall, dCallR, dArgs_, ga_f, ga_t, argsOf, dLc, wipeE, dListRg, dIndex, dSortSet, dSortSc, dEnum, dEnA, dZip, dIsi, dIsi2, isaT, φI, φB, φC, φNeg, add_i, add_l, add_t, mul_i, mul_l, φIx, sl_l, sl_t, eq_i, eq_s, eq_l, eq_t, eq_b, eq_n, φIsN, isN_n, isN_b, isN_i, isN_s, isN_l, isN_t, φLen, φList, φTuple, φAbs, φInt, φMax, φIsB, φIsNB, its_l, its_t, rd_sh, rd_nw, rd_br, rp_sh, rp_nw, rp_br, rp_bx, rp_raw, rp_sr, rr_sh, rr_nw, rr_br, ra_sh, ra_br, ra_bx, ra_raw, va_sh, va_nt, va_nf, va_raw, hb_n, hb_sh, hb_bx, hb_raw, hb_br, sh_n, sh_c, tr_n, tr_b, tr_i, tr_l, tr_t, ty_n, ty_b, ty_i, ty_s, ty_l, ty_t, if_ff, if_tt, Env.set, List.getElem?_cons_succ, List.getElem?_cons_zero, List.set_cons_succ, List.set_cons_zero, List.reverse_cons, List.reverse_nil, List.nil_append, List.cons_append, Option.bind_some, ite_true, ite_false])
/-- _law_same: _law_found, _law_due, _law_one, _law_two -/
def b_law_same_2 (p_law_same_2 : DSp) : DTS := (dSeq (dIfS (dTruth (dIsi2 "list" "tuple" (dVar 1))) (dSeq (dIfS (dOr (dTest (dOp (φEq true) (dIsi "list" (dVar 0)) (dIsi "list" (dVar 1)))) (dTest (dOp (φEq true) (dIsi "tuple" (dVar 0)) (dIsi "tuple" (dVar 1))))) (dRet (dC (.bool false))) dNext)
  (dRet (dAndV (dOp (φEq false) (dCB φLen (dCons (dVar 0) dNil)) (dCB φLen (dCons (dVar 1) dNil))) (dCB (φAll false) (dCons (dLc (dZip (dCons (dVar 0) (dCons (dVar 1) dNil))) (dGTup 2 (dGCons (dName 2) (dGCons (dName 3) dGNil))) dYes (dCall p_law_same_2 (dCons (dVar 2) (dCons (dVar 3) dNil))) [2, 3]) dNil))))) dNext)
  (dSeq (dIfS (dOr (dTest (dOp (φIsN false) (dVar 1) (dC .none))) (dTruth (dIsi2 "str" "bool" (dVar 1)))) (dRet (dAndV (dOp (φEq false) (dVar 0) (dVar 1)) (dAndV (dOp (φEq false) (dIsi "bool" (dVar 0)) (dIsi "bool" (dVar 1))) (dOp (φEq false) (dOp (φIsN false) (dVar 0) (dC .none)) (dOp (φIsN false) (dVar 1) (dC .none)))))) dNext)
  (dRet (dAndV (dIsi "int" (dVar 0)) (dAndV (dNotV (dIsi "bool" (dVar 0))) (dOp (φEq false) (dVar 0) (dVar 1)))))))
abbrev k_law_same_2 : Nat := 2
def p_law_same_2 (k : Nat) : DSp := p_law_same k
theorem mon_law_same_2 (k : Nat) : MonF (p_law_same_2 k) := mon_law_same k
theorem m_law_same_2 {k : Nat} : ∀ args c Q, p_law_same_2 (k + 1) args c Q → defF k_law_same_2 (b_law_same_2 (p_law_same_2 k)) args c Q := by
  rintro _ c Q ⟨a, _, rfl, rfl, hk, q⟩
  show b_law_same_2 (p_law_same k) _ ⟨[.sh a, .sh a, .un, .un], c⟩
  unfold b_law_same_2
  refine sq_ ?_
  cases a with
  | none =>
    rfl'
    refine if_f (by decide +kernel) ?_
    refine sq_ ?_
    rfl'
    refine ⟨⟨rfl, rfl⟩, ?_⟩
    refine if_t (by rfl) ?_
    refine ⟨⟨rfl, rfl⟩, ?_⟩
    refine if_t (by rfl) ?_
    exact ⟨⟨rfl, rfl⟩, q⟩
  | bool b =>
    rfl'
    refine if_f (by decide +kernel) ?_
    refine sq_ ?_
    rfl'
    refine if_f (by decide +kernel) ?_
    refine if_t (by decide +kernel) ?_
    refine ⟨⟨rfl, rfl⟩, ?_⟩
    rw [eqv_self_b]
    refine if_t (by rfl) ?_
    refine ⟨⟨rfl, rfl⟩, ?_⟩
    refine if_t (by rfl) ?_
    exact ⟨⟨rfl, rfl⟩, q⟩
  | int z =>
    rfl'
    refine if_f (by decide +kernel) ?_
    refine sq_ ?_
    rfl'
    refine if_f (by decide +kernel) ?_
    refine if_f (by decide +kernel) ?_
    refine if_t (by decide +kernel) ?_
    refine if_t (by decide +kernel) ?_
    rw [decide_eq_true rfl]
    exact q
  | str x =>
    rfl'
    refine if_f (by decide +kernel) ?_
    refine sq_ ?_
    rfl'
    refine if_f (by decide +kernel) ?_
    refine if_t (by decide +kernel) ?_
    refine if_t (decide_eq_true rfl) ?_
    refine ⟨⟨rfl, rfl⟩, ?_⟩
    refine if_t (by rfl) ?_
    exact ⟨⟨rfl, rfl⟩, q⟩
  | list ds =>
    obtain ⟨h1, h2⟩ := dep_list hk
    rfl'
    refine if_t (by decide +kernel) ?_
    refine sq_ ?_
    rfl'
    refine ⟨⟨rfl, rfl⟩, ?_⟩
    refine if_f (by rfl) ?_
    refine ⟨⟨rfl, rfl⟩, ?_⟩
    refine if_f (by rfl) ?_
    refine if_t (decide_eq_true rfl) ?_
    refine same_seq h2 (by omega) ⟨_, _, rfl⟩ ?_
    rfl'
    rw [dB_map ds fun _ => true]
    refine φAll_dB ?_
    rw [if_neg (by decide), (all_true ds).2]
    exact q
  | tuple ds =>
    obtain ⟨h1, h2⟩ := dep_tuple hk
    rfl'
    refine if_t (by decide +kernel) ?_
    refine sq_ ?_
    rfl'
    refine ⟨⟨rfl, rfl⟩, ?_⟩
    refine if_f (by rfl) ?_
    refine ⟨⟨rfl, rfl⟩, ?_⟩
    refine if_f (by rfl) ?_
    refine if_t (decide_eq_true rfl) ?_
    refine same_seq h2 (by omega) ⟨_, _, rfl⟩ ?_
    rfl'
    rw [dB_map ds fun _ => true]
    refine φAll_dB ?_
    rw [if_neg (by decide), (all_true ds).2]
    exact q
  | dict _ => unfold dep at hk; cases hk
end Lp

namespace Lp
open PySem PySem.Spec PyProof.Rows L2
local macro_rules | `(tactic| rfl') => `(tactic| try dsimp only [dVar_, gv_sh, gv_ow, gv_bx, gv_raw, gv_st, dC, dRaw, dOp, dUn, dTest, dTruth, dAnd, dOr, dNot, dYes, dIf, dAndV, dOrV, dNotV, dNotT, dChain, dNil, dCons, dTup, dLst, dats, dCB, dNoP, dPart, dSl, dNext, dBreak, dCont, dNever, dDrop, dRet, dRetN, dIfS, dSetG, dPar, dPar3, dAppend, dAppPop, dSetIx, dExt, dAug, dSet0, dSAdd, dSNotIn, dIter_, gi_l, gi_t, gi_b, dRng1, dRng2, dName, dGNil, dGCons, dGTup, dAsg, dFor, dWhile, dCall, dCallR, dArgs_, ga_f, ga_t, argsOf, dLc, wipeE, dListRg, dIndex, dSortSet, dSortSc, dEnum, dEnA, dZip, dIsi, dIsi2, isaT, φI, φB, φC, φNeg, add_i, add_l, add_t, mul_i, mul_l, φIx, sl_l, sl_t, eq_i, eq_s, eq_l, eq_t, eq_b, eq_n, φIsN, isN_n, isN_b, isN_i, isN_s, isN_l, isN_t, φLen, φList, φTuple, φAbs, φInt, φMax, φIsB, φIsNB, its_l, its_t, rd_sh, rd_nw, rd_br, rp_sh, rp_nw, rp_br, rp_bx, rp_raw, rp_sr, rr_sh, rr_nw, rr_br, ra_sh, ra_br, ra_bx, ra_raw, va_sh, va_nt, va_nf, va_raw, hb_n, hb_sh, hb_bx, hb_raw, hb_br, sh_n, sh_c, tr_n, tr_b, tr_i, tr_l, tr_t, ty_n, ty_b, ty_i, ty_s, ty_l, ty_t, if_ff, if_tt, Env.set, List.getElem?_cons_succ, List.getElem?_cons_zero, List.set_cons_succ, List.set_cons_zero, List.reverse_cons, List.reverse_nil, List.nil_append, List.cons_append, Option.bind_some, ite_true, ite_false])
def closesB (gs : List Int) (i : Nat) : Bool := decide (gt gs ((routeF gs (i : Int)).getLastD 0) = (i : Int) ∧ minF (routeF gs (i : Int)) = (i : Int))
def closedF (gs : List Int) : List (List Int) := ((List.range gs.length).filter (closesB gs)).map fun i : Nat => routeF gs (i : Int)
theorem route_head {gs : List Int} (h : Stt gs) {p : Int} (hp : Per gs p) : ∃ r, routeF gs p = p :: r := by
  obtain ⟨L, e, nd, hin⟩ := h.rt hp
  have l1 := (route_len h hp).1
  rw [e, itrs_len] at l1
  obtain ⟨M, rfl⟩ : ∃ M, L = M + 1 := ⟨L - 1, by omega⟩
  refine ⟨(itrs gs p (M + 1)).tail, ?_⟩
  rw [e]
  unfold itrs
  rw [List.range_succ_eq_map]; rfl
/-- who comes back to themselves is on a ring -/
theorem back_cyc {ns : List Int} (h : Stt ns) {x : Int} (hx : Per ns x) {m : Nat} (hm : 0 < m) (e : itr ns x m = x) : ∃ c, Cyc ns x c := by
  obtain ⟨c, cy, er, _⟩ := ringF_cyc h.lo hx.1 hx.2
  have all : ∀ k, itr ns x (m * k) = x := by
    intro k
    induction k with
    | zero => rfl
    | succ k ih => rw [Nat.mul_succ, itr_add, ih, e]
  have hk := all (heightF ns x)
  obtain ⟨t, ht⟩ : ∃ t, m * heightF ns x = heightF ns x + t := ⟨m * heightF ns x - heightF ns x, by
    have : 1 * heightF ns x ≤ m * heightF ns x := Nat.mul_le_mul_right _ hm
    omega⟩
  rw [ht, itr_add] at hk
  have := cy.all t
  rw [hk] at this
  exact ⟨c, (cy.at this).1⟩
theorem cyc_route {ns : List Int} (h : Stt ns) {x : Int} (hx : Per ns x) {c : Nat} (cy : Cyc ns x c) : routeF ns x = itrs ns x c := by
  refine (h.rt hx).eq ⟨c, rfl, cy.2.2, ?_⟩
  rw [cy.2.1]
  exact itrs_mem.mpr ⟨0, cy.1, rfl⟩
theorem cyc_ring {ns : List Int} (h : Stt ns) {x : Int} (hx : Per ns x) {c : Nat} (cy : Cyc ns x c) : ringF ns x = turnF (itrs ns x c) := ring_at h.lo hx.1 hx.2 cy
theorem mem_turnF {ms : List Int} {z : Int} : z ∈ turnF ms ↔ z ∈ ms := by
  unfold turnF
  rw [List.mem_append, Or.comm, ← List.mem_append, List.take_append_drop]
theorem on_iff {ns : List Int} (h : Stt ns) {x : Int} (hx : Per ns x) : x ∈ ringF ns x ↔ ∃ c, Cyc ns x c := by
  constructor
  · intro hm
    obtain ⟨c, er, cy, _⟩ := headF_form h.lo hx.1 hx.2
    rw [er] at hm
    exact ⟨c, (cy.at hm).1⟩
  · rintro ⟨c, cy⟩
    rw [cyc_ring h hx cy, mem_turnF]
    exact itrs_mem.mpr ⟨0, cy.1, rfl⟩
theorem ring_per {ns : List Int} (h : Stt ns) {x z : Int} (hx : Per ns x) (hz : z ∈ ringF ns x) : Per ns z ∧ ringF ns z = ringF ns x ∧ z ∈ ringF ns z := by
  obtain ⟨c, er, cy, h0, h1⟩ := headF_form h.lo hx.1 hx.2
  have hz' := hz
  rw [er] at hz'
  obtain ⟨i, hi, rfl⟩ := itrs_mem.mp hz'
  have hp : Per ns (itr ns (headF ns x) i) := itr_low h.lo h0 h1 i
  obtain ⟨s, hs⟩ := ring_itr h.lo hx.1 hx.2 hz
  have e2 : ringF ns (itr ns (headF ns x) i) = ringF ns x := by rw [← hs]; exact ringF_itr h.lo hx.1 hx.2 s
  exact ⟨hp, e2, by rw [e2]; exact hz⟩
theorem getLastD_itrs {ns : List Int} {x : Int} {L : Nat} (h : 0 < L) : (itrs ns x L).getLastD 0 = itr ns x (L - 1) := by
  obtain ⟨M, rfl⟩ : ∃ M, L = M + 1 := ⟨L - 1, by omega⟩
  rw [itrs_succ]; simp
theorem closes_iff {gs : List Int} (h : Stt gs) {i : Nat} (hi : i < gs.length) : closesB gs i = true ↔ routeF gs (i : Int) = ringF gs (i : Int) ∧ ∃ c, Cyc gs (i : Int) c := by
  have hp := per_nat hi
  unfold closesB
  rw [decide_eq_true_iff]
  constructor
  · rintro ⟨h1, h2⟩
    obtain ⟨L, e, nd, hin⟩ := h.rt hp
    have l1 := (route_len h hp).1
    rw [e, itrs_len] at l1
    rw [e, getLastD_itrs (by omega)] at h1
    have e3 : itr gs (i : Int) L = (i : Int) := by
      have : L = L - 1 + 1 := by omega
      rw [this]; exact h1
    have cy : Cyc gs (i : Int) L := ⟨by omega, e3, by rw [← e]; exact nd⟩
    refine ⟨?_, L, cy⟩
    rw [cyc_ring h hp cy, turn_self cy, e]
    intro y hy
    rw [e] at h2
    have := (minF_ok (itrs_ne (ns := gs) (q := (i : Int)) (show 0 < L by omega))).2 y hy
    rw [h2] at this
    exact this
  · rintro ⟨h1, c, cy⟩
    have e := cyc_route h hp cy
    refine ⟨?_, ?_⟩
    · rw [e, getLastD_itrs cy.1]
      have e3 := cy.2.1
      have : c = c - 1 + 1 := by have := cy.1; omega
      rw [this] at e3
      exact e3
    · have hne : routeF gs (i : Int) ≠ [] := fun z => by
        have := (route_len h hp).1
        rw [z] at this; simp at this
      obtain ⟨m, c2, er, cy2, least, m0, m1⟩ := ringF_form h.lo hp.1 hp.2
      obtain ⟨r, hr⟩ := route_head h hp
      have em : m = (i : Int) := by
        have h3 : ringF gs (i : Int) = m :: (itrs gs m c2).tail := by
          rw [er]
          obtain ⟨M, rfl⟩ : ∃ M, c2 = M + 1 := ⟨c2 - 1, by have := cy2.1; omega⟩
          unfold itrs
          rw [List.range_succ_eq_map]; rfl
        rw [← h1, hr] at h3
        exact (List.cons.inj h3).1.symm
      have mm := minF_ok hne
      have a := mm.2 (i : Int) (by rw [hr]; exact List.mem_cons_self)
      have b := least _ (by rw [← h1]; exact mm.1)
      rw [em] at b
      exact Int.le_antisymm a b
theorem lex_head {a b : Int} {as bs : List Int} (h : a < b) : HT.lexLt (b :: bs) (a :: as) = false := by
  rw [HT.lexLt_cons, if_neg (by omega)]
  exact decide_eq_false (by omega)
theorem closed_rings {gs : List Int} (h : Stt gs) : RingsOf gs (closedF gs) := by
  have hh : ∀ i ∈ (List.range gs.length).filter (closesB gs), i < gs.length ∧ closesB gs i = true := fun i hi => by
    have := List.mem_filter.mp hi
    exact ⟨List.mem_range.mp this.1, this.2⟩
  have pw : ((List.range gs.length).filter (closesB gs)).Pairwise (· < ·) := List.Pairwise.filter _ List.pairwise_lt_range
  refine ⟨?_, ?_, fun k => ?_⟩
  · unfold closedF
    refine List.pairwise_map.mpr (List.Pairwise.imp_of_mem (fun {a b} ha hb hab => ?_) pw)
    obtain ⟨ra, ea⟩ := route_head h (per_nat (hh a ha).1)
    obtain ⟨rb, eb⟩ := route_head h (per_nat (hh b hb).1)
    rw [ea, eb]
    intro z
    have := (List.cons.inj z).1
    omega
  · unfold closedF
    refine List.pairwise_map.mpr (List.Pairwise.imp_of_mem (fun {a b} ha hb hab => ?_) pw)
    obtain ⟨ra, ea⟩ := route_head h (per_nat (hh a ha).1)
    obtain ⟨rb, eb⟩ := route_head h (per_nat (hh b hb).1)
    rw [ea, eb]
    exact lex_head (by omega)
  · unfold closedF
    rw [List.mem_map]
    constructor
    · rintro ⟨i, hi, rfl⟩
      obtain ⟨h1, h2⟩ := hh i hi
      exact ⟨i, h1, ((closes_iff h h1).mp h2).1.symm⟩
    · rintro ⟨j, hj, rfl⟩
      have hp := per_nat hj
      obtain ⟨m, c, er, cy, least, m0, m1⟩ := ringF_form h.lo hp.1 hp.2
      have hm : m.toNat < gs.length := by omega
      have em : ((m.toNat : Nat) : Int) = m := by omega
      have e1 : routeF gs m = itrs gs m c := cyc_route h ⟨m0, m1⟩ cy
      have e2 : ringF gs m = itrs gs m c := by rw [cyc_ring h ⟨m0, m1⟩ cy, turn_self cy (by rw [← er]; exact least)]
      refine ⟨m.toNat, List.mem_filter.mpr ⟨List.mem_range.mpr hm, (closes_iff h hm).mpr ?_⟩, ?_⟩
      · rw [em]
        exact ⟨by rw [e1, e2], c, cy⟩
      · rw [em, e1, er]
def missL (ns : List Int) : List Int → Nat → Option Nat
  | [], _ => none
  | z :: r, i => if z ∈ routeF ns (gt ns (i : Int)) then missL ns r (i + 1) else some i
def secondF (ns : List Int) : List Int → Option (Int × Int)
  | [] => none
  | h :: hs => match hs.find? (fun g => decide (ringF ns g = ringF ns h)) with
    | some g => some (h, g)
    | none => secondF ns hs
def brokenL (own : List Int) : List Int → Option (Int × Int)
  | e :: l :: r => if own.idxOf l < own.idxOf e then some (e, l) else brokenL own (l :: r)
  | _ => none
def brokenF (ns lap : List Int) : Option (Int × Int) := brokenL (routeF ns (gt ns (lap.headD 0))) lap.tail
def orderF (ns : List Int) : List (List Int) → PyData
  | [] => .none
  | lap :: r => match brokenF ns lap with
    | some (e, l) => .tuple [.str "order", .int (lap.headD 0), .int e, .int l]
    | none => orderF ns r
def obsF (ns gs : List Int) : PyData := match missL ns gs 0 with
  | some x => .tuple [.str "way", .int (x : Nat)]
  | none => match secondF ns ((closedF gs).map fun r => r.headD 0) with
    | some (x, y) => .tuple [.str "rings", .int x, .int y]
    | none => orderF ns (closedF gs)
theorem missL_none {ns : List Int} : ∀ (gs : List Int) (i : Nat), missL ns gs i = none ↔ ∀ j (h : j < gs.length), gs[j] ∈ routeF ns (gt ns ((i + j : Nat) : Int))
  | [], i => by simp [missL]
  | z :: r, i => by
    unfold missL
    by_cases hz : z ∈ routeF ns (gt ns (i : Int))
    · rw [if_pos hz, missL_none r (i + 1)]
      constructor
      · intro h j hj
        cases j with
        | zero => exact hz
        | succ j =>
          have := h j (by simpa using hj)
          rw [show i + (j + 1) = i + 1 + j by omega]
          simpa using this
      · intro h j hj
        have := h (j + 1) (by simpa using hj)
        rw [show i + (j + 1) = i + 1 + j by omega] at this
        simpa using this
    · rw [if_neg hz]
      constructor
      · intro h; cases h
      · intro h
        exact absurd (h 0 (by simp)) hz
theorem gt_nat {ns : List Int} {j : Nat} (h : j < ns.length) : gt ns (j : Int) = ns[j] := by
  unfold gt
  rw [Int.toNat_natCast, List.getD_eq_getElem?_getD, List.getElem?_eq_getElem h]; rfl
/-- all new pointers lie on the old ways -/
def OnWays (ns gs : List Int) : Prop := ∀ x, Per ns x → gt gs x ∈ routeF ns (gt ns x)
theorem miss_ways {ns gs : List Int} (hl : gs.length = ns.length) : missL ns gs 0 = none ↔ OnWays ns gs := by
  rw [missL_none]
  constructor
  · intro h x hx
    have := h x.toNat (by have := hx.1; have := hx.2; omega)
    rw [Nat.zero_add, ← gt_nat, show ((x.toNat : Nat) : Int) = x by have := hx.1; omega] at this
    exact this
  · intro h j hj
    rw [Nat.zero_add, ← gt_nat]
    exact h j (per_nat (by omega))
theorem way_itr {ns : List Int} (h : Stt ns) {x z : Int} (hx : Per ns x) (hz : z ∈ routeF ns (gt ns x)) : ∃ m, 0 < m ∧ z = itr ns x m := by
  obtain ⟨L, e, _, _⟩ := h.rt (h.gt hx)
  rw [e] at hz
  obtain ⟨i, _, rfl⟩ := itrs_mem.mp hz
  exact ⟨i + 1, by omega, (itr_succ ns x i).symm⟩
theorem ways_itr {ns gs : List Int} (h : Stt ns) (hw : OnWays ns gs) {x : Int} (hx : Per ns x) : ∀ k, ∃ m, k ≤ m ∧ itr gs x k = itr ns x m
  | 0 => ⟨0, Nat.le_refl _, rfl⟩
  | k + 1 => by
    obtain ⟨m, hm, e⟩ := ways_itr h hw hx k
    have hp : Per ns (itr ns x m) := itr_low h.lo hx.1 hx.2 m
    obtain ⟨t, ht, e2⟩ := way_itr h hp (hw _ hp)
    refine ⟨m + t, by omega, ?_⟩
    show gt gs (itr gs x k) = _
    rw [e, e2, itr_add]
/-- the rings of a goal on the ways are on the rings of the state -/
theorem ways_on {ns gs : List Int} (h : Stt ns) (hw : OnWays ns gs) {x : Int} (hx : Per ns x) {c : Nat} (cy : Cyc gs x c) : (∃ d, Cyc ns x d) ∧ ∀ z ∈ itrs gs x c, z ∈ ringF ns x := by
  obtain ⟨m, hm, e⟩ := ways_itr h hw hx c
  rw [cy.2.1] at e
  obtain ⟨d, cn⟩ := back_cyc h hx (show 0 < m by have := cy.1; omega) e.symm
  refine ⟨⟨d, cn⟩, fun z hz => ?_⟩
  obtain ⟨i, _, rfl⟩ := itrs_mem.mp hz
  obtain ⟨m2, _, e2⟩ := ways_itr h hw hx i
  rw [e2, cyc_ring h hx cn, mem_turnF]
  exact cn.all m2
theorem turnTo_cyc {ns : List Int} (h : Stt ns) {x : Int} (hx : Per ns x) {d : Nat} (cy : Cyc ns x d) : turnTo (ringF ns x) x = itrs ns x d := by
  obtain ⟨c, er, cm, m0, m1⟩ := headF_form h.lo hx.1 hx.2
  have hm := (on_iff h hx).mpr ⟨d, cy⟩
  have hm2 := hm
  rw [er] at hm2
  obtain ⟨i, hi, ei⟩ := itrs_mem.mp hm2
  have cx := (cm.at hm2).1
  have ed := cy.uniq cx
  have ix : (ringF ns x).idxOf x = i := by
    have h1 := idx_get hm
    have h2 := List.idxOf_lt_length_of_mem hm
    rw [er] at h1 h2 ⊢
    rw [itrs_len] at h2
    rw [itrs_get h2] at h1
    exact itrs_apart cm.2.2 h2 hi ((Option.some.inj h1).trans ei.symm)
  unfold turnTo
  rw [ix, er, ← cm.turn (Nat.le_of_lt hi), ei, ed]
theorem idx_itrs {ns : List Int} {x : Int} {c i : Nat} (nd : (itrs ns x c).Nodup) (hi : i < c) : (itrs ns x c).idxOf (itr ns x i) = i := by
  have hm : itr ns x i ∈ itrs ns x c := itrs_mem.mpr ⟨i, hi, rfl⟩
  have h1 := idx_get hm
  have h2 := List.idxOf_lt_length_of_mem hm
  rw [itrs_len] at h2
  rw [itrs_get h2] at h1
  exact itrs_apart nd h2 hi (Option.some.inj h1)
theorem own_cyc {ns : List Int} (h : Stt ns) {x : Int} (hx : Per ns x) {d : Nat} (cy : Cyc ns x d) : routeF ns (gt ns x) = itrs ns (gt ns x) d ∧ Cyc ns (gt ns x) d := by
  have hm : gt ns x ∈ itrs ns x d := cy.all 1
  have c2 := (cy.at hm).1
  exact ⟨cyc_route h (h.gt hx) c2, c2⟩
/-- in the order from x on, and on the way of x, others than x come alike -/
theorem idx_own {ns : List Int} (h : Stt ns) {x : Int} (hx : Per ns x) {d : Nat} (cy : Cyc ns x d) {e : Int} (he : e ∈ ringF ns x) (ne : e ≠ x) : (turnTo (ringF ns x) x).idxOf e = (routeF ns (gt ns x)).idxOf e + 1 := by
  obtain ⟨e1, c2⟩ := own_cyc h hx cy
  rw [cyc_ring h hx cy, mem_turnF] at he
  obtain ⟨i, hi, rfl⟩ := itrs_mem.mp he
  have i0 : i ≠ 0 := fun z => ne (by rw [z]; rfl)
  obtain ⟨j, rfl⟩ : ∃ j, i = j + 1 := ⟨i - 1, by omega⟩
  rw [turnTo_cyc h hx cy, idx_itrs cy.2.2 hi, e1, itr_succ, idx_itrs c2.2.2 (by omega)]
/-- at one ring of the state: K is kept as a ring, the others point at earlier ones -/
def LapOk (gs lap : List Int) : Prop := ∃ K T : List Int, K.Sublist lap ∧ K ≠ [] ∧ T.Nodup ∧ (∀ y, y ∈ T ↔ y ∈ lap) ∧ K = T.take K.length ∧
  (∀ i, i < K.length → gt gs (K.getD i 0) = K.getD ((i + 1) % K.length) 0) ∧ ∀ i, K.length ≤ i → i < T.length → ∃ j, j < i ∧ gt gs (T.getD i 0) = T.getD j 0
theorem LapOk.congr {gs gs' lap : List Int} (h : LapOk gs lap) (e : ∀ x ∈ lap, gt gs' x = gt gs x) : LapOk gs' lap := by
  obtain ⟨K, T, h1, h2, h3, h4, h5, h6, h7⟩ := h
  refine ⟨K, T, h1, h2, h3, h4, h5, fun i hi => ?_, fun i hi hj => ?_⟩
  · rw [← h6 i hi]
    refine e _ (h1.subset ?_)
    rw [List.getD_eq_getElem?_getD, List.getElem?_eq_getElem hi]; exact List.getElem_mem _
  · obtain ⟨j, hj1, hj2⟩ := h7 i hi hj
    refine ⟨j, hj1, ?_⟩
    rw [← hj2]
    refine e _ ((h4 _).mp ?_)
    rw [List.getD_eq_getElem?_getD, List.getElem?_eq_getElem hj]; exact List.getElem_mem _
structure Fut (ns gs : List Int) : Prop where
  st : Stt gs
  len : gs.length = ns.length
  off : ∀ x, Per ns x → x ∉ ringF ns x → gt gs x ∈ routeF ns (gt ns x)
  on : ∀ x, Per ns x → x ∈ ringF ns x → LapOk gs (ringF ns x)
theorem ring_way {ns : List Int} (h : Stt ns) {x z : Int} (hx : Per ns x) (hm : x ∈ ringF ns x) (hz : z ∈ ringF ns x) : z ∈ routeF ns (gt ns x) := by
  obtain ⟨c, cy⟩ := (on_iff h hx).mp hm
  obtain ⟨e1, c2⟩ := own_cyc h hx cy
  rw [cyc_ring h hx cy, mem_turnF] at hz
  rw [e1]
  exact ((cy.at (cy.all 1)).2 z).mpr hz
theorem getD_mem {l : List Int} {i : Nat} (h : i < l.length) : l.getD i 0 ∈ l := by
  rw [List.getD_eq_getElem?_getD, List.getElem?_eq_getElem h]; exact List.getElem_mem _
theorem LapOk.in {gs lap : List Int} (h : LapOk gs lap) {x : Int} (hx : x ∈ lap) : gt gs x ∈ lap := by
  obtain ⟨K, T, h1, h2, h3, h4, h5, h6, h7⟩ := h
  have hT := (h4 x).mpr hx
  obtain ⟨i, hi, rfl⟩ := List.mem_iff_getElem.mp hT
  have e : T.getD i 0 = T[i] := by rw [List.getD_eq_getElem?_getD, List.getElem?_eq_getElem hi]; rfl
  by_cases hk : i < K.length
  · have ek : K.getD i 0 = T[i] := by
      rw [h5, List.getD_eq_getElem?_getD, List.getElem?_take_of_lt hk, List.getElem?_eq_getElem hi]; rfl
    rw [← ek, h6 i hk]
    exact h1.subset (getD_mem (Nat.mod_lt _ (by omega)))
  · obtain ⟨j, hj, ej⟩ := h7 i (by omega) hi
    rw [← e, ej]
    exact (h4 _).mp (getD_mem (by omega))
theorem Fut.ways {ns gs : List Int} (h : Stt ns) (f : Fut ns gs) : OnWays ns gs := fun x hx => by
  by_cases hm : x ∈ ringF ns x
  · exact ring_way h hx hm ((f.on x hx hm).in hm)
  · exact f.off x hx hm
/-- from each member of the lap the new pointers lead into K -/
theorem lap_in {gs K T : List Int} (h5 : K = T.take K.length) (h7 : ∀ i, K.length ≤ i → i < T.length → ∃ j, j < i ∧ gt gs (T.getD i 0) = T.getD j 0) : ∀ (n i : Nat), i ≤ n → i < T.length → ∃ t, itr gs (T.getD i 0) t ∈ K := by
  intro n
  induction n with
  | zero =>
    intro i hi ht
    by_cases hk : i < K.length
    · refine ⟨0, ?_⟩
      show T.getD i 0 ∈ K
      have : T.getD i 0 = K.getD i 0 := by rw [h5, List.getD_eq_getElem?_getD, List.getD_eq_getElem?_getD, List.getElem?_take_of_lt hk]
      rw [this]; exact getD_mem hk
    · obtain ⟨j, hj, _⟩ := h7 i (by omega) ht
      omega
  | succ n ih =>
    intro i hi ht
    by_cases hk : i < K.length
    · refine ⟨0, ?_⟩
      show T.getD i 0 ∈ K
      have : T.getD i 0 = K.getD i 0 := by rw [h5, List.getD_eq_getElem?_getD, List.getD_eq_getElem?_getD, List.getElem?_take_of_lt hk]
      rw [this]; exact getD_mem hk
    · obtain ⟨j, hj, e⟩ := h7 i (by omega) ht
      obtain ⟨t, ht2⟩ := ih j (by omega) (by omega)
      exact ⟨t + 1, by rw [itr_succ, e]; exact ht2⟩
theorem kept_itr {gs K : List Int} (h2 : K ≠ []) (h6 : ∀ i, i < K.length → gt gs (K.getD i 0) = K.getD ((i + 1) % K.length) 0) {i : Nat} (hi : i < K.length) : ∀ t, itr gs (K.getD i 0) t = K.getD ((i + t) % K.length) 0
  | 0 => by rw [Nat.add_zero, Nat.mod_eq_of_lt hi]; rfl
  | t + 1 => by
    have hl : 0 < K.length := by omega
    show gt gs (itr gs (K.getD i 0) t) = _
    rw [kept_itr h2 h6 hi t, h6 _ (Nat.mod_lt _ hl), Nat.mod_add_mod, Nat.add_assoc]
/-- the ring of a kept one is the kept list, turned -/
theorem kept_cyc {gs K : List Int} (nd : K.Nodup) (h2 : K ≠ []) (h6 : ∀ i, i < K.length → gt gs (K.getD i 0) = K.getD ((i + 1) % K.length) 0) {i : Nat} (hi : i < K.length) : Cyc gs (K.getD i 0) K.length ∧ itrs gs (K.getD i 0) K.length = K.drop i ++ K.take i := by
  have e : itrs gs (K.getD i 0) K.length = K.drop i ++ K.take i := by
    refine List.ext_getElem? fun t => ?_
    by_cases ht : t < K.length
    · rw [itrs_get ht, kept_itr h2 h6 hi t, List.getElem?_append, List.length_drop]
      by_cases q : t < K.length - i
      · rw [if_pos q, List.getElem?_drop, Nat.mod_eq_of_lt (by omega), List.getD_eq_getElem?_getD, List.getElem?_eq_getElem (by omega)]; rfl
      · have e1 : (i + t) % K.length = t - (K.length - i) := by
          rw [Nat.mod_eq_sub_mod (by omega), Nat.mod_eq_of_lt (by omega)]; omega
        rw [if_neg q, List.getElem?_take_of_lt (by omega), e1, List.getD_eq_getElem?_getD, List.getElem?_eq_getElem (by omega)]; rfl
    · rw [List.getElem?_eq_none (by rw [itrs_len]; omega), List.getElem?_eq_none (by rw [List.length_append, List.length_drop, List.length_take]; omega)]
  refine ⟨⟨by omega, ?_, ?_⟩, e⟩
  · rw [kept_itr h2 h6 hi, Nat.add_mod_right, Nat.mod_eq_of_lt hi]
  · rw [e]
    refine (List.perm_append_comm.trans ?_).nodup_iff.mpr nd
    rw [List.take_append_drop]
/-- the new rings at one old ring -/
theorem Fut.ring {ns gs : List Int} (h : Stt ns) (f : Fut ns gs) {r : Int} (hr : Per ns r) (hm : r ∈ ringF ns r) : ∃ K : List Int, K.Sublist (ringF ns r) ∧ ∀ x c, x ∈ ringF ns r → Cyc gs x c → ∃ i, i < K.length ∧ K.getD i 0 = x ∧ itrs gs x c = K.drop i ++ K.take i ∧ c = K.length := by
  obtain ⟨K, T, h1, h2, h3, h4, h5, h6, h7⟩ := f.on r hr hm
  have nd : K.Nodup := by rw [h5]; exact h3.sublist (List.take_sublist _ _)
  refine ⟨K, h1, fun x c hx cy => ?_⟩
  obtain ⟨i, hi, ei⟩ := List.mem_iff_getElem.mp ((h4 x).mpr hx)
  have e : T.getD i 0 = x := by rw [List.getD_eq_getElem?_getD, List.getElem?_eq_getElem hi]; exact ei
  obtain ⟨t, ht⟩ := lap_in h5 h7 i i (Nat.le_refl _) hi
  rw [e] at ht
  obtain ⟨j, hj, ej⟩ := List.mem_iff_getElem.mp ht
  have ej2 : K.getD j 0 = itr gs x t := by rw [List.getD_eq_getElem?_getD, List.getElem?_eq_getElem hj]; exact ej
  obtain ⟨ck, ek⟩ := kept_cyc nd h2 h6 hj
  rw [ej2] at ck ek
  have cx := (cy.at (cy.all t)).1
  have hc := ck.uniq cx
  have xin : x ∈ itrs gs (itr gs x t) c := ((cy.at (cy.all t)).2 x).mpr (itrs_mem.mpr ⟨0, cy.1, rfl⟩)
  rw [← hc, ek] at xin
  have xk : x ∈ K := by
    rcases List.mem_append.mp xin with z | z
    · exact List.mem_of_mem_drop z
    · exact List.mem_of_mem_take z
  obtain ⟨a, ha, ea⟩ := List.mem_iff_getElem.mp xk
  have ea2 : K.getD a 0 = x := by rw [List.getD_eq_getElem?_getD, List.getElem?_eq_getElem ha]; exact ea
  obtain ⟨c3, e3⟩ := kept_cyc nd h2 h6 ha
  rw [ea2] at c3 e3
  refine ⟨a, ha, ea2, ?_, hc.symm⟩
  rw [← hc]; exact e3
theorem second_none {ns : List Int} : ∀ hs : List Int, hs.Nodup → (∀ a ∈ hs, ∀ b ∈ hs, ringF ns a = ringF ns b → a = b) → secondF ns hs = none
  | [], _, _ => rfl
  | h :: hs, nd, hq => by
    unfold secondF
    have n2 := List.nodup_cons.mp nd
    rw [List.find?_eq_none.mpr fun g hg => by
      rw [decide_eq_true_iff]
      intro e
      exact n2.1 (by rw [← hq g (List.mem_cons_of_mem _ hg) h List.mem_cons_self e]; exact hg)]
    exact second_none hs n2.2 fun a ha b hb => hq a (List.mem_cons_of_mem _ ha) b (List.mem_cons_of_mem _ hb)
theorem sub_idx : ∀ (own : List Int) (e l : Int), own.Nodup → [e, l].Sublist own → own.idxOf e < own.idxOf l
  | [], e, l, _, h => by cases h
  | x :: own, e, l, nd, h => by
    have n2 := List.nodup_cons.mp nd
    cases h with
    | cons _ h =>
      have he : e ∈ own := h.subset List.mem_cons_self
      have hl : l ∈ own := h.subset (List.mem_cons_of_mem _ List.mem_cons_self)
      have := sub_idx own e l n2.2 h
      rw [List.idxOf_cons, List.idxOf_cons, beq_eq_false_iff_ne.mpr (fun z => n2.1 (by rw [z]; exact he)), beq_eq_false_iff_ne.mpr (fun z => n2.1 (by rw [z]; exact hl))]
      simpa using this
    | cons_cons _ h =>
      have hl : l ∈ own := h.subset List.mem_cons_self
      rw [List.idxOf_cons, List.idxOf_cons, beq_self_eq_true, beq_eq_false_iff_ne.mpr (fun z => n2.1 (by rw [z]; exact hl))]
      simp
theorem broken_none {own : List Int} (nd : own.Nodup) : ∀ ls : List Int, ls.Sublist own → brokenL own ls = none
  | [], _ => rfl
  | [_], _ => rfl
  | e :: l :: r, h => by
    have h1 : [e, l].Sublist own := (List.Sublist.cons_cons e (List.Sublist.cons_cons l (List.nil_sublist r))).trans h
    have := sub_idx own e l nd h1
    unfold brokenL
    rw [if_neg (by omega)]
    exact broken_none nd (l :: r) ((List.sublist_cons_self e (l :: r)).trans h)
theorem orderF_none {ns : List Int} : ∀ RS : List (List Int), (∀ lap ∈ RS, brokenF ns lap = none) → orderF ns RS = .none
  | [], _ => rfl
  | lap :: r, h => by
    unfold orderF
    rw [h lap List.mem_cons_self]
    exact orderF_none r fun l hl => h l (List.mem_cons_of_mem _ hl)
theorem closed_mem {gs : List Int} (h : Stt gs) {lap : List Int} (hl : lap ∈ closedF gs) : ∃ x c, Per gs x ∧ Cyc gs x c ∧ lap = itrs gs x c ∧ lap.headD 0 = x ∧ lap = ringF gs x := by
  unfold closedF at hl
  obtain ⟨i, hi, rfl⟩ := List.mem_map.mp hl
  have q := List.mem_filter.mp hi
  have hi2 := List.mem_range.mp q.1
  obtain ⟨e1, c, cy⟩ := (closes_iff h hi2).mp q.2
  have hp := per_nat hi2
  obtain ⟨r, er⟩ := route_head h hp
  exact ⟨i, c, hp, cy, cyc_route h hp cy, by rw [er]; rfl, e1⟩
theorem closed_heads {gs : List Int} (h : Stt gs) : ((closedF gs).map fun r => r.headD 0).Nodup := by
  unfold closedF
  rw [List.map_map]
  have pw : ((List.range gs.length).filter (closesB gs)).Pairwise (· < ·) := List.Pairwise.filter _ List.pairwise_lt_range
  refine List.pairwise_map.mpr (List.Pairwise.imp_of_mem (fun {a b} ha hb hab => ?_) pw)
  have la := List.mem_range.mp (List.mem_filter.mp ha).1
  have lb := List.mem_range.mp (List.mem_filter.mp hb).1
  obtain ⟨ra, ea⟩ := route_head h (per_nat la)
  obtain ⟨rb, eb⟩ := route_head h (per_nat lb)
  show (routeF gs (a : Int)).headD 0 ≠ (routeF gs (b : Int)).headD 0
  rw [ea, eb]
  show (a : Int) ≠ (b : Int)
  omega
/-- a list that is cut at one of its members, and a part of it likewise -/
theorem sub_turn {lap : List Int} : ∀ {K : List Int}, lap.Nodup → K.Sublist lap → ∀ i, i < K.length → (K.drop (i + 1) ++ K.take i).Sublist (lap.drop (lap.idxOf (K.getD i 0) + 1) ++ lap.take (lap.idxOf (K.getD i 0))) := by
  intro K nd h i hi
  have hx : K.getD i 0 = K[i] := by rw [List.getD_eq_getElem?_getD, List.getElem?_eq_getElem hi]; rfl
  have eK : K = K.take i ++ K[i] :: K.drop (i + 1) := by rw [List.getElem_cons_drop, List.take_append_drop]
  rw [hx]
  rw [eK] at h
  obtain ⟨L1, L2, eL, s1, s2⟩ := List.append_sublist_iff.mp h
  obtain ⟨M1, M2, eM, s3, s4⟩ := List.cons_sublist_iff.mp s2
  obtain ⟨A, B, eA⟩ := List.append_of_mem s3
  have el : lap = (L1 ++ A) ++ K[i] :: (B ++ M2) := by rw [eL, eM, eA]; simp
  have nin : K[i] ∉ L1 ++ A := fun z => by
    rw [el] at nd
    have := (List.nodup_append.mp nd).2.2 _ z _ List.mem_cons_self
    exact this rfl
  have ix : lap.idxOf K[i] = (L1 ++ A).length := by
    rw [el, List.idxOf_append, if_neg nin, List.idxOf_cons_self, Nat.zero_add]
  rw [ix]
  have t1 : lap.take (L1 ++ A).length = L1 ++ A := by rw [el, List.take_left]
  have t2 : lap.drop ((L1 ++ A).length + 1) = B ++ M2 := by
    rw [el, List.drop_append, List.drop_eq_nil_of_le (by omega), Nat.add_sub_cancel_left]; rfl
  rw [t1, t2]
  exact (s4.trans (List.sublist_append_right B M2)).append (s1.trans (List.sublist_append_left L1 A))
theorem fut_clear {ns gs : List Int} (h : Stt ns) (f : Fut ns gs) : obsF ns gs = .none := by
  have hw := f.ways h
  have sg := f.st
  have pg : ∀ {x : Int}, Per gs x → Per ns x := fun {x} hx => ⟨hx.1, by rw [← f.len]; exact hx.2⟩
  unfold obsF
  rw [(miss_ways f.len).mpr hw]
  show (match secondF ns ((closedF gs).map fun r => r.headD 0) with | some (x, y) => PyData.tuple [.str "rings", .int x, .int y] | none => orderF ns (closedF gs)) = .none
  rw [second_none _ (closed_heads sg) ?_]
  · show orderF ns (closedF gs) = .none
    refine orderF_none _ fun lap hl => ?_
    obtain ⟨x, c, hx, cy, el, eh, _⟩ := closed_mem sg hl
    obtain ⟨⟨d, cn⟩, _⟩ := ways_on h hw (pg hx) cy
    have hm := (on_iff h (pg hx)).mpr ⟨d, cn⟩
    obtain ⟨K, h1, h2⟩ := f.ring h (pg hx) hm
    obtain ⟨i, hi, ex, e2, _⟩ := h2 x c hm cy
    unfold brokenF
    rw [eh]
    obtain ⟨e1, c2⟩ := own_cyc h (pg hx) cn
    have nd2 : (routeF ns (gt ns x)).Nodup := by rw [e1]; exact c2.2.2
    refine broken_none nd2 _ ?_
    obtain ⟨q, er, cm, q0, q1⟩ := headF_form h.lo (pg hx).1 (pg hx).2
    have ndr : (ringF ns x).Nodup := by rw [er]; exact cm.2.2
    have st := sub_turn ndr h1 i hi
    rw [ex] at st
    have et : lap.tail = K.drop (i + 1) ++ K.take i := by
      rw [el, e2, ← List.getElem_cons_drop (h := hi)]; rfl
    rw [et]
    refine st.trans ?_
    have tt := turnTo_cyc h (pg hx) cn
    have ix := List.idxOf_lt_length_of_mem hm
    unfold turnTo at tt
    rw [← List.getElem_cons_drop (h := ix)] at tt
    have tt2 := congrArg List.tail tt
    have e5 : (itrs ns x d).tail = (itrs ns (gt ns x) d).take (d - 1) := by
      obtain ⟨M, rfl⟩ : ∃ M, d = M + 1 := ⟨d - 1, by have := cn.1; omega⟩
      rw [Nat.add_sub_cancel, itrs_succ ns (gt ns x) M, List.take_left' (itrs_len ns (gt ns x) M)]
      unfold itrs
      rw [List.range_succ_eq_map]
      show List.map _ (List.map _ _) = _
      rw [List.map_map]
      exact List.map_congr_left fun k _ => itr_succ ns x k
    rw [e5] at tt2
    have tt3 : (ringF ns x).drop ((ringF ns x).idxOf x + 1) ++ (ringF ns x).take ((ringF ns x).idxOf x) = (itrs ns (gt ns x) d).take (d - 1) := tt2
    rw [tt3, e1]
    exact List.take_sublist _ _
  · intro a ha b hb e
    obtain ⟨la, hla, rfl⟩ := List.mem_map.mp ha
    obtain ⟨lb, hlb, rfl⟩ := List.mem_map.mp hb
    obtain ⟨x, c, hx, cy, el, eh, er⟩ := closed_mem sg hla
    obtain ⟨y, c', hy, cy', el', eh', er'⟩ := closed_mem sg hlb
    simp only [eh, eh'] at e ⊢
    obtain ⟨⟨d, cn⟩, _⟩ := ways_on h hw (pg hx) cy
    obtain ⟨⟨d', cn'⟩, _⟩ := ways_on h hw (pg hy) cy'
    have hm := (on_iff h (pg hx)).mpr ⟨d, cn⟩
    have hm' := (on_iff h (pg hy)).mpr ⟨d', cn'⟩
    obtain ⟨K, h1, h2⟩ := f.ring h (pg hx) hm
    obtain ⟨i, hi, ex, e2, k1⟩ := h2 x c hm cy
    obtain ⟨j, hj, ey, e3, k2⟩ := h2 y c' (by rw [e]; exact hm') cy'
    have yin : y ∈ itrs gs x c := by
      rw [e2]
      have : y ∈ K := by rw [← ey]; exact getD_mem hj
      rw [← List.take_append_drop i K] at this
      rcases List.mem_append.mp this with z | z
      · exact List.mem_append_right _ z
      · exact List.mem_append_left _ z
    have es : ringF gs x = ringF gs y := by
      rw [cyc_ring sg hx cy, cyc_ring sg hy cy']
      exact cy.same cy' yin (itrs_mem.mpr ⟨0, cy'.1, rfl⟩)
    rw [← eh, ← eh', er, er', es]
/-- the state itself -/
theorem Fut.self {ns : List Int} (h : Stt ns) : Fut ns ns := by
  refine ⟨h, rfl, fun x hx _ => ?_, fun x hx hm => ?_⟩
  · obtain ⟨r, e⟩ := route_head h (h.gt hx)
    rw [e]; exact List.mem_cons_self
  · obtain ⟨c, er, cy, h0, h1⟩ := headF_form h.lo hx.1 hx.2
    have hl : (ringF ns x).length = c := by rw [er, itrs_len]
    have gD : ∀ i, i < c → (ringF ns x).getD i 0 = itr ns (headF ns x) i := fun i hi => by
      rw [er, List.getD_eq_getElem?_getD, itrs_get hi]; rfl
    have c0 := cy.1
    refine ⟨ringF ns x, ringF ns x, List.Sublist.refl _, ring_ne h hx, by rw [er]; exact cy.2.2, fun _ => Iff.rfl, by rw [List.take_length], fun i hi => ?_, fun i hi hj => by omega⟩
    rw [hl] at hi ⊢
    rw [gD i hi, gD _ (Nat.mod_lt _ c0)]
    show itr ns (headF ns x) (i + 1) = _
    by_cases q : i + 1 = c
    · rw [q, Nat.mod_self, cy.2.1]; rfl
    · rw [Nat.mod_eq_of_lt (by omega)]
end Lp

namespace Lp
open PySem PySem.Spec PyProof.Rows L2
local macro_rules | `(tactic| rfl') => `(tactic| try dsimp only [dVar_, gv_sh, gv_ow, gv_bx, gv_raw, gv_st, dC, dRaw, dOp, dUn, dTest, dTruth, dAnd, dOr, dNot, dYes, dIf, dAndV, dOrV, dNotV, dNotT, dChain, dNil, dCons, dTup, dLst, dats, dCB, dNoP, dPart, dSl, dNext, dBreak, dCont, dNever, dDrop, dRet, dRetN, dIfS, dSetG, dPar, dPar3, dAppend, dAppPop, dSetIx, dExt, dAug, dSet0, dSAdd, dSNotIn, dIter_, gi_l, gi_t, gi_b, dRng1, dRng2, dName, dGNil, dGCons, dGTup, dAsg, dFor, dWhile, dCall, dCallR, dArgs_, ga_f, ga_t, argsOf, dLc, wipeE, dListRg, dIndex, dSortSet, dSortSc, dEnum, dEnA, dZip, dIsi, dIsi2, isaT, φI, φB, φC, φNeg, add_i, add_l, add_t, mul_i, mul_l, φIx, sl_l, sl_t, eq_i, eq_s, eq_l, eq_t, eq_b, eq_n, φIsN, isN_n, isN_b, isN_i, isN_s, isN_l, isN_t, φLen, φList, φTuple, φAbs, φInt, φMax, φIsB, φIsNB, its_l, its_t, rd_sh, rd_nw, rd_br, rp_sh, rp_nw, rp_br, rp_bx, rp_raw, rp_sr, rr_sh, rr_nw, rr_br, ra_sh, ra_br, ra_bx, ra_raw, va_sh, va_nt, va_nf, va_raw, hb_n, hb_sh, hb_bx, hb_raw, hb_br, sh_n, sh_c, tr_n, tr_b, tr_i, tr_l, tr_t, ty_n, ty_b, ty_i, ty_s, ty_l, ty_t, if_ff, if_tt, Env.set, List.getElem?_cons_succ, List.getElem?_cons_zero, List.set_cons_succ, List.set_cons_zero, List.reverse_cons, List.reverse_nil, List.nil_append, List.cons_append, Option.bind_some, ite_true, ite_false])
/-- check_size: state, other -/
def b_check_size : DTS := (dIfS (dTest (dOp (φEq true) (dCB φLen (dCons (dVar 1) dNil)) (dCB φLen (dCons (dVar 0) dNil)))) dNever dNext)
abbrev k_check_size : Nat := 0
def p_check_size : DSp := fun args c Q => ∃ (d e : PyData) (ds es : List PyData), args = [.sh d, .sh e] ∧ PyData.its d = some ds ∧ PyData.its e = some es ∧ es.length = ds.length ∧ Q (.sh .none) c
theorem mon_check_size : MonF p_check_size := fun args c A B h ⟨d, e, ds, es, ea, h1, h2, h3, q⟩ => ⟨d, e, ds, es, ea, h1, h2, h3, h _ _ q⟩
theorem m_check_size : ∀ args c Q, p_check_size args c Q → defF k_check_size b_check_size args c Q := by
  rintro _ c Q ⟨d, e, ds, es, rfl, h1, h2, h3, q⟩
  show b_check_size _ ⟨[.sh d, .sh e], c⟩
  unfold b_check_size
  rfl'
  rw [h2, h1]
  rfl'
  exact in_f (by rw [h3]) q
theorem c_size {d e : PyData} {ns gs : List Int} {c : Nat} {Q : R → Nat → Prop} (h1 : PyData.its d = some (dI ns)) (h2 : PyData.its e = some (dI gs)) (hl : gs.length = ns.length) (q : Q (.sh .none) c) : p_check_size [.sh d, .sh e] c Q :=
  ⟨d, e, dI ns, dI gs, rfl, h1, h2, by rw [dI_len, dI_len]; exact hl, q⟩
/-- closed_rings: pointers, found, person, route -/
def b_closed_rings : DTS := (dSeq (dSetG true 1 (dLst dNil))
  (dSeq (dFor (dRng1 (dCons (dCB φLen (dCons (dVar 0) dNil)) dNil)) (dName 2) (dSeq (dSetG false 3 (dCall p_route_from (dCons (dVar 0) (dCons (dVar 2) dNil))))
  (dIfS (dAnd (dTest (dOp (φEq false) (dOp φIx (dVar 0) (dOp φIx (dVar 3) (dUn φNeg (dC (.int 1))))) (dVar 2))) (dTest (dOp (φEq false) (dCB φMin (dCons (dVar 3) dNil)) (dVar 2)))) (dAppend 1 (dCB φTuple (dCons (dVar 3) dNil))) dNext)))
  (dRet (dVar 1))))
abbrev k_closed_rings : Nat := 3
def p_closed_rings : DSp := fun args c Q => ∃ (d : PyData) (gs : List Int), args = [.sh d] ∧ PyData.its d = some (dI gs) ∧ Stt gs ∧ Q (.nw (dT (closedF gs))) c
theorem mon_closed_rings : MonF p_closed_rings := fun args c A B h ⟨d, gs, ea, h1, h2, q⟩ => ⟨d, gs, ea, h1, h2, h _ _ q⟩
theorem dT_snoc (a : List (List Int)) (z : List Int) : dT a ++ [.tuple (dI z)] = dT (a ++ [z]) := by
  show a.map _ ++ _ = (a ++ [z]).map _
  rw [List.map_append]; rfl
theorem dT_len (a : List (List Int)) : (dT a).length = a.length := List.length_map ..
abbrev closed_body : DTS := (dSeq (dSetG false 3 (dCall p_route_from (dCons (dVar 0) (dCons (dVar 2) dNil))))
  (dIfS (dAnd (dTest (dOp (φEq false) (dOp φIx (dVar 0) (dOp φIx (dVar 3) (dUn φNeg (dC (.int 1))))) (dVar 2))) (dTest (dOp (φEq false) (dCB φMin (dCons (dVar 3) dNil)) (dVar 2)))) (dAppend 1 (dCB φTuple (dCons (dVar 3) dNil))) dNext))
theorem closed_loop {d : PyData} {gs : List Int} (hd : PyData.its d = some (dI gs)) (hs : Stt gs) {Δ : DEnds} {c : Nat} : ∀ (js : List Nat) (acc : List (List Int)) (y z : SV), (∀ j ∈ js, j < gs.length) → acc.length + js.length ≤ 1000 →
    (∀ y z, Δ.nx ⟨[.sh d, .ow (dT (acc ++ (js.filter (closesB gs)).map fun i : Nat => routeF gs (i : Int))), y, z], c⟩) →
    forD (dName 2) closed_body Δ (js.map fun i : Nat => .int (i : Nat)) ⟨[.sh d, .ow (dT acc), y, z], c⟩
  | [], acc, y, z, _, _, q => by
    have := q y z
    rw [List.filter_nil, List.map_nil, List.append_nil] at this
    exact this
  | j :: js, acc, y, z, hj, hl, q => by
    have hp := per_nat (hj j List.mem_cons_self)
    obtain ⟨l, l1, l2, l3, l4⟩ := route_last hs hp
    have hne : routeF gs (j : Int) ≠ [] := fun z => by
      have := (route_len hs hp).1
      rw [z] at this; simp at this
    rw [List.length_cons] at hl
    have rec0 : closesB gs j = false → forD (dName 2) closed_body Δ (js.map fun i : Nat => .int (i : Nat)) ⟨[.sh d, .ow (dT acc), .sh (.int (j : Nat)), .sh (.list (dI (routeF gs (j : Int))))], c⟩ := fun hb =>
      closed_loop hd hs js acc _ _ (fun k hk => hj k (List.mem_cons_of_mem _ hk)) (by omega) fun y z => by
        have := q y z
        rw [List.filter_cons_of_neg (by rw [hb]; exact fun z => nomatch z)] at this
        exact this
    rw [List.map_cons]
    refine for_cons ?_
    rfl'
    refine sq_ ?_
    rfl'
    refine c_route hd hs hp ?_
    rfl'
    refine ⟨_, atI_last (dI_last l1), ?_⟩
    rw [hd]
    refine ⟨_, atI_dI l2.1 l2.2, ?_⟩
    rfl'
    refine it_2 (fun e1 => ?_) fun e1 => ?_
    · refine φMin_dI (its_l _) hne fun m hm => ?_
      have em : m = minF (routeF gs (j : Int)) := by
        have := minF_ok hne
        exact Int.le_antisymm (hm.2 _ this.1) (this.2 _ hm.1)
      rfl'
      refine it_2 (fun e2 => ?_) fun e2 => ?_
      · have hb : closesB gs j = true := decide_eq_true ⟨by rw [l4]; exact e1, by rw [← em]; exact e2⟩
        refine ⟨show _ < 16777216 by rw [dT_len]; omega, ?_⟩
        rw [dT_snoc]
        refine closed_loop hd hs js (acc ++ [routeF gs (j : Int)]) _ _ (fun k hk => hj k (List.mem_cons_of_mem _ hk)) (by rw [List.length_append, List.length_singleton]; omega) fun y z => ?_
        have := q y z
        rw [List.filter_cons_of_pos hb, List.map_cons] at this
        rw [List.append_assoc]; exact this
      · exact rec0 (decide_eq_false fun z => e2 (by rw [em]; exact z.2))
    · exact rec0 (decide_eq_false fun z => e1 (by rw [← l4]; exact z.1))
theorem m_closed_rings : ∀ args c Q, p_closed_rings args c Q → defF k_closed_rings b_closed_rings args c Q := by
  rintro _ c Q ⟨d, gs, rfl, h1, h2, q⟩
  show b_closed_rings _ ⟨[.sh d, .un, .un, .un], c⟩
  unfold b_closed_rings
  refine sq_ ?_
  rfl'
  refine sq_ ?_
  rfl'
  rw [h1]
  dsimp only
  rw [dI_len]
  refine ⟨h2.rg, rfl, ?_⟩
  rw [Int.toNat_natCast, rg0]
  refine closed_loop h1 h2 (List.range gs.length) [] _ _ (fun j hj => List.mem_range.mp hj) (by rw [List.length_range]; have := h2.le; show 0 + _ ≤ _; omega) fun y z => ?_
  rfl'
  exact q
/-- missed_way: state, pointers, person, target -/
def b_missed_way : DTS := (dSeq (dFor (dEnA (dCons (dVar 1) dNil)) (dGTup 2 (dGCons (dName 2) (dGCons (dName 3) dGNil))) (dIfS (dAnd (dTest (dOp (φIsN true) (dVar 3) (dC .none))) (dTest (dOp (φIn true) (dVar 3) (dCall p_way (dCons (dVar 0) (dCons (dVar 2) dNil)))))) (dRet (dTup (dCons (dC (.str "way")) (dCons (dVar 2) dNil)))) dNext))
  (dRet (dC .none)))
abbrev k_missed_way : Nat := 2
def missD (ns gs : List Int) : PyData := match missL ns gs 0 with
  | some x => .tuple [.str "way", .int (x : Nat)]
  | none => .none
def p_missed_way : DSp := fun args c Q => ∃ (d e : PyData) (ns gs : List Int), args = [.sh d, .sh e] ∧ PyData.its d = some (dI ns) ∧ PyData.its e = some (dI gs) ∧ Stt ns ∧ gs.length = ns.length ∧ Q (.sh (missD ns gs)) c
theorem mon_missed_way : MonF p_missed_way := fun args c A B h ⟨d, e, ns, gs, ea, h1, h2, h3, h4, q⟩ => ⟨d, e, ns, gs, ea, h1, h2, h3, h4, h _ _ q⟩
theorem enD_at (ms : List Int) : enD (dI ms) = (ms.zipIdx 0).map fun p : Int × Nat => .tuple [.int (p.2 : Nat), .int p.1] := enD_dI ms
theorem miss_loop {d e : PyData} {ns : List Int} (hd : PyData.its d = some (dI ns)) (hs : Stt ns) {Δ : DEnds} {c : Nat} : ∀ (zs : List Int) (i : Nat) (y z : SV), i + zs.length ≤ ns.length →
    (∀ x y z, missL ns zs i = some x → Δ.rt (.sh (.tuple [.str "way", .int (x : Nat)])) ⟨[.sh d, .sh e, y, z], c⟩) → (missL ns zs i = none → ∀ y z, Δ.nx ⟨[.sh d, .sh e, y, z], c⟩) →
    forD (dGTup 2 (dGCons (dName 2) (dGCons (dName 3) dGNil))) (dIfS (dAnd (dTest (dOp (φIsN true) (dVar 3) (dC .none))) (dTest (dOp (φIn true) (dVar 3) (dCall p_way (dCons (dVar 0) (dCons (dVar 2) dNil)))))) (dRet (dTup (dCons (dC (.str "way")) (dCons (dVar 2) dNil)))) dNext) Δ ((zs.zipIdx i).map fun p : Int × Nat => .tuple [.int (p.2 : Nat), .int p.1]) ⟨[.sh d, .sh e, y, z], c⟩
  | [], i, y, z, _, _, qn => qn rfl y z
  | x :: zs, i, y, z, hl, qr, qn => by
    rw [List.length_cons] at hl
    unfold missL at qr qn
    rw [List.zipIdx_cons, List.map_cons]
    refine for_cons ?_
    rfl'
    refine ⟨rfl, ?_⟩
    refine if_t rfl ?_
    refine c_way hd hs (per_nat (j := i) (by omega)) ?_
    refine φIn_dI (its_l _) ?_
    rfl'
    refine in_2 (fun hm => ?_) fun hm => ?_
    · rw [if_neg hm] at qr
      exact qr i _ _ rfl
    · rw [if_pos hm] at qr qn
      exact miss_loop hd hs zs (i + 1) _ _ (by omega) qr qn
theorem m_missed_way : ∀ args c Q, p_missed_way args c Q → defF k_missed_way b_missed_way args c Q := by
  rintro _ c Q ⟨d, e, ns, gs, rfl, h1, h2, h3, h4, q⟩
  show b_missed_way _ ⟨[.sh d, .sh e, .un, .un], c⟩
  unfold b_missed_way
  have go : ∀ (D : Env → Prop), (∀ y z, missL ns gs 0 = none → D ⟨[.sh d, .sh e, y, z], c⟩) → forD (dGTup 2 (dGCons (dName 2) (dGCons (dName 3) dGNil))) (dIfS (dAnd (dTest (dOp (φIsN true) (dVar 3) (dC .none))) (dTest (dOp (φIn true) (dVar 3) (dCall p_way (dCons (dVar 0) (dCons (dVar 2) dNil)))))) (dRet (dTup (dCons (dC (.str "way")) (dCons (dVar 2) dNil)))) dNext) { nx := D, rt := fun r ε => Q r ε.c } (enD (dI gs)) ⟨[.sh d, .sh e, .un, .un], c⟩ := fun D hD => by
    rw [enD_at]
    refine miss_loop h1 h3 gs 0 _ _ (by omega) (fun x y z hx => ?_) fun hn y z => hD y z hn
    unfold missD at q
    rw [hx] at q
    exact q
  refine sqa_ fun D hD => ?_
  rcases its_cases h2 with rfl | rfl
  · rfl'
    refine ⟨rfl, go D fun y z hn => hD _ ?_⟩
    rfl'
    unfold missD at q
    rw [hn] at q
    exact q
  · rfl'
    refine ⟨rfl, go D fun y z hn => hD _ ?_⟩
    rfl'
    unfold missD at q
    rw [hn] at q
    exact q
theorem c_missed {d e : PyData} {ns gs : List Int} {c : Nat} {Q : R → Nat → Prop} (h1 : PyData.its d = some (dI ns)) (h2 : PyData.its e = some (dI gs)) (h3 : Stt ns) (hl : gs.length = ns.length) (q : Q (.sh (missD ns gs)) c) : p_missed_way [.sh d, .sh e] c Q := ⟨d, e, ns, gs, rfl, h1, h2, h3, hl, q⟩
/-- second_ring: state, closed, ends, ring, at, end, later -/
def b_second_ring : DTS := (dSeq (dSetG false 2 (dLc (dIter (dVar 1)) (dName 3) dYes (dCall p_ring_of (dCons (dVar 0) (dCons (dOp φIx (dVar 3) (dC (.int 0))) dNil))) [3]))
  (dSeq (dFor (dEnA (dCons (dVar 2) dNil)) (dGTup 2 (dGCons (dName 4) (dGCons (dName 5) dGNil))) (dFor (dRng2 (dCons (dOp φAdd (dVar 4) (dC (.int 1))) (dCons (dCB φLen (dCons (dVar 2) dNil)) dNil))) (dName 6) (dIfS (dTest (dOp (φEq false) (dOp φIx (dVar 2) (dVar 6)) (dVar 5))) (dRet (dTup (dCons (dC (.str "rings")) (dCons (dOp φIx (dOp φIx (dVar 1) (dVar 4)) (dC (.int 0))) (dCons (dOp φIx (dOp φIx (dVar 1) (dVar 6)) (dC (.int 0))) dNil))))) dNext)))
  (dRet (dC .none))))
abbrev k_second_ring : Nat := 5
/-- rings that begin with people -/
def Laps (ns : List Int) (RS : List (List Int)) : Prop := RS.length ≤ 1000 ∧ ∀ r ∈ RS, r ≠ [] ∧ Per ns (r.headD 0)
def secD (ns : List Int) (hs : List Int) : PyData := match secondF ns hs with
  | some (x, y) => .tuple [.str "rings", .int x, .int y]
  | none => .none
abbrev hds (RS : List (List Int)) : List Int := RS.map fun r => r.headD 0
def p_second_ring : DSp := fun args c Q => ∃ (d : PyData) (ns : List Int) (RS : List (List Int)), args = [.sh d, .sh (.list (dT RS))] ∧ PyData.its d = some (dI ns) ∧ Stt ns ∧ Laps ns RS ∧ Q (.sh (secD ns (hds RS))) c
theorem mon_second_ring : MonF p_second_ring := fun args c A B h ⟨d, ns, RS, ea, h1, h2, h3, q⟩ => ⟨d, ns, RS, ea, h1, h2, h3, h _ _ q⟩
def endsD (ns : List Int) (hs : List Int) : List PyData := hs.map fun h => .tuple (dI (ringF ns h))
theorem atI_ends {ns hs : List Int} {k : Nat} (h : k < hs.length) : atI (endsD ns hs) (k : Int) = some (.tuple (dI (ringF ns hs[k]))) := by
  rw [atI_nat (Int.natCast_nonneg _) (by unfold endsD; rw [List.length_map]; omega), Int.toNat_natCast]
  unfold endsD
  rw [List.getElem?_map, List.getElem?_eq_getElem h]; rfl
theorem atI_lap {RS : List (List Int)} {k : Nat} (h : k < RS.length) : atI (dT RS) (k : Int) = some (.tuple (dI RS[k])) := by
  rw [atI_nat (Int.natCast_nonneg _) (by rw [dT_len]; omega), Int.toNat_natCast]
  show (RS.map _)[k]? = _
  rw [List.getElem?_map, List.getElem?_eq_getElem h]; rfl
theorem atI_hd {r : List Int} (h : r ≠ []) : atI (dI r) 0 = some (.int (r.headD 0)) := by
  cases r with
  | nil => exact absurd rfl h
  | cons x r =>
    rw [atI_nat (Int.le_refl 0) (by rw [dI_len, List.length_cons]; omega)]; rfl
abbrev sec_in : DTS := (dIfS (dTest (dOp (φEq false) (dOp φIx (dVar 2) (dVar 6)) (dVar 5))) (dRet (dTup (dCons (dC (.str "rings")) (dCons (dOp φIx (dOp φIx (dVar 1) (dVar 4)) (dC (.int 0))) (dCons (dOp φIx (dOp φIx (dVar 1) (dVar 6)) (dC (.int 0))) dNil))))) dNext)
theorem sec_inner {d : PyData} {ns : List Int} {RS : List (List Int)} (hr : Laps ns RS) {Δ : DEnds} {c : Nat} {x3 : SV} {i : Nat} (hi : i < RS.length) : ∀ (m k : Nat) (y : SV), k + m = RS.length →
    (∀ g y, ((hds RS).drop k).find? (fun g => decide (ringF ns g = ringF ns ((RS[i]).headD 0))) = some g → Δ.rt (.sh (.tuple [.str "rings", .int ((RS[i]).headD 0), .int g])) ⟨[.sh d, .sh (.list (dT RS)), .sh (.list (endsD ns (hds RS))), x3, .sh (.int (i : Nat)), .sh (.tuple (dI (ringF ns ((RS[i]).headD 0)))), y], c⟩) →
    (((hds RS).drop k).find? (fun g => decide (ringF ns g = ringF ns ((RS[i]).headD 0))) = none → ∀ y, Δ.nx ⟨[.sh d, .sh (.list (dT RS)), .sh (.list (endsD ns (hds RS))), x3, .sh (.int (i : Nat)), .sh (.tuple (dI (ringF ns ((RS[i]).headD 0)))), y], c⟩) →
    forD (dName 6) sec_in Δ (rgD (k : Int) m) ⟨[.sh d, .sh (.list (dT RS)), .sh (.list (endsD ns (hds RS))), x3, .sh (.int (i : Nat)), .sh (.tuple (dI (ringF ns ((RS[i]).headD 0)))), y], c⟩
  | 0, k, y, hk, qr, qn => by
    refine qn ?_ y
    rw [List.drop_eq_nil_of_le (by rw [List.length_map]; omega)]; rfl
  | m + 1, k, y, hk, qr, qn => by
    have hkl : k < RS.length := by omega
    have hkh : k < (hds RS).length := by rw [List.length_map]; exact hkl
    have eh : (hds RS)[k] = (RS[k]).headD 0 := List.getElem_map ..
    have ed : (hds RS).drop k = (RS[k]).headD 0 :: (hds RS).drop (k + 1) := by rw [← List.getElem_cons_drop (h := hkh), eh]
    rw [ed, List.find?_cons] at qr qn
    have erg : rgD (k : Int) (m + 1) = .int (k : Nat) :: rgD ((k + 1 : Nat) : Int) m := by
      unfold rgD
      rw [List.range_succ_eq_map, List.map_cons, List.map_map]
      rw [show (k : Int) + ((0 : Nat) : Int) = ((k : Nat) : Int) by omega]
      refine congrArg (List.cons _) (List.map_congr_left fun j _ => ?_)
      show PyData.int _ = PyData.int _
      congr 1
      show (k : Int) + ((j + 1 : Nat) : Int) = ((k + 1 : Nat) : Int) + (j : Int)
      omega
    rw [erg]
    refine for_cons ?_
    rfl'
    refine ⟨_, atI_ends hkh, ?_⟩
    rw [eh]
    rfl'
    refine ⟨⟨shT _, shT _⟩, ?_⟩
    rw [eqvT]
    refine it_2 (fun e1 => ?_) fun e1 => ?_
    · rw [decide_eq_true e1] at qr
      refine ⟨_, atI_lap hi, ?_⟩
      rfl'
      refine ⟨_, atI_hd (hr.2 _ (List.getElem_mem _)).1, ?_⟩
      refine ⟨_, atI_lap hkl, ?_⟩
      rfl'
      refine ⟨_, atI_hd (hr.2 _ (List.getElem_mem _)).1, ?_⟩
      exact qr _ _ rfl
    · rw [decide_eq_false e1] at qr qn
      exact sec_inner hr hi m (k + 1) _ (by omega) qr qn
abbrev sec_out : DTS := (dFor (dRng2 (dCons (dOp φAdd (dVar 4) (dC (.int 1))) (dCons (dCB φLen (dCons (dVar 2) dNil)) dNil))) (dName 6) sec_in)
theorem sec_outer {d : PyData} {ns : List Int} {RS : List (List Int)} (hr : Laps ns RS) {Δ : DEnds} {c : Nat} {x3 : SV} : ∀ (m i : Nat) (y4 y5 y6 : SV), i + m = RS.length →
    (∀ x y y4 y5 y6, secondF ns ((hds RS).drop i) = some (x, y) → Δ.rt (.sh (.tuple [.str "rings", .int x, .int y])) ⟨[.sh d, .sh (.list (dT RS)), .sh (.list (endsD ns (hds RS))), x3, y4, y5, y6], c⟩) →
    (secondF ns ((hds RS).drop i) = none → ∀ y4 y5 y6, Δ.nx ⟨[.sh d, .sh (.list (dT RS)), .sh (.list (endsD ns (hds RS))), x3, y4, y5, y6], c⟩) →
    forD (dGTup 2 (dGCons (dName 4) (dGCons (dName 5) dGNil))) sec_out Δ ((((hds RS).drop i).zipIdx i).map fun p : Int × Nat => .tuple [.int (p.2 : Nat), .tuple (dI (ringF ns p.1))]) ⟨[.sh d, .sh (.list (dT RS)), .sh (.list (endsD ns (hds RS))), x3, y4, y5, y6], c⟩
  | 0, i, y4, y5, y6, hi, qr, qn => by
    rw [List.drop_eq_nil_of_le (by rw [List.length_map]; omega)] at qn ⊢
    exact qn rfl _ _ _
  | m + 1, i, y4, y5, y6, hi, qr, qn => by
    have hil : i < RS.length := by omega
    have hih : i < (hds RS).length := by rw [List.length_map]; exact hil
    have eh : (hds RS)[i] = (RS[i]).headD 0 := List.getElem_map ..
    have ed : (hds RS).drop i = (RS[i]).headD 0 :: (hds RS).drop (i + 1) := by rw [← List.getElem_cons_drop (h := hih), eh]
    rw [ed] at qr qn ⊢
    unfold secondF at qr qn
    rw [List.zipIdx_cons, List.map_cons]
    refine for_cons ?_
    have := hr.1
    rfl'
    refine ⟨rfl, ?_⟩
    unfold sec_out
    rfl'
    have el : (endsD ns (hds RS)).length = RS.length := by unfold endsD; rw [List.length_map, List.length_map]
    rw [el]
    refine ⟨⟨by omega, by omega, by omega, by omega⟩, rfl, ?_⟩
    have e2 : ((RS.length : Int) - ((i : Int) + 1)).toNat = m := by omega
    rw [e2, show (i : Int) + 1 = ((i + 1 : Nat) : Int) by omega]
    refine sec_inner hr hil m (i + 1) _ (by omega) (fun g y hg => ?_) fun hn y => ?_
    · rw [hg] at qr
      exact qr _ _ _ _ _ rfl
    · rw [hn] at qr qn
      exact sec_outer hr m (i + 1) _ _ _ (by omega) qr qn
theorem m_second_ring : ∀ args c Q, p_second_ring args c Q → defF k_second_ring b_second_ring args c Q := by
  rintro _ c Q ⟨d, ns, RS, rfl, h1, h2, h3, q⟩
  show b_second_ring _ ⟨[.sh d, .sh (.list (dT RS)), .un, .un, .un, .un, .un], c⟩
  unfold b_second_ring
  refine sqa_ fun D hD => ?_
  rfl'
  refine lc_all (fun r => .tuple (dI r)) (fun r : List Int => .tuple (dI (ringF ns (r.headD 0)))) RS [] (fun r hr K hK => ?_) (by have := h3.1; show 0 + _ ≤ _; omega) ?_
  · obtain ⟨g1, g2⟩ := h3.2 r hr
    rfl'
    refine ⟨_, atI_hd g1, ?_⟩
    exact c_ring h1 h2 g2 (hK _ _ rfl rfl)
  have e0 : RS.map (fun r : List Int => PyData.tuple (dI (ringF ns (r.headD 0)))) = endsD ns (hds RS) := by
    unfold endsD
    rw [List.map_map]; rfl
  rw [List.nil_append, e0]
  rfl'
  refine hD _ ?_
  refine sqa_ fun D hD => ?_
  rfl'
  refine ⟨rfl, ?_⟩
  have e1 : enD (endsD ns (hds RS)) = (((hds RS).drop 0).zipIdx 0).map fun p : Int × Nat => .tuple [.int (p.2 : Nat), .tuple (dI (ringF ns p.1))] := by
    unfold enD endsD
    rw [List.mapIdx_eq_zipIdx_map, List.zipIdx_map, List.map_map, List.drop_zero]; rfl
  rw [e1]
  unfold secD at q
  refine sec_outer h3 RS.length 0 _ _ _ (by omega) (fun x y y4 y5 y6 hx => ?_) fun hn y4 y5 y6 => hD _ ?_
  · rw [List.drop_zero] at hx
    rw [hx] at q
    exact q
  · rw [List.drop_zero] at hn
    rw [hn] at q
    rfl'
    exact q
/-- meets_first: ring, start, early, late, order -/
def b_meets_first : DTS := (dSeq (dSetG false 4 (dCall p_turned (dCons (dVar 0) (dCons (dVar 1) dNil))))
  (dRet (dOp (φB fun i j => decide (i < j)) (dIndex (dVar 4) (dVar 2)) (dIndex (dVar 4) (dVar 3)))))
abbrev k_meets_first : Nat := 1
def p_meets_first : DSp := fun args c Q => ∃ (ms : List Int) (z a b : Int), args = [.sh (.tuple (dI ms)), .sh (.int z), .sh (.int a), .sh (.int b)] ∧ z ∈ ms ∧ a ∈ ms ∧ b ∈ ms ∧ ms.length ≤ 1000000 ∧ Q (.sh (.bool (decide ((turnTo ms z).idxOf a < (turnTo ms z).idxOf b)))) c
theorem mon_meets_first : MonF p_meets_first := fun args c A B h ⟨ms, z, a, b, ea, h1, h2, h3, h4, q⟩ => ⟨ms, z, a, b, ea, h1, h2, h3, h4, h _ _ q⟩
theorem mem_turnTo {ms : List Int} {z x : Int} : x ∈ turnTo ms z ↔ x ∈ ms := by
  unfold turnTo
  rw [List.mem_append, Or.comm, ← List.mem_append, List.take_append_drop]
theorem m_meets_first : ∀ args c Q, p_meets_first args c Q → defF k_meets_first b_meets_first args c Q := by
  rintro _ c Q ⟨ms, z, a, b, rfl, h1, h2, h3, h4, q⟩
  show b_meets_first _ ⟨[.sh (.tuple (dI ms)), .sh (.int z), .sh (.int a), .sh (.int b), .un], c⟩
  unfold b_meets_first
  refine sq_ ?_
  rfl'
  refine ⟨false, ms, z, rfl, h1, h4, ?_⟩
  dsimp only [rq]
  rfl'
  rw [intsD_dI]
  refine ⟨mem_turnTo.mpr h2, ?_⟩
  refine ⟨mem_turnTo.mpr h3, ?_⟩
  have e : decide ((((turnTo ms z).idxOf a : Nat) : Int) < (((turnTo ms z).idxOf b : Nat) : Int)) = decide ((turnTo ms z).idxOf a < (turnTo ms z).idxOf b) := by
    by_cases q : (turnTo ms z).idxOf a < (turnTo ms z).idxOf b
    · rw [decide_eq_true q, decide_eq_true (by omega)]
    · rw [decide_eq_false q, decide_eq_false (by omega)]
  rw [e]
  exact q
end Lp

namespace Lp
open PySem PySem.Spec PyProof.Rows L2
local macro_rules | `(tactic| rfl') => `(tactic| try dsimp only [dVar_, gv_sh, gv_ow, gv_bx, gv_raw, gv_exn, gv_st, dC, dRaw, dOp, dUn, dTest, dTruth, dAnd, dOr, dNot, dYes, dIf, dAndV, dOrV, dNotV, dNotT, dChain, dNil, dCons, dTup, dLst, dats, dCB, dNoP, dPart, dSl, dNext, dBreak, dCont, dNever, dDrop, dRet, dRetN, dIfS, dSetG, dPar, dPar3, dAppend, dAppPop, dSetIx, dExt, dAug, dSet0, dSAdd, dSNotIn, dIter_, gi_l, gi_t, gi_b, dRng1, dRng2, dName, dGNil, dGCons, dGTup, dAsg, dFor, dWhile, dCall, dCallR, dArgs_, ga_f, ga_t, argsOf, dLc, wipeE, dListRg, dIndex, dSortSet, dSortSc, dEnum, dEnA, dZip, dIsi, dIsi2, isaT, φI, φB, φC, φNeg, add_i, add_l, add_t, mul_i, mul_l, φIx, sl_l, sl_t, eq_i, eq_s, eq_l, eq_t, eq_b, eq_n, φIsN, isN_n, isN_b, isN_i, isN_s, isN_l, isN_t, φLen, φList, φTuple, φAbs, φInt, φMax, φIsB, φIsNB, its_l, its_t, rd_sh, rd_nw, rd_br, rp_sh, rp_nw, rp_br, rp_bx, rp_raw, rp_sr, rr_sh, rr_nw, rr_br, ra_sh, ra_br, ra_bx, ra_raw, va_sh, va_nt, va_nf, va_raw, hb_n, hb_sh, hb_bx, hb_raw, hb_br, sh_n, sh_c, tr_n, tr_b, tr_i, tr_l, tr_t, ty_n, ty_b, ty_i, ty_s, ty_l, ty_t, if_ff, if_tt, Env.set, List.getElem?_cons_succ, List.getElem?_cons_zero, List.set_cons_succ, List.set_cons_zero, List.reverse_cons, List.reverse_nil, List.nil_append, List.cons_append, Option.bind_some, ite_true, ite_false])
/-- order_broken: members, ring, early, late -/
def b_order_broken : DTS := (dSeq (dFor (dZip (dCons (dSl φSl (dVar 0) (dPart (dC (.int 1))) dNoP) (dCons (dSl φSl (dVar 0) (dPart (dC (.int 2))) dNoP) dNil))) (dGTup 2 (dGCons (dName 2) (dGCons (dName 3) dGNil))) (dIfS (dTruth (dCall p_meets_first (dCons (dVar 1) (dCons (dOp φIx (dVar 0) (dC (.int 0))) (dCons (dVar 3) (dCons (dVar 2) dNil)))))) (dRet (dTup (dCons (dC (.str "order")) (dCons (dOp φIx (dVar 0) (dC (.int 0))) (dCons (dVar 2) (dCons (dVar 3) dNil)))))) dNext))
  (dRet (dC .none)))
abbrev k_order_broken : Nat := 2
def brkD (own lap : List Int) : PyData := match brokenL own lap.tail with
  | some (e, l) => .tuple [.str "order", .int (lap.headD 0), .int e, .int l]
  | none => .none
def p_order_broken : DSp := fun args c Q => ∃ (b : Bool) (lap rg : List Int), args = [.sh (sq b lap), .sh (.tuple (dI rg))] ∧ (∀ z ∈ lap, z ∈ rg) ∧ rg.length ≤ 1000000 ∧ Q (.sh (brkD (turnTo rg (lap.headD 0)) lap)) c
theorem mon_order_broken : MonF p_order_broken := fun args c A B h ⟨b, lap, rg, ea, h2, h3, q⟩ => ⟨b, lap, rg, ea, h2, h3, h _ _ q⟩
abbrev brk_body : DTS := (dIfS (dTruth (dCall p_meets_first (dCons (dVar 1) (dCons (dOp φIx (dVar 0) (dC (.int 0))) (dCons (dVar 3) (dCons (dVar 2) dNil)))))) (dRet (dTup (dCons (dC (.str "order")) (dCons (dOp φIx (dVar 0) (dC (.int 0))) (dCons (dVar 2) (dCons (dVar 3) dNil)))))) dNext)
theorem brk_loop {b : Bool} {lap rg : List Int} (hne : lap ≠ []) (hm : lap.headD 0 ∈ rg) (hl : rg.length ≤ 1000000) {Δ : DEnds} {c : Nat} : ∀ (ls : List Int) (y z : SV), (∀ z ∈ ls, z ∈ rg) →
    (∀ e l y z, brokenL (turnTo rg (lap.headD 0)) ls = some (e, l) → Δ.rt (.sh (.tuple [.str "order", .int (lap.headD 0), .int e, .int l])) ⟨[.sh (sq b lap), .sh (.tuple (dI rg)), y, z], c⟩) →
    (brokenL (turnTo rg (lap.headD 0)) ls = none → ∀ y z, Δ.nx ⟨[.sh (sq b lap), .sh (.tuple (dI rg)), y, z], c⟩) →
    forD (dGTup 2 (dGCons (dName 2) (dGCons (dName 3) dGNil))) brk_body Δ (zipDs (dI ls) (dI ls.tail)) ⟨[.sh (sq b lap), .sh (.tuple (dI rg)), y, z], c⟩
  | [], y, z, _, _, qn => qn rfl y z
  | [_], y, z, _, _, qn => qn rfl y z
  | e :: l :: r, y, z, hz, qr, qn => by
    unfold brokenL at qr qn
    show forD _ _ _ (.tuple [.int e, .int l] :: zipDs (dI (l :: r)) (dI (l :: r).tail)) _
    refine for_cons ?_
    unfold brk_body
    have rest := fun (y z : SV) qr qn => brk_loop (b := b) hne hm hl (Δ := Δ) (c := c) (l :: r) y z (fun z h => hz z (List.mem_cons_of_mem _ h)) qr qn
    unfold brk_body at rest
    cases b
    all_goals
      dsimp only [sq] at qr qn rest ⊢
      rfl'
      refine ⟨rfl, ?_⟩
      refine ⟨_, atI_hd hne, ?_⟩
      refine ⟨rg, _, l, e, rfl, hm, hz l (List.mem_cons_of_mem _ List.mem_cons_self), hz e List.mem_cons_self, hl, ?_⟩
      rfl'
      refine it_2 (fun h => ?_) fun h => ?_
      · rw [if_pos h] at qr
        refine ⟨_, atI_hd hne, ?_⟩
        exact qr _ _ _ _ rfl
      · rw [if_neg h] at qr qn
        exact rest _ _ qr qn
theorem m_order_broken : ∀ args c Q, p_order_broken args c Q → defF k_order_broken b_order_broken args c Q := by
  rintro _ c Q ⟨b, lap, rg, rfl, h2, h3, q⟩
  show b_order_broken _ ⟨[.sh (sq b lap), .sh (.tuple (dI rg)), .un, .un], c⟩
  unfold b_order_broken
  have e1 : lap.drop (1 : Int).toNat = lap.tail := by rw [show (1 : Int).toNat = 1 from rfl, List.drop_one]
  have e2 : lap.drop (2 : Int).toNat = lap.tail.tail := by rw [show (2 : Int).toNat = 1 + 1 from rfl, ← List.drop_drop, List.drop_one, List.drop_one]
  refine sqa_ fun D hD => ?_
  have loop : forD (dGTup 2 (dGCons (dName 2) (dGCons (dName 3) dGNil))) brk_body { nx := D, rt := fun r ε => Q r ε.c } (zipDs (dI lap.tail) (dI lap.tail.tail)) ⟨[.sh (sq b lap), .sh (.tuple (dI rg)), .un, .un], c⟩ := by
    by_cases h1 : lap = []
    · subst h1
      refine for_nil (hD _ ?_)
      rfl'
      exact q
    have hm : lap.headD 0 ∈ rg := by
      cases lap with
      | nil => exact absurd rfl h1
      | cons x r => exact h2 x List.mem_cons_self
    unfold brkD at q
    refine brk_loop h1 hm h3 lap.tail _ _ (fun z hz => h2 z (List.mem_of_mem_tail hz)) (fun e l y z he => ?_) fun hn y z => hD _ ?_
    · rw [he] at q
      exact q
    · rw [hn] at q
      rfl'
      exact q
  unfold brk_body at loop
  cases b
  all_goals
    dsimp only [sq] at loop ⊢
    rfl'
    refine ⟨rfl, ?_⟩
    rw [cutD_from _ _ (by decide), cutD_from _ _ (by decide), dI_drop, dI_drop, e1, e2]
    exact loop
theorem closed_laps {ns gs : List Int} (sg : Stt gs) (hl : gs.length = ns.length) : Laps ns (closedF gs) := by
  refine ⟨?_, fun r hr => ?_⟩
  · unfold closedF
    rw [List.length_map]
    have h1 := List.length_filter_le (closesB gs) (List.range gs.length)
    rw [List.length_range] at h1
    have := sg.le
    omega
  · obtain ⟨x, c, hx, cy, el, eh, _⟩ := closed_mem sg hr
    refine ⟨by rw [el]; exact itrs_ne cy.1, ?_⟩
    rw [eh]
    exact ⟨hx.1, by rw [← hl]; exact hx.2⟩
/-- what the order of a closed ring is measured by -/
theorem broken_same {own own' : List Int} : ∀ ls : List Int, (∀ e ∈ ls, own'.idxOf e = own.idxOf e + 1) → brokenL own' ls = brokenL own ls
  | [], _ => rfl
  | [_], _ => rfl
  | e :: l :: r, h => by
    unfold brokenL
    rw [h e List.mem_cons_self, h l (List.mem_cons_of_mem _ List.mem_cons_self), broken_same (l :: r) fun z hz => h z (List.mem_cons_of_mem _ hz)]
    by_cases q : own.idxOf l < own.idxOf e
    · rw [if_pos q, if_pos (by omega)]
    · rw [if_neg q, if_neg (by omega)]
/-- a closed ring of a goal on the ways -/
theorem lap_facts {ns gs : List Int} (h : Stt ns) (sg : Stt gs) (hl : gs.length = ns.length) (hw : OnWays ns gs) {lap : List Int} (hm : lap ∈ closedF gs) :
    Per ns (lap.headD 0) ∧ lap ≠ [] ∧ (∀ z ∈ lap, z ∈ ringF ns (lap.headD 0)) ∧ (∀ z ∈ lap, z ∈ routeF ns (gt ns (lap.headD 0))) ∧ brokenL (turnTo (ringF ns (lap.headD 0)) (lap.headD 0)) lap.tail = brokenF ns lap := by
  obtain ⟨x, c, hx, cy, el, eh, _⟩ := closed_mem sg hm
  have px : Per ns x := ⟨hx.1, by rw [← hl]; exact hx.2⟩
  obtain ⟨⟨d, cn⟩, hin⟩ := ways_on h hw px cy
  have on := (on_iff h px).mpr ⟨d, cn⟩
  rw [eh]
  have mem : ∀ z ∈ lap, z ∈ ringF ns x := fun z hz => hin z (by rw [← el]; exact hz)
  refine ⟨px, by rw [el]; exact itrs_ne cy.1, mem, fun z hz => ring_way h px on (mem z hz), ?_⟩
  unfold brokenF
  rw [eh]
  refine broken_same _ fun e he => idx_own h px cn (mem e (List.mem_of_mem_tail he)) fun z => ?_
  have nd : lap.Nodup := by rw [el]; exact cy.2.2
  cases hlap : lap with
  | nil => rw [hlap] at he; cases he
  | cons a r =>
    rw [hlap] at he nd eh
    have ha : a = x := eh
    exact (List.nodup_cons.mp nd).1 (by rw [ha, ← z]; exact he)
/-- first_obstacle: state, pointers, missed, closed, second, ring, broken -/
def b_first_obstacle : DTS := (dSeq (dSetG false 2 (dCall p_missed_way (dCons (dVar 0) (dCons (dVar 1) dNil))))
  (dSeq (dIfS (dTest (dOp (φIsN true) (dVar 2) (dC .none))) (dRet (dVar 2)) dNext)
  (dSeq (dSetG false 3 (dCall p_closed_rings (dCons (dVar 1) dNil)))
  (dSeq (dSetG false 4 (dCall p_second_ring (dCons (dVar 0) (dCons (dVar 3) dNil))))
  (dSeq (dIfS (dTest (dOp (φIsN true) (dVar 4) (dC .none))) (dRet (dVar 4)) dNext)
  (dSeq (dFor (dIter (dVar 3)) (dName 5) (dSeq (dSetG false 6 (dCall p_order_broken (dCons (dVar 5) (dCons (dCall p_ring_of (dCons (dVar 0) (dCons (dOp φIx (dVar 5) (dC (.int 0))) dNil))) dNil))))
  (dIfS (dTest (dOp (φIsN true) (dVar 6) (dC .none))) (dRet (dVar 6)) dNext)))
  (dRet (dC .none))))))))
abbrev k_first_obstacle : Nat := 5
def p_first_obstacle : DSp := fun args c Q => ∃ (d e : PyData) (ns gs : List Int), args = [.sh d, .sh e] ∧ PyData.its d = some (dI ns) ∧ PyData.its e = some (dI gs) ∧ Stt ns ∧ Stt gs ∧ gs.length = ns.length ∧ Q (.sh (obsF ns gs)) c
theorem mon_first_obstacle : MonF p_first_obstacle := fun args c A B h ⟨d, e, ns, gs, ea, h1, h2, h3, h4, h5, q⟩ => ⟨d, e, ns, gs, ea, h1, h2, h3, h4, h5, h _ _ q⟩
abbrev fo_body : DTS := (dSeq (dSetG false 6 (dCall p_order_broken (dCons (dVar 5) (dCons (dCall p_ring_of (dCons (dVar 0) (dCons (dOp φIx (dVar 5) (dC (.int 0))) dNil))) dNil))))
  (dIfS (dTest (dOp (φIsN true) (dVar 6) (dC .none))) (dRet (dVar 6)) dNext))
theorem ring_len {ns : List Int} (h : Stt ns) {x : Int} (hx : Per ns x) : (ringF ns x).length ≤ ns.length := by
  obtain ⟨c, er, cy, h0, h1⟩ := headF_form h.lo hx.1 hx.2
  rw [er]
  refine low_len ns.length _ cy.2.2 fun z hz => ?_
  obtain ⟨i, _, rfl⟩ := itrs_mem.mp hz
  exact itr_low h.lo h0 h1 i
theorem fo_loop {d : PyData} {ns gs : List Int} (hd : PyData.its d = some (dI ns)) (h : Stt ns) (sg : Stt gs) (hl : gs.length = ns.length) (hw : OnWays ns gs) {x1 x2 x3 x4 : SV} {Δ : DEnds} {c : Nat} : ∀ (LS : List (List Int)) (y z : SV), (∀ l ∈ LS, l ∈ closedF gs) →
    (∀ y z, orderF ns LS ≠ .none → Δ.rt (.sh (orderF ns LS)) ⟨[.sh d, x1, x2, x3, x4, y, z], c⟩) → (orderF ns LS = .none → ∀ y z, Δ.nx ⟨[.sh d, x1, x2, x3, x4, y, z], c⟩) →
    forD (dName 5) fo_body Δ (dT LS) ⟨[.sh d, x1, x2, x3, x4, y, z], c⟩
  | [], y, z, _, _, qn => qn rfl y z
  | lap :: LS, y, z, hm, qr, qn => by
    obtain ⟨f1, f2, f3, f4, f5⟩ := lap_facts h sg hl hw (hm lap List.mem_cons_self)
    unfold orderF at qr qn
    show forD _ _ _ (.tuple (dI lap) :: dT LS) _
    refine for_cons ?_
    unfold fo_body
    rfl'
    refine sq_ ?_
    rfl'
    refine ⟨_, atI_hd f2, ?_⟩
    refine c_ring hd h f1 ?_
    rfl'
    refine ⟨false, lap, _, rfl, f3, by have := ring_len h f1; have := h.le; omega, ?_⟩
    unfold brkD
    rw [f5]
    cases hb : brokenF ns lap with
    | none =>
      rw [hb] at qr qn
      rfl'
      refine if_f rfl ?_
      exact fo_loop hd h sg hl hw LS _ _ (fun l hl => hm l (List.mem_cons_of_mem _ hl)) qr qn
    | some p =>
      obtain ⟨e, l⟩ := p
      rw [hb] at qr
      rfl'
      refine if_t rfl ?_
      exact qr _ _ (fun z => nomatch z)
theorem m_first_obstacle : ∀ args c Q, p_first_obstacle args c Q → defF k_first_obstacle b_first_obstacle args c Q := by
  rintro _ c Q ⟨d, e, ns, gs, rfl, h1, h2, h3, h4, h5, q⟩
  show b_first_obstacle _ ⟨[.sh d, .sh e, .un, .un, .un, .un, .un], c⟩
  unfold b_first_obstacle
  refine sq_ ?_
  rfl'
  refine c_missed h1 h2 h3 h5 ?_
  unfold missD
  unfold obsF at q
  cases hm : missL ns gs 0 with
  | some x =>
    rw [hm] at q
    rfl'
    refine sq_ ?_
    rfl'
    exact if_t rfl q
  | none =>
    rw [hm] at q
    have hw := (miss_ways h5).mp hm
    rfl'
    refine sq_ ?_
    rfl'
    refine if_f rfl ?_
    refine sq_ ?_
    rfl'
    refine ⟨e, gs, rfl, h2, h4, ?_⟩
    rfl'
    refine sq_ ?_
    rfl'
    refine ⟨d, ns, closedF gs, rfl, h1, h3, closed_laps h4 h5, ?_⟩
    unfold secD
    cases hs : secondF ns (hds (closedF gs)) with
    | some p =>
      obtain ⟨x, y⟩ := p
      have q2 : Q (.sh (match secondF ns (hds (closedF gs)) with | some (x, y) => PyData.tuple [.str "rings", .int x, .int y] | none => orderF ns (closedF gs))) c := q
      rw [hs] at q2
      rfl'
      refine sq_ ?_
      rfl'
      exact if_t rfl q2
    | none =>
      have q2 : Q (.sh (match secondF ns (hds (closedF gs)) with | some (x, y) => PyData.tuple [.str "rings", .int x, .int y] | none => orderF ns (closedF gs))) c := q
      rw [hs] at q2
      rfl'
      refine sq_ ?_
      rfl'
      refine if_f rfl ?_
      refine sqa_ fun D hD => ?_
      rfl'
      refine ⟨rfl, fo_loop h1 h3 h4 h5 hw (closedF gs) _ _ (fun l hl => hl) (fun y z hn => q2) fun hn y z => hD _ ?_⟩
      rfl'
      have q3 : Q (.sh (orderF ns (closedF gs))) c := q2
      rw [hn] at q3
      exact q3
/-- obstacle: state, goal -/
def b_obstacle : DTS := (dSeq (dDrop (dCall p_check_size (dCons (dVar 0) (dCons (dVar 1) dNil))))
  (dRet (dCall p_first_obstacle (dCons (dVar 0) (dCons (dVar 1) dNil)))))
abbrev k_obstacle : Nat := 0
def p_obstacle : DSp := p_first_obstacle
theorem mon_obstacle : MonF p_obstacle := mon_first_obstacle
theorem c_first {d e : PyData} {ns gs : List Int} {c : Nat} {Q : R → Nat → Prop} (h1 : PyData.its d = some (dI ns)) (h2 : PyData.its e = some (dI gs)) (h3 : Stt ns) (h4 : Stt gs) (hl : gs.length = ns.length) (q : Q (.sh (obsF ns gs)) c) : p_first_obstacle [.sh d, .sh e] c Q := ⟨d, e, ns, gs, rfl, h1, h2, h3, h4, hl, q⟩
theorem m_obstacle : ∀ args c Q, p_obstacle args c Q → defF k_obstacle b_obstacle args c Q := by
  rintro _ c Q ⟨d, e, ns, gs, rfl, h1, h2, h3, h4, h5, q⟩
  show b_obstacle _ ⟨[.sh d, .sh e], c⟩
  unfold b_obstacle
  refine sq_ ?_
  rfl'
  refine c_size h1 h2 h5 ?_
  rfl'
  exact c_first h1 h2 h3 h4 h5 q
/-- leads: state, goal -/
def b_leads : DTS := (dRet (dOp (φIsN false) (dCall p_obstacle (dCons (dVar 0) (dCons (dVar 1) dNil))) (dC .none)))
abbrev k_leads : Nat := 0
def p_leads : DSp := fun args c Q => ∃ (d e : PyData) (ns gs : List Int), args = [.sh d, .sh e] ∧ PyData.its d = some (dI ns) ∧ PyData.its e = some (dI gs) ∧ Stt ns ∧ Stt gs ∧ gs.length = ns.length ∧ Q (.sh (.bool (isN (obsF ns gs)))) c
theorem mon_leads : MonF p_leads := fun args c A B h ⟨d, e, ns, gs, ea, h1, h2, h3, h4, h5, q⟩ => ⟨d, e, ns, gs, ea, h1, h2, h3, h4, h5, h _ _ q⟩
theorem m_leads : ∀ args c Q, p_leads args c Q → defF k_leads b_leads args c Q := by
  rintro _ c Q ⟨d, e, ns, gs, rfl, h1, h2, h3, h4, h5, q⟩
  show b_leads _ ⟨[.sh d, .sh e], c⟩
  unfold b_leads
  rfl'
  refine c_first h1 h2 h3 h4 h5 ?_
  rfl'
  exact q
end Lp

namespace Lp
open PySem PySem.Spec PyProof.Rows L2
local macro_rules | `(tactic| rfl') => `(tactic| try dsimp only [dVar_, gv_sh, gv_ow, gv_bx, gv_raw, gv_st, dC, dRaw, dOp, dUn, dTest, dTruth, dAnd, dOr, dNot, dYes, dIf, dAndV, dOrV, dNotV, dNotT, dChain, dNil, dCons, dTup, dLst, dats, dCB, dNoP, dPart, dSl, dNext, dBreak, dCont, dNever, dDrop, dRet, dRetN, dIfS, dSetG, dPar, dPar3, dAppend, dAppPop, dSetIx, dExt, dAug, dSet0, dSAdd, dSNotIn, dIter_, gi_l, gi_t, gi_b, dRng1, dRng2, dName, dGNil, dGCons, dGTup, dAsg, dFor, dWhile, dCall, dCallR, dArgs_, ga_f, ga_t, argsOf, dLc, wipeE, dListRg, dIndex, dSortSet, dSortSc, dEnum, dEnA, dZip, dIsi, dIsi2, isaT, φI, φB, φC, φNeg, add_i, add_l, add_t, mul_i, mul_l, φIx, sl_l, sl_t, eq_i, eq_s, eq_l, eq_t, eq_b, eq_n, φIsN, isN_n, isN_b, isN_i, isN_s, isN_l, isN_t, φLen, φList, φTuple, φAbs, φInt, φMax, φIsB, φIsNB, its_l, its_t, rd_sh, rd_nw, rd_br, rp_sh, rp_nw, rp_br, rp_bx, rp_raw, rp_sr, rr_sh, rr_nw, rr_br, ra_sh, ra_br, ra_bx, ra_raw, va_sh, va_nt, va_nf, va_raw, hb_n, hb_sh, hb_bx, hb_raw, hb_br, sh_n, sh_c, tr_n, tr_b, tr_i, tr_l, tr_t, ty_n, ty_b, ty_i, ty_s, ty_l, ty_t, if_ff, if_tt, Env.set, List.getElem?_cons_succ, List.getElem?_cons_zero, List.set_cons_succ, List.set_cons_zero, List.reverse_cons, List.reverse_nil, List.nil_append, List.cons_append, Option.bind_some, ite_true, ite_false])
end Lp

namespace Lp
open PySem PySem.Spec PyProof.Rows L2
local macro_rules | `(tactic| rfl') => `(tactic| try dsimp only [dVar_, gv_sh, gv_ow, gv_bx, gv_raw, gv_st, dC, dRaw, dOp, dUn, dTest, dTruth, dAnd, dOr, dNot, dYes, dIf, dAndV, dOrV, dNotV, dNotT, dChain, dNil, dCons, dTup, dLst, dats, dCB, dNoP, dPart, dSl, dNext, dBreak, dCont, dNever, dDrop, dRet, dRetN, dIfS, dSetG, dPar, dPar3, dAppend, dAppPop, dSetIx, dExt, dAug, dSet0, dSAdd, dSNotIn, dIter_, gi_l, gi_t, gi_b, dRng1, dRng2, dName, dGNil, dGCons, dGTup, dAsg, dFor, dWhile, dCall, dCallR, dArgs_, ga_f, ga_t, argsOf, dLc, wipeE, dListRg, dIndex, dSortSet, dSortSc, dEnum, dEnA, dZip, dIsi, dIsi2, isaT, φI, φB, φC, φNeg, add_i, add_l, add_t, mul_i, mul_l, φIx, sl_l, sl_t, eq_i, eq_s, eq_l, eq_t, eq_b, eq_n, φIsN, isN_n, isN_b, isN_i, isN_s, isN_l, isN_t, φLen, φList, φTuple, φAbs, φInt, φMax, φIsB, φIsNB, its_l, its_t, rd_sh, rd_nw, rd_br, rp_sh, rp_nw, rp_br, rp_bx, rp_raw, rp_sr, rr_sh, rr_nw, rr_br, ra_sh, ra_br, ra_bx, ra_raw, va_sh, va_nt, va_nf, va_raw, hb_n, hb_sh, hb_bx, hb_raw, hb_br, sh_n, sh_c, tr_n, tr_b, tr_i, tr_l, tr_t, ty_n, ty_b, ty_i, ty_s, ty_l, ty_t, if_ff, if_tt, Env.set, List.getElem?_cons_succ, List.getElem?_cons_zero, List.set_cons_succ, List.set_cons_zero, List.reverse_cons, List.reverse_nil, List.nil_append, List.cons_append, Option.bind_some, ite_true, ite_false])
/-- _law_shouted: _law_here, _law_shouts, _law_found, _law_who -/
def b_law_shouted : DTS := (dSeq (dSetG true 2 (dCB φList (dCons (dVar 0) dNil)))
  (dSeq (dFor (dIter (dVar 1)) (dName 3) (dSetIx 2 (dOp φIx (dVar 2) (dOp φIx (dVar 2) (dVar 3))) (dVar 3)))
  (dRet (dCB φTuple (dCons (dVar 2) dNil)))))
abbrev k_law_shouted : Nat := 2
def p_law_shouted : DSp := fun args c Q => ∃ (d e : PyData) (ns ws : List Int), args = [.sh d, .sh e] ∧ PyData.its d = some (dI ns) ∧ PyData.its e = some (dI ws) ∧ Stt ns ∧ Low ns.length ws ∧ Q (.sh (.tuple (dI (callAll ns ws)))) c
theorem mon_law_shouted : MonF p_law_shouted := fun args c A B h ⟨d, e, ns, ws, ea, h1, h2, h3, h4, q⟩ => ⟨d, e, ns, ws, ea, h1, h2, h3, h4, h _ _ q⟩
theorem Stt.call {ns : List Int} (h : Stt ns) {w : Int} (hw : Per ns w) : Stt (call1 ns w) := by
  have e := call1_len ns w
  exact ⟨by rw [e]; exact call1_low h.lo rfl hw.1 hw.2, by rw [e]; exact h.le, by rw [e]; exact h.ge⟩
theorem Stt.callAll {ns : List Int} (h : Stt ns) : ∀ {ws : List Int}, Low ns.length ws → Stt (callAll ns ws) := fun {ws} hw => by
  have e := callAll_len ws ns
  exact ⟨by rw [e]; exact callAll_low ws ns h.lo rfl hw, by rw [e]; exact h.le, by rw [e]; exact h.ge⟩
theorem shout_loop {x0 x1 : SV} {Δ : DEnds} {c : Nat} : ∀ (ws ns : List Int) (y : SV), Stt ns → Low ns.length ws → (∀ y, Δ.nx ⟨[x0, x1, .ow (dI (callAll ns ws)), y], c⟩) →
    forD (dName 3) (dSetIx 2 (dOp φIx (dVar 2) (dOp φIx (dVar 2) (dVar 3))) (dVar 3)) Δ (dI ws) ⟨[x0, x1, .ow (dI ns), y], c⟩
  | [], ns, y, _, _, q => q y
  | w :: ws, ns, y, hs, hw, q => by
    have pw : Per ns w := hw w List.mem_cons_self
    show forD _ _ _ (.int w :: dI ws) _
    refine for_cons ?_
    rfl'
    refine ⟨_, atI_dI pw.1 pw.2, ?_⟩
    have pg := hs.gt pw
    refine ⟨_, atI_dI pg.1 pg.2, ?_⟩
    rfl'
    refine ⟨w.toNat, ixN_ok pw.1 (by rw [dI_len]; exact pw.2), ?_⟩
    rw [dI_set]
    refine shout_loop ws (call1 ns w) _ (hs.call pw) (fun z hz => ?_) q
    rw [call1_len]; exact hw z (List.mem_cons_of_mem _ hz)
theorem m_law_shouted : ∀ args c Q, p_law_shouted args c Q → defF k_law_shouted b_law_shouted args c Q := by
  rintro _ c Q ⟨d, e, ns, ws, rfl, h1, h2, h3, h4, q⟩
  show b_law_shouted _ ⟨[.sh d, .sh e, .un, .un], c⟩
  unfold b_law_shouted
  refine sq_ ?_
  rfl'
  rw [h1]
  rfl'
  refine sqa_ fun D hD => ?_
  rcases its_cases h2 with rfl | rfl
  · rfl'
    refine ⟨rfl, shout_loop ws ns _ h3 h4 fun y => hD _ ?_⟩
    rfl'
    exact q
  · rfl'
    refine ⟨rfl, shout_loop ws ns _ h3 h4 fun y => hD _ ?_⟩
    rfl'
    exact q
theorem gt_set {gs : List Int} {w x v : Int} (w0 : 0 ≤ w) (w1 : w < (gs.length : Int)) (x0 : 0 ≤ x) : gt (gs.set w.toNat v) x = if x = w then v else gt gs x := by
  unfold gt
  rw [List.getD_eq_getElem?_getD, List.getD_eq_getElem?_getD, List.getElem?_set]
  by_cases e : x = w
  · subst e
    rw [if_pos rfl, if_pos rfl, if_pos (by omega)]; rfl
  · rw [if_neg (by omega), if_neg e]
section
variable {x0 x1 x2 x3 x4 x5 x6 x7 x8 : SV} {Δ : DEnds}
/-- the others of the lap, one after another -/
structure Tied (n : Nat) (g0 gs T : List Int) (k : Nat) : Prop where
  len : gs.length = n
  lo : Low n gs
  nd : T.Nodup
  per : ∀ z ∈ T, 0 ≤ z ∧ z < (n : Int)
  kl : k ≤ T.length
  k0 : 0 < k
  hook : ∀ i, k ≤ i → i < T.length → ∃ j, j < i ∧ gt gs (T.getD i 0) = T.getD j 0
  same : ∀ x, 0 ≤ x → x ∉ T.drop k → gt gs x = gt g0 x
theorem Tied.snoc {n : Nat} {g0 gs T : List Int} {k : Nat} (h : Tied n g0 gs T k) {w v : Int} (hw : w ∉ T) (w0 : 0 ≤ w) (w1 : w < (n : Int)) (hv : v ∈ T) : Tied n g0 (gs.set w.toNat v) (T ++ [w]) k := by
  have wl : w < (gs.length : Int) := by rw [h.len]; exact w1
  have vp := h.per v hv
  refine ⟨by rw [List.length_set]; exact h.len, h.lo.set vp.1 vp.2, Nodup.snoc h.nd hw, fun z hz => ?_, by rw [List.length_append]; have := h.kl; omega, h.k0, fun i hi ht => ?_, fun x x0 hx => ?_⟩
  · rcases List.mem_append.mp hz with q | q
    · exact h.per z q
    · rw [List.mem_singleton.mp q]; exact ⟨w0, w1⟩
  · rw [List.length_append, List.length_singleton] at ht
    by_cases q : i < T.length
    · obtain ⟨j, hj, e⟩ := h.hook i hi q
      have m1 : T.getD i 0 ∈ T := getD_mem q
      have g1 : (T ++ [w]).getD i 0 = T.getD i 0 := by rw [List.getD_eq_getElem?_getD, List.getD_eq_getElem?_getD, List.getElem?_append_left q]
      have g2 : (T ++ [w]).getD j 0 = T.getD j 0 := by rw [List.getD_eq_getElem?_getD, List.getD_eq_getElem?_getD, List.getElem?_append_left (by omega)]
      refine ⟨j, hj, ?_⟩
      rw [g1, g2, gt_set w0 wl (h.per _ m1).1, if_neg (fun z => hw (by rw [← z]; exact m1)), e]
    · have e : i = T.length := by omega
      obtain ⟨j, hj, ej⟩ := List.mem_iff_getElem.mp hv
      have g1 : (T ++ [w]).getD i 0 = w := by rw [e, List.getD_eq_getElem?_getD, List.getElem?_concat_length]; rfl
      have g2 : (T ++ [w]).getD j 0 = v := by rw [List.getD_eq_getElem?_getD, List.getElem?_append_left hj, List.getElem?_eq_getElem hj, ej]; rfl
      refine ⟨j, by omega, ?_⟩
      rw [g1, g2, gt_set w0 wl w0, if_pos rfl]
  · have hk := h.kl
    rw [List.drop_append_of_le_length hk] at hx
    have hx1 : x ∉ T.drop k := fun z => hx (List.mem_append_left _ z)
    have hx2 : x ≠ w := fun z => hx (List.mem_append_right _ (by rw [z]; exact List.mem_singleton.mpr rfl))
    rw [gt_set w0 wl x0, if_neg hx2, h.same x x0 hx1]
end
end Lp

namespace Lp
open PySem PySem.Spec PyProof.Rows L2
local macro_rules | `(tactic| rfl') => `(tactic| try dsimp only [dVar_, gv_sh, gv_ow, gv_bx, gv_raw, gv_exn, gv_st, dC, dRaw, dOp, dUn, dTest, dTruth, dAnd, dOr, dNot, dYes, dIf, dAndV, dOrV, dNotV, dNotT, dChain, dNil, dCons, dTup, dLst, dats, dCB, dNoP, dPart, dSl, dNext, dBreak, dCont, dNever, dDrop, dRet, dRetN, dIfS, dSetG, dPar, dPar3, dAppend, dAppPop, dSetIx, dExt, dAug, dSet0, dSAdd, dSNotIn, dIter_, gi_l, gi_t, gi_b, dRng1, dRng2, dName, dGNil, dGCons, dGTup, dAsg, dFor, dWhile, dCall, dCallR, dArgs_, ga_f, ga_t, argsOf, dLc, wipeE, dListRg, dIndex, dSortSet, dSortSc, dEnum, dEnA, dZip, dIsi, dIsi2, isaT, φI, φB, φC, φNeg, add_i, add_l, add_t, mul_i, mul_l, φIx, sl_l, sl_t, eq_i, eq_s, eq_l, eq_t, eq_b, eq_n, φIsN, isN_n, isN_b, isN_i, isN_s, isN_l, isN_t, φLen, φList, φTuple, φAbs, φInt, φMax, φIsB, φIsNB, its_l, its_t, rd_sh, rd_nw, rd_br, rp_sh, rp_nw, rp_br, rp_bx, rp_raw, rp_sr, rr_sh, rr_nw, rr_br, ra_sh, ra_br, ra_bx, ra_raw, va_sh, va_nt, va_nf, va_raw, hb_n, hb_sh, hb_bx, hb_raw, hb_br, sh_n, sh_c, tr_n, tr_b, tr_i, tr_l, tr_t, ty_n, ty_b, ty_i, ty_s, ty_l, ty_t, if_ff, if_tt, Env.set, List.getElem?_cons_succ, List.getElem?_cons_zero, List.set_cons_succ, List.set_cons_zero, List.reverse_cons, List.reverse_nil, List.nil_append, List.cons_append, Option.bind_some, ite_true, ite_false])
/-- a list of people under way -/
structure Und (n : Nat) (gs : List Int) : Prop where
  len : gs.length = n
  lo : Low n gs
end Lp

namespace Lp
open PySem PySem.Spec PyProof.Rows L2
local macro_rules | `(tactic| rfl') => `(tactic| try dsimp only [dVar_, gv_sh, gv_ow, gv_bx, gv_raw, gv_st, dC, dRaw, dOp, dUn, dTest, dTruth, dAnd, dOr, dNot, dYes, dIf, dAndV, dOrV, dNotV, dNotT, dChain, dNil, dCons, dTup, dLst, dats, dCB, dNoP, dPart, dSl, dNext, dBreak, dCont, dNever, dDrop, dRet, dRetN, dIfS, dSetG, dPar, dPar3, dAppend, dAppPop, dSetIx, dExt, dAug, dSet0, dSAdd, dSNotIn, dIter_, gi_l, gi_t, gi_b, dRng1, dRng2, dName, dGNil, dGCons, dGTup, dAsg, dFor, dWhile, dCall, dCallR, dArgs_, ga_f, ga_t, argsOf, dLc, wipeE, dListRg, dIndex, dSortSet, dSortSc, dEnum, dEnA, dZip, dIsi, dIsi2, isaT, φI, φB, φC, φNeg, add_i, add_l, add_t, mul_i, mul_l, φIx, sl_l, sl_t, eq_i, eq_s, eq_l, eq_t, eq_b, eq_n, φIsN, isN_n, isN_b, isN_i, isN_s, isN_l, isN_t, φLen, φList, φTuple, φAbs, φInt, φMax, φIsB, φIsNB, its_l, its_t, rd_sh, rd_nw, rd_br, rp_sh, rp_nw, rp_br, rp_bx, rp_raw, rp_sr, rr_sh, rr_nw, rr_br, ra_sh, ra_br, ra_bx, ra_raw, va_sh, va_nt, va_nf, va_raw, hb_n, hb_sh, hb_bx, hb_raw, hb_br, sh_n, sh_c, tr_n, tr_b, tr_i, tr_l, tr_t, ty_n, ty_b, ty_i, ty_s, ty_l, ty_t, if_ff, if_tt, Env.set, List.getElem?_cons_succ, List.getElem?_cons_zero, List.set_cons_succ, List.set_cons_zero, List.reverse_cons, List.reverse_nil, List.nil_append, List.cons_append, Option.bind_some, ite_true, ite_false])
/-- ns leads to gs, as far as the people of S go -/
structure LeadOn (S : Int → Prop) (ns gs : List Int) : Prop where
  ways : ∀ x, S x → ∃ m, 0 < m ∧ gt gs x = itr ns x m
  one : ∀ x y c c', S x → S y → Cyc gs x c → Cyc gs y c' → (∃ s t, itr ns x s = itr ns y t) → y ∈ itrs gs x c
  ord : ∀ x c d, S x → Cyc gs x c → Cyc ns x d → (itrs gs x c).Sublist (itrs ns x d)
abbrev Lead (ns gs : List Int) : Prop := LeadOn (Per ns) ns gs
theorem route_all {ns : List Int} (h : Stt ns) {p : Int} (hp : Per ns p) (t : Nat) : itr ns p t ∈ routeF ns p := by
  obtain ⟨c, cy, _, er⟩ := ringF_cyc h.lo hp.1 hp.2
  rw [er]
  by_cases q : t < heightF ns p
  · exact itrs_mem.mpr ⟨t, by omega, rfl⟩
  · rw [itrs_cat]
    refine List.mem_append_right _ ?_
    have := cy.all (t - heightF ns p)
    rw [← itr_add, show heightF ns p + (t - heightF ns p) = t by omega] at this
    exact this
theorem itr_way {ns : List Int} (h : Stt ns) {x : Int} (hx : Per ns x) {m : Nat} (hm : 0 < m) : itr ns x m ∈ routeF ns (gt ns x) := by
  obtain ⟨k, rfl⟩ : ∃ k, m = k + 1 := ⟨m - 1, by omega⟩
  rw [itr_succ]
  exact route_all h (h.gt hx) k
theorem ways_iff {ns gs : List Int} (h : Stt ns) : OnWays ns gs ↔ ∀ x, Per ns x → ∃ m, 0 < m ∧ gt gs x = itr ns x m := by
  constructor
  · intro hw x hx
    exact way_itr h hx (hw x hx)
  · intro hw x hx
    obtain ⟨m, hm, e⟩ := hw x hx
    rw [e]; exact itr_way h hx hm
theorem second_iff {ns : List Int} : ∀ hs : List Int, secondF ns hs = none → ∀ a ∈ hs, ∀ b ∈ hs, ringF ns a = ringF ns b → a = b
  | [], _, a, ha, _, _, _ => nomatch ha
  | h :: hs, hn, a, ha, b, hb, e => by
    unfold secondF at hn
    cases hf : hs.find? (fun g => decide (ringF ns g = ringF ns h)) with
    | some g => rw [hf] at hn; cases hn
    | none =>
      rw [hf] at hn
      have nf := List.find?_eq_none.mp hf
      have no : ∀ g ∈ hs, ringF ns g ≠ ringF ns h := fun g hg e => nf g hg (decide_eq_true e)
      rcases List.mem_cons.mp ha with ea | ha2
      · rcases List.mem_cons.mp hb with eb | hb2
        · rw [ea, eb]
        · rw [ea] at e
          exact absurd e.symm (no b hb2)
      · rcases List.mem_cons.mp hb with eb | hb2
        · rw [eb] at e
          exact absurd e (no a ha2)
        · exact second_iff hs hn a ha2 b hb2 e
theorem orderF_iff {ns : List Int} : ∀ RS : List (List Int), orderF ns RS = .none → ∀ lap ∈ RS, brokenF ns lap = none
  | [], _, lap, h => nomatch h
  | r :: RS, hn, lap, h => by
    unfold orderF at hn
    cases hb : brokenF ns r with
    | some p => rw [hb] at hn; cases hn
    | none =>
      rw [hb] at hn
      rcases List.mem_cons.mp h with rfl | h
      · exact hb
      · exact orderF_iff RS hn lap h
theorem idx_inj {own : List Int} {a b : Int} (ha : a ∈ own) (hb : b ∈ own) (e : own.idxOf a = own.idxOf b) : a = b := by
  have h1 := idx_get ha
  have h2 := idx_get hb
  rw [e, h2] at h1
  exact (Option.some.inj h1).symm
theorem broken_pw {own : List Int} : ∀ ls : List Int, ls.Nodup → (∀ z ∈ ls, z ∈ own) → brokenL own ls = none → ls.Pairwise (fun a b => own.idxOf a < own.idxOf b)
  | [], _, _, _ => List.Pairwise.nil
  | [x], _, _, _ => List.pairwise_singleton _ _
  | e :: l :: r, nd, hm, hn => by
    unfold brokenL at hn
    by_cases q : own.idxOf l < own.idxOf e
    · rw [if_pos q] at hn; cases hn
    · rw [if_neg q] at hn
      have n2 := List.nodup_cons.mp nd
      have ih := broken_pw (l :: r) n2.2 (fun z hz => hm z (List.mem_cons_of_mem _ hz)) hn
      have lt : own.idxOf e < own.idxOf l := by
        have ne : own.idxOf e ≠ own.idxOf l := fun z => n2.1 (by
          rw [idx_inj (hm e List.mem_cons_self) (hm l (List.mem_cons_of_mem _ List.mem_cons_self)) z]
          exact List.mem_cons_self)
        omega
      refine List.pairwise_cons.mpr ⟨fun z hz => ?_, ih⟩
      rcases List.mem_cons.mp hz with rfl | hz
      · exact lt
      · exact Nat.lt_trans lt ((List.pairwise_cons.mp ih).1 z hz)
theorem pw_sub : ∀ (own ls : List Int), (∀ z ∈ ls, z ∈ own) → ls.Pairwise (fun a b => own.idxOf a < own.idxOf b) → ls.Sublist own
  | own, [], _, _ => List.nil_sublist own
  | [], e :: r, hm, _ => nomatch hm e List.mem_cons_self
  | o :: own, e :: r, hm, pw => by
    have p2 := List.pairwise_cons.mp pw
    have shift : ∀ z, z ≠ o → (o :: own).idxOf z = own.idxOf z + 1 := fun z hz => by
      rw [List.idxOf_cons, beq_eq_false_iff_ne.mpr (Ne.symm hz)]; rfl
    have big : ∀ z ∈ r, z ≠ o := fun z hz e2 => by
      have := p2.1 z hz
      rw [e2, List.idxOf_cons_self] at this
      omega
    have inn : ∀ z ∈ r, z ∈ own := fun z hz => (List.mem_cons.mp (hm z (List.mem_cons_of_mem _ hz))).resolve_left (big z hz)
    have pr : r.Pairwise (fun a b => own.idxOf a < own.idxOf b) := List.Pairwise.imp_of_mem (fun {a b} ha hb hab => by rw [shift a (big a ha), shift b (big b hb)] at hab; omega) p2.2
    by_cases q : e = o
    · subst q
      exact (pw_sub own r inn pr).cons_cons e
    · refine (pw_sub own (e :: r) (fun z hz => ?_) (List.pairwise_cons.mpr ⟨fun z hz => ?_, pr⟩)).cons o
      · rcases List.mem_cons.mp hz with rfl | hz
        · exact (List.mem_cons.mp (hm z List.mem_cons_self)).resolve_left q
        · exact inn z hz
      · have := p2.1 z hz
        rw [shift e q, shift z (big z hz)] at this
        omega
theorem itrs_cons {ns : List Int} {x : Int} {c : Nat} (h : 0 < c) : itrs ns x c = x :: itrs ns (gt ns x) (c - 1) := by
  obtain ⟨M, rfl⟩ : ∃ M, c = M + 1 := ⟨c - 1, by omega⟩
  rw [Nat.add_sub_cancel, Nat.add_comm, itrs_cat]
  rfl
/-- a cycle from another of its members -/
theorem cyc_from {ns : List Int} {x z : Int} {c : Nat} (cy : Cyc ns x c) (hz : z ∈ itrs ns x c) : ∃ i, i < c ∧ (itrs ns x c).getD i 0 = z ∧ itrs ns z c = (itrs ns x c).drop i ++ (itrs ns x c).take i ∧ (itrs ns x c).idxOf z = i := by
  obtain ⟨i, hi, rfl⟩ := itrs_mem.mp hz
  exact ⟨i, hi, by rw [List.getD_eq_getElem?_getD, itrs_get hi]; rfl, cy.turn (Nat.le_of_lt hi), idx_itrs cy.2.2 hi⟩
/-- order from one member is order from each -/
theorem ord_from {ns gs : List Int} {x z : Int} {c d : Nat} (cg : Cyc gs x c) (cn : Cyc ns x d) (hs : (itrs gs x c).Sublist (itrs ns x d)) (hz : z ∈ itrs gs x c) : (itrs gs z c).Sublist (itrs ns z d) := by
  obtain ⟨i, hi, e1, e2, _⟩ := cyc_from cg hz
  obtain ⟨j, hj, f1, f2, f3⟩ := cyc_from cn (hs.subset hz)
  have hil : i < (itrs gs x c).length := by rw [itrs_len]; exact hi
  have hjl : j < (itrs ns x d).length := by rw [itrs_len]; exact hj
  have st := sub_turn cn.2.2 hs i hil
  rw [e1, f3] at st
  rw [e2, f2, ← List.getElem_cons_drop (h := hil), ← List.getElem_cons_drop (h := hjl)]
  have g1 : (itrs gs x c)[i] = z := by rw [← e1, List.getD_eq_getElem?_getD, List.getElem?_eq_getElem hil]; rfl
  have g2 : (itrs ns x d)[j] = z := by rw [← f1, List.getD_eq_getElem?_getD, List.getElem?_eq_getElem hjl]; rfl
  rw [g1, g2]
  exact st.cons_cons z
theorem meet_ring {ns : List Int} (h : Stt ns) {x y : Int} (hx : Per ns x) (hy : Per ns y) : ringF ns x = ringF ns y ↔ ∃ s t, itr ns x s = itr ns y t := meet_iff h.lo hx.1 hx.2 hy.1 hy.2
theorem lead_obs {ns gs : List Int} (h : Stt ns) (sg : Stt gs) (hl : gs.length = ns.length) (hn : obsF ns gs = .none) : Lead ns gs := by
  have gp : ∀ {x : Int}, Per ns x → Per gs x := fun {x} hx => ⟨hx.1, by rw [hl]; exact hx.2⟩
  have pg : ∀ {x : Int}, Per gs x → Per ns x := fun {x} hx => ⟨hx.1, by rw [← hl]; exact hx.2⟩
  unfold obsF at hn
  cases hm : missL ns gs 0 with
  | some x => rw [hm] at hn; cases hn
  | none =>
    rw [hm] at hn
    have hw := (miss_ways hl).mp hm
    have hn2 : (match secondF ns (hds (closedF gs)) with | some (x, y) => PyData.tuple [.str "rings", .int x, .int y] | none => orderF ns (closedF gs)) = .none := hn
    cases hs : secondF ns (hds (closedF gs)) with
    | some p => rw [hs] at hn2; cases hn2
    | none =>
      rw [hs] at hn2
      have sec := second_iff _ hs
      have ordn := orderF_iff _ hn2
      -- the closed ring of somebody on a ring of the goal
      have lap_of : ∀ {x : Int} {c : Nat}, Per ns x → Cyc gs x c → ∃ b, ringF gs x ∈ closedF gs ∧ (ringF gs x).headD 0 = b ∧ Per gs b ∧ Cyc gs b c ∧ ringF gs x = itrs gs b c ∧ b ∈ itrs gs x c ∧ x ∈ itrs gs b c := fun {x c} hx cy => by
        have px := gp hx
        have er := cyc_ring sg px cy
        obtain ⟨c2, e2, cy2, b0, b1⟩ := headF_form sg.lo px.1 px.2
        have bm : headF gs x ∈ itrs gs x c := by
          rw [← mem_turnF, ← er, e2]
          exact itrs_mem.mpr ⟨0, cy2.1, rfl⟩
        have ec := ((cy.at bm).1).uniq cy2
        subst ec
        refine ⟨headF gs x, ((closed_rings sg).2.2 _).mpr ⟨x.toNat, by have := px.1; have := px.2; omega, by rw [show ((x.toNat : Nat) : Int) = x by have := px.1; omega]⟩, rfl, ⟨b0, b1⟩, cy2, e2, bm, ?_⟩
        exact ((cy.at bm).2 x).mpr (itrs_mem.mpr ⟨0, cy.1, rfl⟩)
      refine ⟨(ways_iff h).mp hw, fun x y c c' hx hy cx cy hmt => ?_, fun x c d hx cx dx => ?_⟩
      · obtain ⟨a, a1, a2, a3, a4, a5, a6, a7⟩ := lap_of hx cx
        obtain ⟨b, b1, b2, b3, b4, b5, b6, b7⟩ := lap_of hy cy
        have ra := (ring_per h hx ((ways_on h hw hx cx).2 a a6)).2.1
        have rb := (ring_per h hy ((ways_on h hw hy cy).2 b b6)).2.1
        have e : a = b := sec a (List.mem_map.mpr ⟨_, a1, a2⟩) b (List.mem_map.mpr ⟨_, b1, b2⟩) (by rw [ra, rb]; exact (meet_ring h hx hy).mpr hmt)
        subst e
        have ec := a4.uniq b4
        subst ec
        exact ((cx.at a6).2 y).mp b7
      · obtain ⟨b, b1, b2, b3, b4, b5, b6, b7⟩ := lap_of hx cx
        obtain ⟨f1, f2, f3, f4, f5⟩ := lap_facts h sg hl hw b1
        have br := ordn _ b1
        unfold brokenF at br
        rw [b2] at br f1 f4
        obtain ⟨⟨d2, dn⟩, _⟩ := ways_on h hw f1 b4
        obtain ⟨e1, c2⟩ := own_cyc h f1 dn
        have tl : (ringF gs x).tail = itrs gs (gt gs b) (c - 1) := by rw [b5, itrs_cons b4.1]; rfl
        have ndl := b4.2.2
        rw [itrs_cons b4.1] at ndl
        have nd2 := List.nodup_cons.mp ndl
        have sub : (itrs gs (gt gs b) (c - 1)).Sublist (routeF ns (gt ns b)) := by
          rw [tl] at br
          refine pw_sub _ _ (fun z hz => f4 z ?_) (broken_pw _ nd2.2 (fun z hz => f4 z ?_) br)
          · rw [b5, itrs_cons b4.1]; exact List.mem_cons_of_mem _ hz
          · rw [b5, itrs_cons b4.1]; exact List.mem_cons_of_mem _ hz
        have own2 : routeF ns (gt ns b) = itrs ns (gt ns b) (d2 - 1) ++ [b] := by
          have d0 := dn.1
          rw [e1]
          obtain ⟨M, rfl⟩ : ∃ M, d2 = M + 1 := ⟨d2 - 1, by omega⟩
          rw [Nat.add_sub_cancel, itrs_succ]
          have : itr ns (gt ns b) M = b := by rw [← itr_succ]; exact dn.2.1
          rw [this]
        rw [own2] at sub
        have sub2 : (itrs gs (gt gs b) (c - 1)).Sublist (itrs ns (gt ns b) (d2 - 1)) := by
          obtain ⟨l1, l2, el, s1, s2⟩ := List.sublist_append_iff.mp sub
          have : l2 = [] := by
            cases l2 with
            | nil => rfl
            | cons z r =>
              have hz : z = b := by
                have := s2.subset (List.mem_cons_self)
                simpa using this
              exact absurd (by rw [el, hz]; exact List.mem_append_right _ List.mem_cons_self) nd2.1
          rw [el, this, List.append_nil]
          exact s1
        have full : (itrs gs b c).Sublist (itrs ns b d2) := by
          rw [itrs_cons b4.1, itrs_cons dn.1]
          exact sub2.cons_cons b
        have fx := ord_from b4 dn full b7
        have xin : x ∈ itrs ns b d2 := full.subset b7
        have ed := ((dn.at xin).1).uniq dx
        rw [ed] at fx
        exact fx
theorem obs_lead {ns gs : List Int} (h : Stt ns) (sg : Stt gs) (hl : gs.length = ns.length) (f : Lead ns gs) : obsF ns gs = .none := by
  have pg : ∀ {x : Int}, Per gs x → Per ns x := fun {x} hx => ⟨hx.1, by rw [← hl]; exact hx.2⟩
  have hw := (ways_iff h).mpr f.ways
  unfold obsF
  rw [(miss_ways hl).mpr hw]
  show (match secondF ns (hds (closedF gs)) with | some (x, y) => PyData.tuple [.str "rings", .int x, .int y] | none => orderF ns (closedF gs)) = .none
  rw [second_none _ (closed_heads sg) ?_]
  · show orderF ns (closedF gs) = .none
    refine orderF_none _ fun lap hlap => ?_
    obtain ⟨x, c, hx, cy, el, eh, _⟩ := closed_mem sg hlap
    obtain ⟨⟨d, cn⟩, _⟩ := ways_on h hw (pg hx) cy
    obtain ⟨e1, c2⟩ := own_cyc h (pg hx) cn
    unfold brokenF
    rw [eh]
    refine broken_none (by rw [e1]; exact c2.2.2) _ ?_
    have st := f.ord x c d (pg hx) cy cn
    rw [itrs_cons cy.1, itrs_cons cn.1] at st
    have st2 := List.cons_sublist_cons.mp st
    have et : lap.tail = itrs gs (gt gs x) (c - 1) := by rw [el, itrs_cons cy.1]; rfl
    rw [et, e1]
    refine st2.trans ?_
    obtain ⟨M, rfl⟩ : ∃ M, d = M + 1 := ⟨d - 1, by have := cn.1; omega⟩
    rw [Nat.add_sub_cancel, itrs_succ]
    exact List.sublist_append_left _ _
  · intro a ha b hb e
    obtain ⟨la, hla, rfl⟩ := List.mem_map.mp ha
    obtain ⟨lb, hlb, rfl⟩ := List.mem_map.mp hb
    obtain ⟨x, c, hx, cy, el, eh, er⟩ := closed_mem sg hla
    obtain ⟨y, c', hy, cy', el', eh', er'⟩ := closed_mem sg hlb
    simp only [eh, eh'] at e ⊢
    have yin := f.one x y c c' (pg hx) (pg hy) cy cy' ((meet_ring h (pg hx) (pg hy)).mp e)
    have es : ringF gs x = ringF gs y := by
      rw [cyc_ring sg hx cy, cyc_ring sg hy cy']
      exact cy.same cy' yin (itrs_mem.mpr ⟨0, cy'.1, rfl⟩)
    rw [← eh, ← eh', er, er', es]
theorem lead_iff {ns gs : List Int} (h : Stt ns) (sg : Stt gs) (hl : gs.length = ns.length) : obsF ns gs = .none ↔ Lead ns gs := ⟨lead_obs h sg hl, obs_lead h sg hl⟩
theorem isN_obs {ns gs : List Int} : isN (obsF ns gs) = true ↔ obsF ns gs = .none := by
  constructor
  · intro e
    cases h : obsF ns gs with
    | none => rfl
    | bool b => rw [h] at e; cases e
    | int b => rw [h] at e; cases e
    | str b => rw [h] at e; cases e
    | list b => rw [h] at e; cases e
    | tuple b => rw [h] at e; cases e
    | dict b => rw [h] at e; cases e
  · intro e; rw [e]; rfl
end Lp

namespace Lp
open PySem PySem.Spec PyProof.Rows L2
local macro_rules | `(tactic| rfl') => `(tactic| try dsimp only [dVar_, gv_sh, gv_ow, gv_bx, gv_raw, gv_st, dC, dRaw, dOp, dUn, dTest, dTruth, dAnd, dOr, dNot, dYes, dIf, dAndV, dOrV, dNotV, dNotT, dChain, dNil, dCons, dTup, dLst, dats, dCB, dNoP, dPart, dSl, dNext, dBreak, dCont, dNever, dDrop, dRet, dRetN, dIfS, dSetG, dPar, dPar3, dAppend, dAppPop, dSetIx, dExt, dAug, dSet0, dSAdd, dSNotIn, dIter_, gi_l, gi_t, gi_b, dRng1, dRng2, dName, dGNil, dGCons, dGTup, dAsg, dFor, dWhile, dCall, dCallR, dArgs_, ga_f, ga_t, argsOf, dLc, wipeE, dListRg, dIndex, dSortSet, dSortSc, dEnum, dEnA, dZip, dIsi, dIsi2, isaT, φI, φB, φC, φNeg, add_i, add_l, add_t, mul_i, mul_l, φIx, sl_l, sl_t, eq_i, eq_s, eq_l, eq_t, eq_b, eq_n, φIsN, isN_n, isN_b, isN_i, isN_s, isN_l, isN_t, φLen, φList, φTuple, φAbs, φInt, φMax, φIsB, φIsNB, its_l, its_t, rd_sh, rd_nw, rd_br, rp_sh, rp_nw, rp_br, rp_bx, rp_raw, rp_sr, rr_sh, rr_nw, rr_br, ra_sh, ra_br, ra_bx, ra_raw, va_sh, va_nt, va_nf, va_raw, hb_n, hb_sh, hb_bx, hb_raw, hb_br, sh_n, sh_c, tr_n, tr_b, tr_i, tr_l, tr_t, ty_n, ty_b, ty_i, ty_s, ty_l, ty_t, if_ff, if_tt, Env.set, List.getElem?_cons_succ, List.getElem?_cons_zero, List.set_cons_succ, List.set_cons_zero, List.reverse_cons, List.reverse_nil, List.nil_append, List.cons_append, Option.bind_some, ite_true, ite_false])
def skv (ns : List Int) (w z : Int) : Int := if z = w then gt ns w else z
def skF (ns : List Int) (w : Int) : List Int := ns.map (skv ns w)
abbrev offW (w : Int) (l : List Int) : List Int := l.filter fun z => decide (z ≠ w)
theorem gt_map {ns : List Int} {f : Int → Int} {x : Int} (hx : Per ns x) : gt (ns.map f) x = f (gt ns x) := by
  unfold gt
  have := hx.1; have := hx.2
  rw [List.getD_eq_getElem?_getD, List.getD_eq_getElem?_getD, List.getElem?_map, List.getElem?_eq_getElem (by omega)]; rfl
section
variable {ns : List Int} {w : Int} (h : Stt ns) (hw : Per ns w) (nw : gt ns w ≠ w)
include h hw
include nw
theorem skv_ne (z : Int) : skv ns w z ≠ w := by
  unfold skv
  split
  · exact nw
  · assumption
theorem skv_idem {z : Int} (hz : z ≠ w) : skv ns w z = z := by unfold skv; rw [if_neg hz]
theorem itrs_skip {p : Int} (hp : Per ns p) : ∀ L, ∃ L', offW w (itrs ns p L) = itrs (skF ns w) (skv ns w p) L' ∧ skv ns w (itr ns p L) = itr (skF ns w) (skv ns w p) L' ∧ L' ≤ L
  | 0 => ⟨0, rfl, rfl, Nat.le_refl _⟩
  | L + 1 => by
    obtain ⟨L', e1, e2, e3⟩ := itrs_skip hp L
    have pL : Per ns (itr ns p L) := itr_low h.lo hp.1 hp.2 L
    unfold offW at e1 ⊢
    rw [itrs_succ, List.filter_append]
    by_cases q : itr ns p L = w
    · refine ⟨L', ?_, ?_, by omega⟩
      · rw [List.filter_cons_of_neg (by simp [q]), List.filter_nil, List.append_nil, e1]
      · rw [← e2]
        show skv ns w (gt ns (itr ns p L)) = _
        rw [q, skv_idem h hw nw nw]
        unfold skv
        rw [if_pos rfl]
    · refine ⟨L' + 1, ?_, ?_, by omega⟩
      · rw [List.filter_cons_of_pos (by simp [q]), List.filter_nil, e1, itrs_succ, ← e2, skv_idem h hw nw q]
      · show skv ns w (gt ns (itr ns p L)) = gt (skF ns w) (itr (skF ns w) (skv ns w p) L')
        rw [← e2, skv_idem h hw nw q]
        unfold skF
        rw [gt_map pL]
theorem itr_of_skip {x : Int} (hx : Per ns x) (xw : x ≠ w) : ∀ k, itr (skF ns w) x k ≠ w ∧ ∃ m, k ≤ m ∧ itr (skF ns w) x k = itr ns x m
  | 0 => ⟨xw, 0, Nat.le_refl _, rfl⟩
  | k + 1 => by
    obtain ⟨h1, m, hm, e⟩ := itr_of_skip hx xw k
    have pm : Per ns (itr ns x m) := itr_low h.lo hx.1 hx.2 m
    have e2 : itr (skF ns w) x (k + 1) = skv ns w (gt ns (itr ns x m)) := by
      show gt (skF ns w) (itr (skF ns w) x k) = _
      rw [e]
      unfold skF
      rw [gt_map pm]
    refine ⟨by rw [e2]; exact skv_ne h hw nw _, ?_⟩
    rw [e2]
    unfold skv
    by_cases q : gt ns (itr ns x m) = w
    · rw [if_pos q]
      refine ⟨m + 2, by omega, ?_⟩
      show _ = gt ns (gt ns (itr ns x m))
      rw [q]
    · rw [if_neg q]
      exact ⟨m + 1, by omega, rfl⟩
theorem cyc_skip {x : Int} (hx : Per ns x) (xw : x ≠ w) {c : Nat} (cy : Cyc ns x c) : ∃ c', Cyc (skF ns w) x c' ∧ itrs (skF ns w) x c' = offW w (itrs ns x c) := by
  obtain ⟨L', e1, e2, _⟩ := itrs_skip h hw nw hx c
  rw [skv_idem h hw nw xw] at e1 e2
  rw [cy.2.1, skv_idem h hw nw xw] at e2
  have xin : x ∈ offW w (itrs ns x c) := List.mem_filter.mpr ⟨itrs_mem.mpr ⟨0, cy.1, rfl⟩, by simp [xw]⟩
  refine ⟨L', ⟨?_, e2.symm, ?_⟩, e1.symm⟩
  · rw [e1] at xin
    obtain ⟨i, hi, _⟩ := itrs_mem.mp xin
    omega
  · rw [← e1]; exact cy.2.2.filter _
end
/-- people but w -/
def PerW (ns : List Int) (w : Int) (x : Int) : Prop := Per ns x ∧ x ≠ w
section
variable {gs : List Int} {w : Int}
variable (sg : Stt gs) (two : 2 ≤ gs.length) (hw : Per gs w) (no : ∀ x, PerW gs w x → gt gs x ≠ w)
include sg two hw no
end
end Lp

namespace Lp
open PySem PySem.Spec PyProof.Rows L2
local macro_rules | `(tactic| rfl') => `(tactic| try dsimp only [dVar_, gv_sh, gv_ow, gv_bx, gv_raw, gv_st, dC, dRaw, dOp, dUn, dTest, dTruth, dAnd, dOr, dNot, dYes, dIf, dAndV, dOrV, dNotV, dNotT, dChain, dNil, dCons, dTup, dLst, dats, dCB, dNoP, dPart, dSl, dNext, dBreak, dCont, dNever, dDrop, dRet, dRetN, dIfS, dSetG, dPar, dPar3, dAppend, dAppPop, dSetIx, dExt, dAug, dSet0, dSAdd, dSNotIn, dIter_, gi_l, gi_t, gi_b, dRng1, dRng2, dName, dGNil, dGCons, dGTup, dAsg, dFor, dWhile, dCall, dCallR, dArgs_, ga_f, ga_t, argsOf, dLc, wipeE, dListRg, dIndex, dSortSet, dSortSc, dEnum, dEnA, dZip, dIsi, dIsi2, isaT, φI, φB, φC, φNeg, add_i, add_l, add_t, mul_i, mul_l, φIx, sl_l, sl_t, eq_i, eq_s, eq_l, eq_t, eq_b, eq_n, φIsN, isN_n, isN_b, isN_i, isN_s, isN_l, isN_t, φLen, φList, φTuple, φAbs, φInt, φMax, φIsB, φIsNB, its_l, its_t, rd_sh, rd_nw, rd_br, rp_sh, rp_nw, rp_br, rp_bx, rp_raw, rp_sr, rr_sh, rr_nw, rr_br, ra_sh, ra_br, ra_bx, ra_raw, va_sh, va_nt, va_nf, va_raw, hb_n, hb_sh, hb_bx, hb_raw, hb_br, sh_n, sh_c, tr_n, tr_b, tr_i, tr_l, tr_t, ty_n, ty_b, ty_i, ty_s, ty_l, ty_t, if_ff, if_tt, Env.set, List.getElem?_cons_succ, List.getElem?_cons_zero, List.set_cons_succ, List.set_cons_zero, List.reverse_cons, List.reverse_nil, List.nil_append, List.cons_append, Option.bind_some, ite_true, ite_false])
theorem Und.stt {ns gs : List Int} (h : Stt ns) (u : Und ns.length gs) : Stt gs := ⟨by rw [u.len]; exact u.lo, by rw [u.len]; exact h.le, by rw [u.len]; exact h.ge⟩
theorem c_pick {d : PyData} {ms : List Int} {c : Nat} {Q : R → Nat → Prop} (h1 : PyData.its d = some (dI ms)) (hne : ms ≠ []) (hl : ms.length ≤ 1000000) (hc : c ≤ 900000000) (q : ∀ v c', v ∈ ms → c' ≤ c + 3 → Q (.sh (.int v)) c') : p_law_pick [.bx, .sh d] c Q := by
  refine ⟨d, dI ms, rfl, h1, fun z => ?_, by rw [dI_len]; exact hl, hc, fun e c' he hc' => ?_⟩
  · have := congrArg List.length z
    rw [dI_len, List.length_nil] at this
    exact hne (List.eq_nil_of_length_eq_zero this)
  · obtain ⟨v, hv, rfl⟩ := List.mem_map.mp he
    exact q v c' hv hc'
theorem c_same2 {k : Nat} {a : PyData} {c : Nat} {Q : R → Nat → Prop} (h : dep k a = true) (q : Q (.sh (.bool true)) c) : p_law_same_2 k [.sh a, .sh a] c Q := ⟨a, a, rfl, rfl, h, q⟩
theorem c_obst {d e : PyData} {ns gs : List Int} {c : Nat} {Q : R → Nat → Prop} (h1 : PyData.its d = some (dI ns)) (h2 : PyData.its e = some (dI gs)) (h3 : Stt ns) (h4 : Stt gs) (hl : gs.length = ns.length) (q : Q (.sh (obsF ns gs)) c) : p_obstacle [.sh d, .sh e] c Q := ⟨d, e, ns, gs, rfl, h1, h2, h3, h4, hl, q⟩
theorem c_leads {d e : PyData} {ns gs : List Int} {c : Nat} {Q : R → Nat → Prop} (h1 : PyData.its d = some (dI ns)) (h2 : PyData.its e = some (dI gs)) (h3 : Stt ns) (h4 : Stt gs) (hl : gs.length = ns.length) (q : Q (.sh (.bool (isN (obsF ns gs)))) c) : p_leads [.sh d, .sh e] c Q := ⟨d, e, ns, gs, rfl, h1, h2, h3, h4, hl, q⟩
end Lp

namespace Lp
open PySem PySem.Spec PyProof.Rows L2
local macro_rules | `(tactic| rfl') => `(tactic| try dsimp only [dVar_, gv_sh, gv_ow, gv_bx, gv_raw, gv_st, dC, dRaw, dOp, dUn, dTest, dTruth, dAnd, dOr, dNot, dYes, dIf, dAndV, dOrV, dNotV, dNotT, dChain, dNil, dCons, dTup, dLst, dats, dCB, dNoP, dPart, dSl, dNext, dBreak, dCont, dNever, dDrop, dRet, dRetN, dIfS, dSetG, dPar, dPar3, dAppend, dAppPop, dSetIx, dExt, dAug, dSet0, dSAdd, dSNotIn, dIter_, gi_l, gi_t, gi_b, dRng1, dRng2, dName, dGNil, dGCons, dGTup, dAsg, dFor, dWhile, dCall, dCallR, dArgs_, ga_f, ga_t, argsOf, dLc, wipeE, dListRg, dIndex, dSortSet, dSortSc, dEnum, dEnA, dZip, dIsi, dIsi2, isaT, φI, φB, φC, φNeg, add_i, add_l, add_t, mul_i, mul_l, φIx, sl_l, sl_t, eq_i, eq_s, eq_l, eq_t, eq_b, eq_n, φIsN, isN_n, isN_b, isN_i, isN_s, isN_l, isN_t, φLen, φList, φTuple, φAbs, φInt, φMax, φIsB, φIsNB, its_l, its_t, rd_sh, rd_nw, rd_br, rp_sh, rp_nw, rp_br, rp_bx, rp_raw, rp_sr, rr_sh, rr_nw, rr_br, ra_sh, ra_br, ra_bx, ra_raw, va_sh, va_nt, va_nf, va_raw, hb_n, hb_sh, hb_bx, hb_raw, hb_br, sh_n, sh_c, tr_n, tr_b, tr_i, tr_l, tr_t, ty_n, ty_b, ty_i, ty_s, ty_l, ty_t, if_ff, if_tt, Env.set, List.getElem?_cons_succ, List.getElem?_cons_zero, List.set_cons_succ, List.set_cons_zero, List.reverse_cons, List.reverse_nil, List.nil_append, List.cons_append, Option.bind_some, ite_true, ite_false])
/-- check_word: state, word, person -/
def b_check_word : DTS := (dFor (dIter (dVar 1)) (dName 2) (dDrop (dCall p_check_person (dCons (dVar 0) (dCons (dVar 2) dNil)))))
abbrev k_check_word : Nat := 1
def p_check_word : DSp := fun args c Q => ∃ (d e : PyData) (ns ws : List Int), args = [.sh d, .sh e] ∧ PyData.its d = some (dI ns) ∧ PyData.its e = some (dI ws) ∧ Low ns.length ws ∧ Q (.sh .none) c
theorem mon_check_word : MonF p_check_word := fun args c A B h ⟨d, e, ns, ws, ea, h1, h2, h3, q⟩ => ⟨d, e, ns, ws, ea, h1, h2, h3, h _ _ q⟩
theorem word_loop {d : PyData} {ns : List Int} (hd : PyData.its d = some (dI ns)) {x1 : SV} {Δ : DEnds} {c : Nat} : ∀ (ws : List Int) (y : SV), Low ns.length ws → (∀ y, Δ.nx ⟨[.sh d, x1, y], c⟩) →
    forD (dName 2) (dDrop (dCall p_check_person (dCons (dVar 0) (dCons (dVar 2) dNil)))) Δ (dI ws) ⟨[.sh d, x1, y], c⟩
  | [], y, _, q => q y
  | w :: ws, y, hw, q => by
    show forD _ _ _ (.int w :: dI ws) _
    refine for_cons ?_
    rfl'
    refine c_check hd (hw w List.mem_cons_self) ?_
    exact word_loop hd ws _ (fun z hz => hw z (List.mem_cons_of_mem _ hz)) q
theorem m_check_word : ∀ args c Q, p_check_word args c Q → defF k_check_word b_check_word args c Q := by
  rintro _ c Q ⟨d, e, ns, ws, rfl, h1, h2, h3, q⟩
  show b_check_word _ ⟨[.sh d, .sh e, .un], c⟩
  unfold b_check_word
  rcases its_cases h2 with rfl | rfl
  · rfl'
    exact ⟨rfl, word_loop h1 ws _ h3 fun y => q⟩
  · rfl'
    exact ⟨rfl, word_loop h1 ws _ h3 fun y => q⟩
/-- called_all: state, word, pointers, person -/
def b_called_all : DTS := (dSeq (dDrop (dCall p_check_word (dCons (dVar 0) (dCons (dVar 1) dNil))))
  (dSeq (dSetG true 2 (dCB φList (dCons (dVar 0) dNil)))
  (dSeq (dFor (dIter (dVar 1)) (dName 3) (dSetIx 2 (dOp φIx (dVar 2) (dOp φIx (dVar 2) (dVar 3))) (dVar 3)))
  (dRet (dCB φTuple (dCons (dVar 2) dNil))))))
abbrev k_called_all : Nat := 2
def p_called_all : DSp := p_law_shouted
theorem mon_called_all : MonF p_called_all := mon_law_shouted
theorem m_called_all : ∀ args c Q, p_called_all args c Q → defF k_called_all b_called_all args c Q := by
  rintro _ c Q ⟨d, e, ns, ws, rfl, h1, h2, h3, h4, q⟩
  show b_called_all _ ⟨[.sh d, .sh e, .un, .un], c⟩
  unfold b_called_all
  refine sq_ ?_
  rfl'
  refine ⟨d, e, ns, ws, rfl, h1, h2, h4, ?_⟩
  refine sq_ ?_
  rfl'
  rw [h1]
  rfl'
  refine sqa_ fun D hD => ?_
  rcases its_cases h2 with rfl | rfl
  · rfl'
    refine ⟨rfl, shout_loop ws ns _ h3 h4 fun y => hD _ ?_⟩
    rfl'
    exact q
  · rfl'
    refine ⟨rfl, shout_loop ws ns _ h3 h4 fun y => hD _ ?_⟩
    rfl'
    exact q
theorem c_called {d e : PyData} {ns ws : List Int} {c : Nat} {Q : R → Nat → Prop} (h1 : PyData.its d = some (dI ns)) (h2 : PyData.its e = some (dI ws)) (h3 : Stt ns) (h4 : Low ns.length ws) (q : Q (.sh (.tuple (dI (callAll ns ws)))) c) : p_called_all [.sh d, .sh e] c Q := ⟨d, e, ns, ws, rfl, h1, h2, h3, h4, q⟩
theorem gt_ext {a b : List Int} (hl : a.length = b.length) (h : ∀ x, Per a x → gt a x = gt b x) : a = b := by
  refine List.ext_getElem hl fun i h1 h2 => ?_
  have := h (i : Int) (per_nat h1)
  rw [gt_nat h1, gt_nat h2] at this
  exact this
end Lp

namespace Lp
open PySem PySem.Spec PyProof.Rows L2
local macro_rules | `(tactic| rfl') => `(tactic| try dsimp only [dVar_, gv_sh, gv_ow, gv_bx, gv_raw, gv_st, dC, dRaw, dOp, dUn, dTest, dTruth, dAnd, dOr, dNot, dYes, dIf, dAndV, dOrV, dNotV, dNotT, dChain, dNil, dCons, dTup, dLst, dats, dCB, dNoP, dPart, dSl, dNext, dBreak, dCont, dNever, dDrop, dRet, dRetN, dIfS, dSetG, dPar, dPar3, dAppend, dAppPop, dSetIx, dExt, dAug, dSet0, dSAdd, dSNotIn, dIter_, gi_l, gi_t, gi_b, dRng1, dRng2, dName, dGNil, dGCons, dGTup, dAsg, dFor, dWhile, dCall, dCallR, dArgs_, ga_f, ga_t, argsOf, dLc, wipeE, dListRg, dIndex, dSortSet, dSortSc, dEnum, dEnA, dZip, dIsi, dIsi2, isaT, φI, φB, φC, φNeg, add_i, add_l, add_t, mul_i, mul_l, φIx, sl_l, sl_t, eq_i, eq_s, eq_l, eq_t, eq_b, eq_n, φIsN, isN_n, isN_b, isN_i, isN_s, isN_l, isN_t, φLen, φList, φTuple, φAbs, φInt, φMax, φIsB, φIsNB, its_l, its_t, rd_sh, rd_nw, rd_br, rp_sh, rp_nw, rp_br, rp_bx, rp_raw, rp_sr, rr_sh, rr_nw, rr_br, ra_sh, ra_br, ra_bx, ra_raw, va_sh, va_nt, va_nf, va_raw, hb_n, hb_sh, hb_bx, hb_raw, hb_br, sh_n, sh_c, tr_n, tr_b, tr_i, tr_l, tr_t, ty_n, ty_b, ty_i, ty_s, ty_l, ty_t, if_ff, if_tt, Env.set, List.getElem?_cons_succ, List.getElem?_cons_zero, List.set_cons_succ, List.set_cons_zero, List.reverse_cons, List.reverse_nil, List.nil_append, List.cons_append, Option.bind_some, ite_true, ite_false])
theorem high_iff {ns : List Int} (hs : Stt ns) {p : Int} (hp : Per ns p) : heightF ns p = 0 ↔ p ∈ routeF ns (gt ns p) := by
  constructor
  · intro h
    obtain ⟨c, cy, _, _⟩ := ringF_cyc hs.lo hp.1 hp.2
    rw [h] at cy
    exact on_ring cy (hs.rt (hs.gt hp))
  · intro h
    by_cases z : heightF ns p = 0
    · exact z
    · exact absurd h (off_ring hs.lo hp.1 hp.2 (t := 0) (by omega) (hs.rt (hs.gt hp)))
theorem rep_one (n : Nat) (z : Int) : (List.replicate n [PyData.int z]).flatten = dI (List.replicate n z) := by
  show _ = (List.replicate n z).map _
  rw [List.map_replicate]
  induction n with
  | zero => rfl
  | succ m ih => rw [List.replicate_succ, List.flatten_cons, ih, List.replicate_succ]; rfl
end Lp

namespace Lp
open PySem PySem.Spec PyProof.Rows L2
local macro_rules | `(tactic| rfl') => `(tactic| try dsimp only [dVar_, gv_sh, gv_ow, gv_bx, gv_raw, gv_st, dC, dRaw, dOp, dUn, dTest, dTruth, dAnd, dOr, dNot, dYes, dIf, dAndV, dOrV, dNotV, dNotT, dChain, dNil, dCons, dTup, dLst, dats, dCB, dNoP, dPart, dSl, dNext, dBreak, dCont, dNever, dDrop, dRet, dRetN, dIfS, dSetG, dPar, dPar3, dAppend, dAppPop, dSetIx, dExt, dAug, dSet0, dSAdd, dSNotIn, dIter_, gi_l, gi_t, gi_b, dRng1, dRng2, dName, dGNil, dGCons, dGTup, dAsg, dFor, dWhile, dCall, dCallR, dArgs_, ga_f, ga_t, argsOf, dLc, wipeE, dListRg, dIndex, dSortSet, dSortSc, dEnum, dEnA, dZip, dIsi, dIsi2, isaT, φI, φB, φC, φNeg, add_i, add_l, add_t, mul_i, mul_l, φIx, sl_l, sl_t, eq_i, eq_s, eq_l, eq_t, eq_b, eq_n, φIsN, isN_n, isN_b, isN_i, isN_s, isN_l, isN_t, φLen, φList, φTuple, φAbs, φInt, φMax, φIsB, φIsNB, its_l, its_t, rd_sh, rd_nw, rd_br, rp_sh, rp_nw, rp_br, rp_bx, rp_raw, rp_sr, rr_sh, rr_nw, rr_br, ra_sh, ra_br, ra_bx, ra_raw, va_sh, va_nt, va_nf, va_raw, hb_n, hb_sh, hb_bx, hb_raw, hb_br, sh_n, sh_c, tr_n, tr_b, tr_i, tr_l, tr_t, ty_n, ty_b, ty_i, ty_s, ty_l, ty_t, if_ff, if_tt, Env.set, List.getElem?_cons_succ, List.getElem?_cons_zero, List.set_cons_succ, List.set_cons_zero, List.reverse_cons, List.reverse_nil, List.nil_append, List.cons_append, Option.bind_some, ite_true, ite_false])
theorem lead_refl {ns : List Int} (h : Stt ns) : Lead ns ns := (lead_iff h h rfl).mp (fut_clear h (Fut.self h))
theorem lead_on {a b : List Int} (ha : Stt a) (f : Lead a b) {x : Int} (hx : Per a x) {c : Nat} (cy : Cyc b x c) : ∃ d, Cyc a x d := (ways_on ha ((ways_iff ha).mpr f.ways) hx cy).1
theorem lead_itr {a b : List Int} (ha : Stt a) (f : Lead a b) {x : Int} (hx : Per a x) (k : Nat) : ∃ m, k ≤ m ∧ itr b x k = itr a x m := ways_itr ha ((ways_iff ha).mpr f.ways) hx k
theorem lead_trans {a b c : List Int} (ha : Stt a) (hb : Stt b) (hl : b.length = a.length) (f : Lead a b) (g : Lead b c) : Lead a c := by
  have ab : ∀ {x : Int}, Per a x → Per b x := fun {x} hx => ⟨hx.1, by rw [hl]; exact hx.2⟩
  refine ⟨fun x hx => ?_, fun x y k k' hx hy cx cy hm => ?_, fun x k d hx cx dx => ?_⟩
  · obtain ⟨m, m0, e⟩ := g.ways x (ab hx)
    obtain ⟨M, hM, e2⟩ := lead_itr ha f hx m
    exact ⟨M, by omega, by rw [e, e2]⟩
  · obtain ⟨d, dx⟩ := lead_on hb g (ab hx) cx
    obtain ⟨d', dy⟩ := lead_on hb g (ab hy) cy
    have := f.one x y d d' hx hy dx dy hm
    obtain ⟨i, _, e⟩ := itrs_mem.mp this
    exact g.one x y k k' (ab hx) (ab hy) cx cy ⟨i, 0, e⟩
  · obtain ⟨e, ex⟩ := lead_on hb g (ab hx) cx
    exact (g.ord x k e (ab hx) cx ex).trans (f.ord x e d hx ex dx)
section
variable {a : List Int} {w : Int} (h : Stt a) (hw : Per a w)
include h hw
theorem call_gt {p : Int} (p0 : 0 ≤ p) : gt (call1 a w) p = if p = w then gt a (gt a w) else gt a p := gt_callN hw.1 hw.2 p0
theorem call_per {x : Int} : Per (call1 a w) x ↔ Per a x := by unfold Per; rw [call1_len]
theorem call_ways : ∀ x, Per a x → ∃ m, 0 < m ∧ gt (call1 a w) x = itr a x m := fun x hx => by
  rw [call_gt h hw hx.1]
  by_cases q : x = w
  · rw [if_pos q, q]; exact ⟨2, by omega, rfl⟩
  · rw [if_neg q]; exact ⟨1, by omega, rfl⟩
theorem call_itr {x : Int} (hx : Per a x) (k : Nat) : ∃ m, k ≤ m ∧ itr (call1 a w) x k = itr a x m := ways_itr h ((ways_iff h).mpr (call_ways h hw)) hx k
theorem call_same {x : Int} (hx : Per a x) : ∀ k, (∀ j, j < k → itr a x j ≠ w) → itr (call1 a w) x k = itr a x k
  | 0, _ => rfl
  | k + 1, hk => by
    have ih := call_same hx k fun j hj => hk j (by omega)
    show gt (call1 a w) (itr (call1 a w) x k) = gt a (itr a x k)
    rw [ih, call_gt h hw (itr_low h.lo hx.1 hx.2 k).1, if_neg (hk k (by omega))]
theorem call_cyc_off {x : Int} (hx : Per a x) {d : Nat} (cy : Cyc a x d) (nw : w ∉ itrs a x d) : Cyc (call1 a w) x d ∧ itrs (call1 a w) x d = itrs a x d := by
  have same : ∀ k, itr (call1 a w) x k = itr a x k := fun k => call_same h hw hx k fun j _ e => nw (by rw [← e]; exact cy.all j)
  have e : itrs (call1 a w) x d = itrs a x d := by unfold itrs; exact List.map_congr_left fun k _ => same k
  exact ⟨⟨cy.1, by rw [same]; exact cy.2.1, by rw [e]; exact cy.2.2⟩, e⟩
/-- on a ring, only one points at each -/
theorem pred_one {x z y : Int} {d : Nat} (cy : Cyc a x d) (hz : z ∈ itrs a x d) (hy : y ∈ itrs a x d) (e : gt a z = gt a y) : z = y := by
  obtain ⟨i, hi, rfl⟩ := itrs_mem.mp hz
  obtain ⟨j, hj, rfl⟩ := itrs_mem.mp hy
  have e2 : itr a x (i + 1) = itr a x (j + 1) := e
  have key : ∀ i j, i < d → j < d → i + 1 < d → itr a x (i + 1) = itr a x (j + 1) → i = j := fun i j hi hj hi1 e => by
    by_cases q : j + 1 < d
    · have := itrs_apart cy.2.2 hi1 q e; omega
    · have : j + 1 = d := by omega
      rw [this, cy.2.1] at e
      have := itrs_apart cy.2.2 hi1 cy.1 (show itr a x (i + 1) = itr a x 0 from e)
      omega
  by_cases q : i + 1 < d
  · rw [key i j hi hj q e2]
  · by_cases q2 : j + 1 < d
    · rw [key j i hj hi q2 e2.symm]
    · rw [show i = j by omega]
/-- who is looked past on a ring is off the rings -/
theorem call_off {d : Nat} (cy : Cyc a w d) (nv : gt a (gt a w) ≠ gt a w) {c : Nat} : ¬ Cyc (call1 a w) (gt a w) c := fun cg => by
  have hv := h.gt hw
  have cv := (cy.at (cy.all 1)).1
  have mem := (cy.at (cy.all 1)).2
  have e := cg.2.1
  have hc := cg.1
  have : c = c - 1 + 1 := by omega
  rw [this] at e
  obtain ⟨m, _, em⟩ := call_itr h hw hv (c - 1)
  have e2 : gt (call1 a w) (itr (call1 a w) (gt a w) (c - 1)) = gt a w := e
  rw [em] at e2
  have pz : Per a (itr a (gt a w) m) := itr_low h.lo hv.1 hv.2 m
  rw [call_gt h hw pz.1] at e2
  by_cases q : itr a (gt a w) m = w
  · rw [if_pos q] at e2; exact nv e2
  · rw [if_neg q] at e2
    have zin : itr a (gt a w) m ∈ itrs a w d := (mem _).mp (cv.all m)
    exact q (pred_one h hw cy zin (itrs_mem.mpr ⟨0, cy.1, rfl⟩) e2)
/-- the ring of w, without whom w looks past -/
theorem call_ring {d : Nat} (cw : Cyc a w d) (nv : gt a (gt a w) ≠ gt a w) {x : Int} (hx : Per a x) (xin : x ∈ itrs a w d) (xv : x ≠ gt a w) : ∃ c, Cyc (call1 a w) x c ∧ itrs (call1 a w) x c = offW (gt a w) (itrs a x d) ∧ c + 1 = d := by
  have hv := h.gt hw
  have cx := (cw.at xin).1
  have mem := (cw.at xin).2
  have win : w ∈ itrs a x d := (mem w).mpr (itrs_mem.mpr ⟨0, cw.1, rfl⟩)
  obtain ⟨c, cs, es⟩ := cyc_skip h hv nv hx xv cx
  have same : ∀ k, itr (call1 a w) x k = itr (skF a (gt a w)) x k := by
    intro k
    induction k with
    | zero => rfl
    | succ k ih =>
      show gt (call1 a w) (itr (call1 a w) x k) = gt (skF a (gt a w)) (itr (skF a (gt a w)) x k)
      rw [ih]
      obtain ⟨ne, m, _, em⟩ := itr_of_skip h hv nv hx xv k
      rw [em] at ne ⊢
      have pz : Per a (itr a x m) := itr_low h.lo hx.1 hx.2 m
      have zin := cx.all m
      unfold skF
      rw [gt_map pz, call_gt h hw pz.1]
      unfold skv
      by_cases q : itr a x m = w
      · rw [if_pos q, q, if_pos rfl]
      · rw [if_neg q, if_neg fun z => q (pred_one h hw cx zin win z)]
  have e : itrs (call1 a w) x c = itrs (skF a (gt a w)) x c := by unfold itrs; exact List.map_congr_left fun k _ => same k
  refine ⟨c, ⟨cs.1, by rw [same]; exact cs.2.1, by rw [e]; exact cs.2.2⟩, by rw [e, es], ?_⟩
  have l1 := congrArg List.length es
  rw [itrs_len] at l1
  have vin : gt a w ∈ itrs a x d := (mem _).mpr (cw.all 1)
  obtain ⟨p, q, epq⟩ := List.append_of_mem vin
  have nd := cx.2.2
  rw [epq] at nd
  have n1 := List.nodup_append.mp nd
  have n2 := List.nodup_cons.mp n1.2.1
  have l2 := congrArg List.length epq
  rw [itrs_len, List.length_append, List.length_cons] at l2
  rw [l1, epq]
  unfold offW
  rw [List.filter_append, List.filter_cons_of_neg (by simp), List.filter_eq_self.mpr fun z hz => ?_, List.filter_eq_self.mpr fun z hz => ?_, List.length_append]
  · omega
  · rw [decide_eq_true]
    intro e; exact n2.1 (by rw [← e]; exact hz)
  · rw [decide_eq_true]
    intro e; exact n1.2.2 z hz _ List.mem_cons_self e
theorem lead_call : Lead a (call1 a w) := by
  refine ⟨call_ways h hw, fun x y c c' hx hy cx cy hm => ?_, fun x c d hx cx dx => ?_⟩
  · have hg := h.call hw
    have px := (call_per h hw).mpr hx
    have py := (call_per h hw).mpr hy
    have e := (ring_call h.lo hw.1 hw.2 hx.1 hx.2 hy.1 hy.2).mp ((meet_ring h hx hy).mpr hm)
    have yin := (on_iff hg py).mpr ⟨c', cy⟩
    rw [← e, cyc_ring hg px cx, mem_turnF] at yin
    exact yin
  · by_cases win : w ∈ itrs a x d
    · by_cases nv : gt a (gt a w) = gt a w
      · have e : call1 a w = a := (call1_idle hw.1 hw.2).mpr nv
        rw [e] at cx ⊢
        rw [cx.uniq dx]
        exact List.Sublist.refl _
      · have cw := (dx.at win).1
        have xin : x ∈ itrs a w d := ((dx.at win).2 x).mpr (itrs_mem.mpr ⟨0, dx.1, rfl⟩)
        have xv : x ≠ gt a w := fun z => call_off h hw cw nv (by rw [z] at cx; exact cx)
        obtain ⟨c2, k1, k2, _⟩ := call_ring h hw cw nv hx xin xv
        rw [cx.uniq k1, k2]
        exact List.filter_sublist
    · obtain ⟨k1, k2⟩ := call_cyc_off h hw hx dx win
      rw [cx.uniq k1, k2]
      exact List.Sublist.refl _
end
theorem lead_calls : ∀ (ws : List Int) {a : List Int}, Stt a → Low a.length ws → Lead a (callAll a ws)
  | [], a, h, _ => lead_refl h
  | w :: ws, a, h, hw => by
    have pw : Per a w := hw w List.mem_cons_self
    have hg := h.call pw
    exact lead_trans h hg (call1_len a w) (lead_call h pw) (lead_calls ws hg fun z hz => by rw [call1_len]; exact hw z (List.mem_cons_of_mem _ hz))
theorem met_on {a : List Int} (h : Stt a) {x : Int} (hx : Per a x) : x ∈ routeF a (gt a x) ↔ ∃ c, Cyc a x c := by
  constructor
  · intro hm
    obtain ⟨m, m0, e⟩ := way_itr h hx hm
    exact back_cyc h hx m0 e.symm
  · rintro ⟨c, cy⟩
    have := itr_way h hx cy.1
    rw [cy.2.1] at this
    exact this
section
variable {a : List Int} {w : Int} (h : Stt a) (hw : Per a w)
include h hw
end
end Lp

namespace Lp
open PySem PySem.Spec PyProof.Rows L2
local macro_rules | `(tactic| rfl') => `(tactic| try dsimp only [dVar_, gv_sh, gv_ow, gv_bx, gv_raw, gv_st, dC, dRaw, dOp, dUn, dTest, dTruth, dAnd, dOr, dNot, dYes, dIf, dAndV, dOrV, dNotV, dNotT, dChain, dNil, dCons, dTup, dLst, dats, dCB, dNoP, dPart, dSl, dNext, dBreak, dCont, dNever, dDrop, dRet, dRetN, dIfS, dSetG, dPar, dPar3, dAppend, dAppPop, dSetIx, dExt, dAug, dSet0, dSAdd, dSNotIn, dIter_, gi_l, gi_t, gi_b, dRng1, dRng2, dName, dGNil, dGCons, dGTup, dAsg, dFor, dWhile, dCall, dCallR, dArgs_, ga_f, ga_t, argsOf, dLc, wipeE, dListRg, dIndex, dSortSet, dSortSc, dEnum, dEnA, dZip, dIsi, dIsi2, isaT, φI, φB, φC, φNeg, add_i, add_l, add_t, mul_i, mul_l, φIx, sl_l, sl_t, eq_i, eq_s, eq_l, eq_t, eq_b, eq_n, φIsN, isN_n, isN_b, isN_i, isN_s, isN_l, isN_t, φLen, φList, φTuple, φAbs, φInt, φMax, φIsB, φIsNB, its_l, its_t, rd_sh, rd_nw, rd_br, rp_sh, rp_nw, rp_br, rp_bx, rp_raw, rp_sr, rr_sh, rr_nw, rr_br, ra_sh, ra_br, ra_bx, ra_raw, va_sh, va_nt, va_nf, va_raw, hb_n, hb_sh, hb_bx, hb_raw, hb_br, sh_n, sh_c, tr_n, tr_b, tr_i, tr_l, tr_t, ty_n, ty_b, ty_i, ty_s, ty_l, ty_t, if_ff, if_tt, Env.set, List.getElem?_cons_succ, List.getElem?_cons_zero, List.set_cons_succ, List.set_cons_zero, List.reverse_cons, List.reverse_nil, List.nil_append, List.cons_append, Option.bind_some, ite_true, ite_false])
theorem high_on {a : List Int} (h : Stt a) {x : Int} (hx : Per a x) : 0 < heightF a x ↔ ¬ ∃ c, Cyc a x c := by
  rw [← met_on h hx, ← high_iff h hx]; omega
section
variable {a : List Int} {w : Int} (h : Stt a) (hw : Per a w)
include h hw
end
end Lp

namespace Lp
open PySem PySem.Spec PyProof.Rows L2
local macro_rules | `(tactic| rfl') => `(tactic| try dsimp only [dVar_, gv_sh, gv_ow, gv_bx, gv_raw, gv_st, dC, dRaw, dOp, dUn, dTest, dTruth, dAnd, dOr, dNot, dYes, dIf, dAndV, dOrV, dNotV, dNotT, dChain, dNil, dCons, dTup, dLst, dats, dCB, dNoP, dPart, dSl, dNext, dBreak, dCont, dNever, dDrop, dRet, dRetN, dIfS, dSetG, dPar, dPar3, dAppend, dAppPop, dSetIx, dExt, dAug, dSet0, dSAdd, dSNotIn, dIter_, gi_l, gi_t, gi_b, dRng1, dRng2, dName, dGNil, dGCons, dGTup, dAsg, dFor, dWhile, dCall, dCallR, dArgs_, ga_f, ga_t, argsOf, dLc, wipeE, dListRg, dIndex, dSortSet, dSortSc, dEnum, dEnA, dZip, dIsi, dIsi2, isaT, φI, φB, φC, φNeg, add_i, add_l, add_t, mul_i, mul_l, φIx, sl_l, sl_t, eq_i, eq_s, eq_l, eq_t, eq_b, eq_n, φIsN, isN_n, isN_b, isN_i, isN_s, isN_l, isN_t, φLen, φList, φTuple, φAbs, φInt, φMax, φIsB, φIsNB, its_l, its_t, rd_sh, rd_nw, rd_br, rp_sh, rp_nw, rp_br, rp_bx, rp_raw, rp_sr, rr_sh, rr_nw, rr_br, ra_sh, ra_br, ra_bx, ra_raw, va_sh, va_nt, va_nf, va_raw, hb_n, hb_sh, hb_bx, hb_raw, hb_br, sh_n, sh_c, tr_n, tr_b, tr_i, tr_l, tr_t, ty_n, ty_b, ty_i, ty_s, ty_l, ty_t, if_ff, if_tt, Env.set, List.getElem?_cons_succ, List.getElem?_cons_zero, List.set_cons_succ, List.set_cons_zero, List.reverse_cons, List.reverse_nil, List.nil_append, List.cons_append, Option.bind_some, ite_true, ite_false])
theorem on_at {a : List Int} (h : Stt a) {p : Int} (hp : Per a p) (t : Nat) : (∃ c, Cyc a (itr a p t) c) ↔ heightF a p ≤ t := by
  obtain ⟨c, cy, _, _⟩ := ringF_cyc h.lo hp.1 hp.2
  constructor
  · intro on
    by_cases q : heightF a p ≤ t
    · exact q
    · have pt : Per a (itr a p t) := itr_low h.lo hp.1 hp.2 t
      exact absurd ((met_on h pt).mpr on) (off_ring h.lo hp.1 hp.2 (t := t) (by omega) (h.rt (h.gt pt)))
  · intro q
    have := cy.all (t - heightF a p)
    rw [← itr_add, show heightF a p + (t - heightF a p) = t by omega] at this
    exact ⟨c, (cy.at this).1⟩
theorem height_itr {a : List Int} (h : Stt a) {p : Int} (hp : Per a p) (j : Nat) : heightF a (itr a p j) = heightF a p - j := by
  have pj : Per a (itr a p j) := itr_low h.lo hp.1 hp.2 j
  have key : ∀ t, heightF a (itr a p j) ≤ t ↔ heightF a p - j ≤ t := fun t => by
    rw [← on_at h pj t, ← itr_add, on_at h hp (j + t)]; omega
  have a1 := (key (heightF a p - j)).mpr (Nat.le_refl _)
  have a2 := (key (heightF a (itr a p j))).mp (Nat.le_refl _)
  omega
theorem height0 {a : List Int} (h : Stt a) {p : Int} (hp : Per a p) : heightF a p = 0 ↔ ∃ c, Cyc a p c := by
  have := on_at h hp 0
  constructor
  · intro e; exact this.mpr (by omega)
  · intro o; have := this.mp o; omega
theorem rep_call {p : Int} : ∀ (m : Nat) {s : List Int}, Per s p → Low s.length s → (∀ i, i < m → itr s (gt s p) i ≠ p) → callAll s (List.replicate m p) = s.set p.toNat (itr s (gt s p) m)
  | 0, s, hp, _, _ => by
    show s = s.set p.toNat (gt s p)
    have := hp.1; have := hp.2
    have e := gt_get hp.1 hp.2
    refine List.ext_getElem? fun i => ?_
    rw [List.getElem?_set]
    by_cases q : p.toNat = i
    · rw [if_pos q, ← q, if_pos (by omega), e]
    · rw [if_neg q]
  | m + 1, s, hp, lo, hi => by
    have p0 := hp.1; have p1 := hp.2
    have ih := rep_call m hp lo fun i h => hi i (by omega)
    rw [List.replicate_succ', callAll_snoc, ih]
    have zm := hi m (by omega)
    have pg := gt_low lo hp.1 hp.2
    have pz := itr_low lo pg.1 pg.2 m
    unfold call1
    rw [gt_set p0 p1 p0, if_pos rfl, gt_set p0 p1 pz.1, if_neg zm, List.set_set]
    rfl
theorem set_gt {s : List Int} {p v : Int} (hp : Per s p) : (∀ x, 0 ≤ x → gt (s.set p.toNat v) x = if x = p then v else gt s x) := fun x x0 => gt_set hp.1 hp.2 x0
def outW (a b : List Int) (X : List Int) : List Int := X.flatMap fun x => List.replicate ((routeF a (gt a x)).idxOf (gt b x)) x
theorem outW_low {a b : List Int} {X : List Int} (hX : ∀ x ∈ X, Per a x) : Low a.length (outW a b X) := fun z hz => by
  obtain ⟨x, hx, hz⟩ := List.mem_flatMap.mp hz
  rw [List.eq_of_mem_replicate hz]
  exact hX x hx
theorem callAll_app (s u v : List Int) : callAll s (u ++ v) = callAll (callAll s u) v := by unfold callAll; rw [List.foldl_append]
theorem out_ok {a b : List Int} (h : Stt a) (f : OnWays a b) : ∀ (X D : List Int) (s : List Int), s.length = a.length → Low s.length s → (D ++ X).Nodup → (∀ x ∈ D ++ X, Per a x ∧ 0 < heightF a x) → (D ++ X).Pairwise (fun x y => heightF a y ≤ heightF a x) →
    (∀ y, 0 ≤ y → gt s y = if y ∈ D then gt b y else gt a y) → ∃ s', callAll s (outW a b X) = s' ∧ s'.length = a.length ∧ ∀ y, 0 ≤ y → gt s' y = if y ∈ D ++ X then gt b y else gt a y
  | [], D, s, hl, _, _, _, _, hs => ⟨s, rfl, hl, by rw [List.append_nil]; exact hs⟩
  | x :: X, D, s, hl, lo, nd, hx, pw, hs => by
    obtain ⟨px, hgt⟩ := hx x (List.mem_append_right _ List.mem_cons_self)
    have xD : x ∉ D := fun z => (List.nodup_append.mp nd).2.2 x z x List.mem_cons_self rfl
    have sx : gt s x = gt a x := by rw [hs x px.1, if_neg xD]
    have psx : Per s x := ⟨px.1, by rw [hl]; exact px.2⟩
    have pg := h.gt px
    -- whoever is on the way is not done yet
    have free : ∀ i, itr a (gt a x) i ∉ D ∧ itr a (gt a x) i ≠ x := fun i => by
      have hz : heightF a (itr a (gt a x) i) = heightF a x - (i + 1) := by rw [← itr_succ]; exact height_itr h px (i + 1)
      have pz : Per a (itr a (gt a x) i) := itr_low h.lo pg.1 pg.2 i
      refine ⟨fun z => ?_, fun e => ?_⟩
      · have h1 := (hx _ (List.mem_append_left _ z)).2
        have h2 := (List.pairwise_append.mp pw).2.2 _ z x List.mem_cons_self
        omega
      · rw [e] at hz; omega
    have same : ∀ i, itr s (gt s x) i = itr a (gt a x) i := fun i => by
      induction i with
      | zero => exact sx
      | succ i ih =>
        show gt s (itr s (gt s x) i) = gt a (itr a (gt a x) i)
        rw [ih, hs _ (itr_low h.lo pg.1 pg.2 i).1, if_neg (free i).1]
    have inn := f x px
    obtain ⟨L, eL, ndL, _⟩ := h.rt pg
    have ix : itr a (gt a x) ((routeF a (gt a x)).idxOf (gt b x)) = gt b x := by
      have h1 := idx_get inn
      have h2 := List.idxOf_lt_length_of_mem inn
      rw [eL] at h1 h2 ⊢
      rw [itrs_len] at h2
      rw [itrs_get h2] at h1
      exact Option.some.inj h1
    have rc := rep_call ((routeF a (gt a x)).idxOf (gt b x)) psx lo fun i _ => by rw [same]; exact (free i).2
    rw [same, ix] at rc
    have pb : 0 ≤ gt b x ∧ gt b x < (a.length : Int) := route_low h pg _ inn
    have e2 : D ++ x :: X = (D ++ [x]) ++ X := by simp
    rw [e2] at nd hx pw ⊢
    obtain ⟨s', k1, k2, k3⟩ := out_ok h f X (D ++ [x]) (s.set x.toNat (gt b x)) (by rw [List.length_set]; exact hl) (by rw [List.length_set]; exact lo.set pb.1 (by rw [hl]; exact pb.2)) nd hx pw (fun y y0 => by
      rw [set_gt psx y y0]
      by_cases q : y = x
      · rw [if_pos q, if_pos (List.mem_append_right _ (List.mem_singleton.mpr q)), q]
      · rw [if_neg q, hs y y0]
        by_cases q2 : y ∈ D
        · rw [if_pos q2, if_pos (List.mem_append_left _ q2)]
        · rw [if_neg q2, if_neg fun z => (List.mem_append.mp z).elim q2 fun z => q (List.mem_singleton.mp z)])
    refine ⟨s', ?_, k2, k3⟩
    show callAll s (outW a b (x :: X)) = s'
    unfold outW
    rw [List.flatMap_cons, callAll_app, rc]
    exact k1
def ringW (b : List Int) : List Int → List Int → List Int
  | _, [] => []
  | M, p :: ps => ((turnTo M p).tail.getLastD 0) :: (List.replicate ((turnTo M p).tail.idxOf (gt b p)) p ++ ringW b (turnTo M p).tail ps)
theorem turnTo_itrs {s : List Int} {x p : Int} {c : Nat} (cy : Cyc s x c) (hp : p ∈ itrs s x c) : turnTo (itrs s x c) p = itrs s p c := by
  obtain ⟨i, hi, _, e2, e3⟩ := cyc_from cy hp
  unfold turnTo
  rw [e3, e2]
/-- one person leaves the ring -/
theorem leave_ring {s : List Int} (hs : Stt s) {x p : Int} {c : Nat} (hx : Per s x) (cy : Cyc s x c) (hp : p ∈ itrs s x c) (c2 : 2 ≤ c) {v : Int} (hv : v ∈ itrs s x c) (vp : v ≠ p) :
    let M' := (turnTo (itrs s x c) p).tail
    let q := M'.getLastD 0
    Per s p ∧ Per s q ∧ q ≠ p ∧ q ∈ itrs s x c ∧ v ∈ M' ∧ (∀ z, z ∈ M' ↔ z ∈ itrs s x c ∧ z ≠ p) ∧
    ∃ y, Per s y ∧ callAll (call1 s q) (List.replicate (M'.idxOf v) p) = (call1 s q).set p.toNat v ∧ Cyc ((call1 s q).set p.toNat v) y (c - 1) ∧ itrs ((call1 s q).set p.toNat v) y (c - 1) = M' := by
  intro M' q
  have pp : Per s p := by
    obtain ⟨i, _, rfl⟩ := itrs_mem.mp hp
    exact itr_low hs.lo hx.1 hx.2 i
  have cp := (cy.at hp).1
  have eM : M' = itrs s (gt s p) (c - 1) := by
    show (turnTo (itrs s x c) p).tail = _
    rw [turnTo_itrs cy hp, itrs_cons cp.1]; rfl
  have mem : ∀ z, z ∈ M' ↔ z ∈ itrs s x c ∧ z ≠ p := fun z => by
    rw [eM, ← (cy.at hp).2 z, itrs_cons cp.1]
    have nd := cp.2.2
    rw [itrs_cons cp.1] at nd
    have n2 := List.nodup_cons.mp nd
    constructor
    · intro h
      exact ⟨List.mem_cons_of_mem _ h, fun e => n2.1 (e ▸ h)⟩
    · rintro ⟨h1, h2⟩
      exact (List.mem_cons.mp h1).resolve_left h2
  have eq : q = itr s (gt s p) (c - 2) := by
    show M'.getLastD 0 = _
    rw [eM, getLastD_itrs (by omega)]
    rw [show c - 1 - 1 = c - 2 by omega]
  have qin : q ∈ M' := by
    rw [eM, eq]; exact itrs_mem.mpr ⟨c - 2, by omega, rfl⟩
  have qm := (mem q).mp qin
  have pq : Per s q := by
    obtain ⟨i, _, e⟩ := itrs_mem.mp qm.1
    rw [← e]; exact itr_low hs.lo hx.1 hx.2 i
  have gq : gt s q = p := by
    have : itr s p c = p := cp.2.1
    have hc : c = c - 2 + 1 + 1 := by omega
    rw [hc, itr_succ] at this
    rw [eq]; exact this
  have vM : v ∈ M' := (mem v).mpr ⟨hv, vp⟩
  have cq := (cy.at qm.1).1
  have nv : gt s (gt s q) ≠ gt s q := fun e => by
    rw [gq] at e
    have h1 := itrs_apart cp.2.2 (show 1 < c by omega) (show 0 < c by omega) (show itr s p 1 = itr s p 0 from e)
    omega
  have y := gt s p
  have py := hs.gt pp
  have yin : gt s p ∈ itrs s q c := ((cy.at qm.1).2 _).mpr (((cy.at hp).2 _).mp (cp.all 1))
  have yv : gt s p ≠ gt s q := by rw [gq]; intro e; rw [gq] at nv; exact nv e
  obtain ⟨c', k1, k2, k3⟩ := call_ring hs pq cq nv py yin yv
  rw [gq] at k2
  have ec : c' = c - 1 := by omega
  subst ec
  have e3 : itrs (call1 s q) (gt s p) (c - 1) = M' := by
    rw [k2, eM]
    have : itrs s (gt s p) c = itrs s (gt s p) (c - 1) ++ [p] := by
      have hc : c = c - 1 + 1 := by omega
      conv => lhs; rw [hc, itrs_succ]
      congr 1
      have : itr s p c = p := cp.2.1
      rw [hc, itr_succ] at this
      rw [this]
    rw [this]
    unfold offW
    rw [List.filter_append, List.filter_cons_of_neg (by simp), List.filter_nil, List.append_nil]
    exact List.filter_eq_self.mpr fun z hz => by
      rw [← eM] at hz
      exact decide_eq_true ((mem z).mp hz).2
  have hs1 := hs.call pq
  have l1 := call1_len s q
  have pp1 : Per (call1 s q) p := (call_per hs pq).mpr pp
  have gp : gt (call1 s q) p = gt s p := by rw [call_gt hs pq pp.1, if_neg (Ne.symm qm.2)]
  have it1 : ∀ i, itr (call1 s q) (gt (call1 s q) p) i ∈ M' := fun i => by
    rw [gp, ← e3]; exact k1.all i
  have ix : itr (call1 s q) (gt (call1 s q) p) (M'.idxOf v) = v := by
    have h1 := idx_get vM
    have h2 := List.idxOf_lt_length_of_mem vM
    rw [← e3] at h1 h2 ⊢
    rw [itrs_len] at h2
    rw [itrs_get h2] at h1
    rw [gp]
    exact Option.some.inj h1
  have rc := rep_call (M'.idxOf v) pp1 hs1.lo fun i _ => ((mem _).mp (it1 i)).2
  rw [ix] at rc
  have same : ∀ i, itr ((call1 s q).set p.toNat v) (gt s p) i = itr (call1 s q) (gt s p) i := fun i => by
    induction i with
    | zero => rfl
    | succ i ih =>
      have hin : itr (call1 s q) (gt s p) i ∈ M' := by rw [← e3]; exact k1.all i
      have ne := ((mem _).mp hin).2
      have pz : Per (call1 s q) (itr (call1 s q) (gt s p) i) := itr_low hs1.lo ((call_per hs pq).mpr py).1 ((call_per hs pq).mpr py).2 i
      show gt ((call1 s q).set p.toNat v) (itr ((call1 s q).set p.toNat v) (gt s p) i) = gt (call1 s q) (itr (call1 s q) (gt s p) i)
      rw [ih, set_gt pp1 _ pz.1, if_neg ne]
  have e4 : itrs ((call1 s q).set p.toNat v) (gt s p) (c - 1) = itrs (call1 s q) (gt s p) (c - 1) := by unfold itrs; exact List.map_congr_left fun i _ => same i
  exact ⟨pp, pq, qm.2, qm.1, vM, mem, gt s p, py, rc, ⟨k1.1, by rw [same]; exact k1.2.1, by rw [e4]; exact k1.2.2⟩, by rw [e4, e3]⟩
theorem ring_ok {a b : List Int} (ha : Stt a) (hb : Stt b) (hl : b.length = a.length) (f : Lead a b) {r : Int} (hr : Per a r) (on : r ∈ ringF a r) : ∀ (P D : List Int) (s : List Int) (x : Int) (c : Nat), Stt s → s.length = a.length → (D ++ P).Nodup → (∀ p, p ∈ D ++ P ↔ p ∈ ringF a r ∧ 0 < heightF b p) → (D ++ P).Pairwise (fun p q => heightF b q ≤ heightF b p) →
    Per a x → Cyc s x c → (∀ z, z ∈ itrs s x c ↔ z ∈ ringF a r ∧ z ∉ D) → (∀ p ∈ D, gt s p = gt b p) →
    Low a.length (ringW b (itrs s x c) P) ∧ ∃ s' y c', callAll s (ringW b (itrs s x c) P) = s' ∧ Stt s' ∧ s'.length = a.length ∧ Per a y ∧ Cyc s' y c' ∧ (∀ z, z ∈ itrs s' y c' ↔ z ∈ ringF a r ∧ heightF b z = 0) ∧ (∀ p ∈ D ++ P, gt s' p = gt b p) ∧ ∀ z, 0 ≤ z → z ∉ ringF a r → gt s' z = gt s z
  | [], D, s, x, c, hs, sl, nd, mP, pw, px, cx, mM, dn => by
    rw [List.append_nil] at mP ⊢
    refine ⟨(fun z hz => nomatch hz), s, x, c, rfl, hs, sl, px, cx, fun z => ?_, dn, fun z _ _ => rfl⟩
    rw [mM z]
    constructor
    · rintro ⟨h1, h2⟩
      refine ⟨h1, ?_⟩
      by_cases q : heightF b z = 0
      · exact q
      · exact absurd ((mP z).mpr ⟨h1, by omega⟩) h2
    · rintro ⟨h1, h2⟩
      exact ⟨h1, fun z2 => by have := ((mP z).mp z2).2; omega⟩
  | p :: P, D, s, x, c, hs, sl, nd, mP, pw, px, cx, mM, dn => by
    have ab : ∀ {x : Int}, Per a x → Per b x := fun {x} hx => ⟨hx.1, by rw [hl]; exact hx.2⟩
    have sa : ∀ {x : Int}, Per a x → Per s x := fun {x} hx => ⟨hx.1, by rw [sl]; exact hx.2⟩
    obtain ⟨pR, ph⟩ := (mP p).mp (List.mem_append_right _ List.mem_cons_self)
    have pD : p ∉ D := fun z => (List.nodup_append.mp nd).2.2 p z p List.mem_cons_self rfl
    have pin : p ∈ itrs s x c := (mM p).mpr ⟨pR, pD⟩
    have pp : Per a p := (ring_per ha hr pR).1
    -- where p points in b: on the ring, and still there
    have inR : ∀ k, itr b p k ∈ ringF a r := fun k => by
      obtain ⟨m, _, e⟩ := lead_itr ha f pp k
      rw [e]
      have := ring_per ha hr pR
      obtain ⟨d, cd⟩ := (on_iff ha pp).mp this.2.2
      rw [← this.2.1, cyc_ring ha pp cd, mem_turnF]
      exact cd.all m
    have hb1 : heightF b (gt b p) = heightF b p - 1 := height_itr hb (ab pp) 1
    have vD : gt b p ∉ D := fun z => by
      have h2 := (List.pairwise_append.mp pw).2.2 _ z p List.mem_cons_self
      omega
    have vin : gt b p ∈ itrs s x c := (mM _).mpr ⟨inR 1, vD⟩
    have vp : gt b p ≠ p := fun e => by rw [e] at hb1; omega
    -- somebody stays
    have stay : ∃ z, z ∈ itrs s x c ∧ heightF b z = 0 := by
      refine ⟨itr b p (heightF b p), (mM _).mpr ⟨inR _, fun z => ?_⟩, by rw [height_itr hb (ab pp)]; omega⟩
      have := ((mP _).mp (List.mem_append_left _ z)).2
      rw [height_itr hb (ab pp)] at this
      omega
    have c2 : 2 ≤ c := by
      obtain ⟨z, hz, h0⟩ := stay
      obtain ⟨i, hi, ei⟩ := itrs_mem.mp hz
      obtain ⟨j, hj, ej⟩ := itrs_mem.mp pin
      by_cases q : i = j
      · subst q
        rw [ei] at ej
        rw [ej] at h0
        omega
      · omega
    obtain ⟨_, pq, qp, qin, vM, mem, y, py, rc, cy, ey⟩ := leave_ring hs (sa px) cx pin c2 vin vp
    generalize hq : (turnTo (itrs s x c) p).tail.getLastD 0 = q at pq qp qin rc cy ey
    generalize hM : (turnTo (itrs s x c) p).tail = M' at hq vM mem rc cy ey
    have qR := ((mM q).mp qin).1
    have pq' : Per a q := (ring_per ha hr qR).1
    have pb : 0 ≤ gt b p ∧ gt b p < (b.length : Int) := hb.gt (ab pp)
    have l1 := call1_len s q
    have hs1 := hs.call pq
    have hs2 : Stt ((call1 s q).set p.toNat (gt b p)) := ⟨by rw [List.length_set]; exact hs1.lo.set pb.1 (by rw [l1, sl, ← hl]; exact pb.2), by rw [List.length_set]; exact hs1.le, by rw [List.length_set]; exact hs1.ge⟩
    have pp1 : Per (call1 s q) p := (call_per hs pq).mpr (sa pp)
    have g2 : ∀ z, 0 ≤ z → gt ((call1 s q).set p.toNat (gt b p)) z = if z = p then gt b p else gt (call1 s q) z := set_gt pp1
    have e2 : D ++ p :: P = (D ++ [p]) ++ P := by simp
    rw [e2] at nd mP pw ⊢
    have ya : Per a y := ⟨py.1, by rw [← sl]; exact py.2⟩
    obtain ⟨w1, s', y', c', k1, k2, k3, k4, k5, k6, k7, k8⟩ := ring_ok ha hb hl f hr on P (D ++ [p]) ((call1 s q).set p.toNat (gt b p)) y (c - 1) hs2 (by rw [List.length_set, l1]; exact sl) nd mP pw ya cy (fun z => by
      rw [ey, mem z, mM z, List.mem_append, List.mem_singleton]
      constructor
      · rintro ⟨⟨h1, h2⟩, h3⟩; exact ⟨h1, fun z => z.elim h2 h3⟩
      · rintro ⟨h1, h2⟩; exact ⟨⟨h1, fun z => h2 (.inl z)⟩, fun z => h2 (.inr z)⟩) (fun z hz => by
      have pz : Per a z := (ring_per ha hr ((mP z).mp (List.mem_append_left _ hz)).1).1
      rw [g2 z pz.1]
      rcases List.mem_append.mp hz with h1 | h1
      · have zp : z ≠ p := fun e => pD (by rw [← e]; exact h1)
        have zq : z ≠ q := fun e => ((mM q).mp qin).2 (by rw [← e]; exact h1)
        rw [if_neg zp, call_gt hs pq pz.1, if_neg zq]
        exact dn z h1
      · rw [List.mem_singleton.mp h1, if_pos rfl])
    rw [ey] at w1 k1
    have eW : ringW b (itrs s x c) (p :: P) = q :: (List.replicate (M'.idxOf (gt b p)) p ++ ringW b M' P) := by
      show ((turnTo (itrs s x c) p).tail.getLastD 0) :: (List.replicate ((turnTo (itrs s x c) p).tail.idxOf (gt b p)) p ++ ringW b (turnTo (itrs s x c) p).tail P) = _
      rw [hM, hq]
    refine ⟨?_, s', y', c', ?_, k2, k3, k4, k5, k6, k7, fun z z0 hz => ?_⟩
    · rw [eW]
      intro z hz
      rcases List.mem_cons.mp hz with rfl | hz
      · exact pq'
      · rcases List.mem_append.mp hz with hz | hz
        · rw [List.eq_of_mem_replicate hz]; exact pp
        · exact w1 z hz
    · rw [eW]
      show callAll (call1 s q) (List.replicate (M'.idxOf (gt b p)) p ++ ringW b M' P) = s'
      rw [callAll_app, rc]
      exact k1
    · rw [k8 z z0 hz, g2 z z0, if_neg (fun e => hz (by rw [e]; exact pR)), call_gt hs pq z0, if_neg (fun e => hz (by rw [e]; exact qR))]
/-- what stays on the ring is as in b -/
theorem ring_end {a b s : List Int} (ha : Stt a) (hb : Stt b) (hs : Stt s) (hl : b.length = a.length) (sl : s.length = a.length) (f : Lead a b) (g : Lead a s) {r y : Int} {c : Nat} (hr : Per a r) (on : r ∈ ringF a r) (hy : Per a y) (cy : Cyc s y c) (mem : ∀ z, z ∈ itrs s y c ↔ z ∈ ringF a r ∧ heightF b z = 0) : ∀ z, z ∈ ringF a r → heightF b z = 0 → gt s z = gt b z := fun z zR z0 => by
  have ab : ∀ {x : Int}, Per a x → Per b x := fun {x} hx => ⟨hx.1, by rw [hl]; exact hx.2⟩
  obtain ⟨pz, ez, zz⟩ := ring_per ha hr zR
  have zin := (mem z).mpr ⟨zR, z0⟩
  have cz := (cy.at zin).1
  obtain ⟨k, cb⟩ := (height0 hb (ab pz)).mp z0
  obtain ⟨d, ca⟩ := (on_iff ha pz).mp zz
  have s1 := f.ord z k d pz cb ca
  have s2 := g.ord z c d pz cz ca
  have same : ∀ u, u ∈ itrs b z k ↔ u ∈ itrs s z c := fun u => by
    rw [(cy.at zin).2 u, mem u]
    constructor
    · intro hu
      have cu := (cb.at hu).1
      have pu : Per a u := by
        obtain ⟨i, _, rfl⟩ := itrs_mem.mp hu
        have := itr_low hb.lo (ab pz).1 (ab pz).2 i
        exact ⟨this.1, by rw [← hl]; exact this.2⟩
      refine ⟨?_, (height0 hb (ab pu)).mpr ⟨k, cu⟩⟩
      rw [← ez, cyc_ring ha pz ca, mem_turnF]
      exact s1.subset hu
    · rintro ⟨uR, u0⟩
      obtain ⟨pu, eu, _⟩ := ring_per ha hr uR
      obtain ⟨k2, cu⟩ := (height0 hb (ab pu)).mp u0
      exact f.one z u k k2 pz pu cb cu ((meet_ring ha pz pu).mp (by rw [ez, eu]))
  have el : itrs b z k = itrs s z c := by
    have flt : ∀ l : List Int, l.Sublist (itrs a z d) → l = (itrs a z d).filter fun u => decide (u ∈ l) := fun l hsub => by
      have nd := ca.2.2
      revert l
      generalize itrs a z d = m at nd
      intro l hsub
      induction hsub with
      | slnil => rfl
      | @cons l1 l2 u hs ih =>
        have n2 := List.nodup_cons.mp nd
        rw [List.filter_cons_of_neg (by simp only [decide_eq_true_eq]; exact fun z => n2.1 (hs.subset z))]
        exact ih n2.2
      | @cons_cons l1 l2 u hs ih =>
        have n2 := List.nodup_cons.mp nd
        rw [List.filter_cons_of_pos (by simp)]
        congr 1
        have := ih n2.2
        refine this.trans ?_
        refine List.filter_congr fun v hv => ?_
        have vu : v ≠ u := fun e => n2.1 (by rw [← e]; exact hv)
        simp [vu]
    rw [flt _ s1, flt _ s2]
    exact List.filter_congr fun u _ => by rw [decide_eq_decide]; exact same u
  have ek := congrArg List.length el
  rw [itrs_len, itrs_len] at ek
  subst ek
  by_cases q : 1 < k
  · have h1 := itrs_get (ns := b) (p := z) q
    rw [el, itrs_get q] at h1
    exact Option.some.inj h1
  · have e1 : k = 1 := by have := cb.1; omega
    subst e1
    have h1 : gt s z = z := cz.2.1
    have h2 : gt b z = z := cb.2.1
    rw [h1, h2]
end Lp

namespace Lp
open PySem PySem.Spec PyProof.Rows L2
local macro_rules | `(tactic| rfl') => `(tactic| try dsimp only [dVar_, gv_sh, gv_ow, gv_bx, gv_raw, gv_exn, gv_st, dC, dRaw, dOp, dUn, dTest, dTruth, dAnd, dOr, dNot, dYes, dIf, dAndV, dOrV, dNotV, dNotT, dChain, dNil, dCons, dTup, dLst, dats, dCB, dNoP, dPart, dSl, dNext, dBreak, dCont, dNever, dDrop, dRet, dRetN, dIfS, dSetG, dPar, dPar3, dAppend, dAppPop, dSetIx, dExt, dAug, dSet0, dSAdd, dSNotIn, dIter_, gi_l, gi_t, gi_b, dRng1, dRng2, dName, dGNil, dGCons, dGTup, dAsg, dFor, dWhile, dCall, dCallR, dArgs_, ga_f, ga_t, argsOf, dLc, wipeE, dListRg, dIndex, dSortSet, dSortSc, dEnum, dEnA, dZip, dIsi, dIsi2, isaT, φI, φB, φC, φNeg, add_i, add_l, add_t, mul_i, mul_l, φIx, sl_l, sl_t, eq_i, eq_s, eq_l, eq_t, eq_b, eq_n, φIsN, isN_n, isN_b, isN_i, isN_s, isN_l, isN_t, φLen, φList, φTuple, φAbs, φInt, φMax, φIsB, φIsNB, its_l, its_t, rd_sh, rd_nw, rd_br, rp_sh, rp_nw, rp_br, rp_bx, rp_raw, rp_sr, rr_sh, rr_nw, rr_br, ra_sh, ra_br, ra_bx, ra_raw, va_sh, va_nt, va_nf, va_raw, hb_n, hb_sh, hb_bx, hb_raw, hb_br, sh_n, sh_c, tr_n, tr_b, tr_i, tr_l, tr_t, ty_n, ty_b, ty_i, ty_s, ty_l, ty_t, if_ff, if_tt, Env.set, List.getElem?_cons_succ, List.getElem?_cons_zero, List.set_cons_succ, List.set_cons_zero, List.reverse_cons, List.reverse_nil, List.nil_append, List.cons_append, Option.bind_some, ite_true, ite_false])
/-- check_future: state, goal, found -/
def b_check_future : DTS := (dSeq (dSetG false 2 (dCall p_obstacle (dCons (dVar 0) (dCons (dVar 1) dNil))))
  (dIfS (dTest (dOp (φIsN true) (dVar 2) (dC .none))) dNever dNext))
abbrev k_check_future : Nat := 1
def p_check_future : DSp := fun args c Q => ∃ (d e : PyData) (ns gs : List Int), args = [.sh d, .sh e] ∧ PyData.its d = some (dI ns) ∧ PyData.its e = some (dI gs) ∧ Stt ns ∧ Stt gs ∧ gs.length = ns.length ∧ Lead ns gs ∧ Q (.sh .none) c
theorem mon_check_future : MonF p_check_future := fun args c A B h ⟨d, e, ns, gs, ea, h1, h2, h3, h4, h5, h6, q⟩ => ⟨d, e, ns, gs, ea, h1, h2, h3, h4, h5, h6, h _ _ q⟩
theorem m_check_future : ∀ args c Q, p_check_future args c Q → defF k_check_future b_check_future args c Q := by
  rintro _ c Q ⟨d, e, ns, gs, rfl, h1, h2, h3, h4, h5, h6, q⟩
  show b_check_future _ ⟨[.sh d, .sh e, .un], c⟩
  unfold b_check_future
  refine sq_ ?_
  rfl'
  refine c_obst h1 h2 h3 h4 h5 ?_
  rw [obs_lead h3 h4 h5 h6]
  rfl'
  exact q
def keyL (k : Int → Nat) (p : Int) : List Int := [-((k p : Nat) : Int), p]
def Srt (k : Int → Nat) (X : List Int) : Prop := (X.map (keyL k)).Pairwise (fun x y => HT.lexLt y x = false)
open Classical in
noncomputable def srtF (k : Int → Nat) (ps : List Int) : List Int := if h : ∃ X : List Int, X.Perm ps ∧ Srt k X then Classical.choose h else []
theorem key_back (k : Int → Nat) (X : List Int) : (X.map (keyL k)).map (fun l => l.getD 1 0) = X := by
  rw [List.map_map]
  exact (List.map_congr_left fun p _ => rfl).trans (List.map_id X)
theorem key_nd {k : Int → Nat} {X : List Int} (h : X.Nodup) : (X.map (keyL k)).Nodup := by
  refine List.pairwise_map.mpr (h.imp fun {a b} hab e => hab ?_)
  have := congrArg (fun l : List Int => l.getD 1 0) e
  exact this
theorem srt_eq {k : Int → Nat} {ps X : List Int} (nd : ps.Nodup) (h1 : X.Perm ps) (h2 : Srt k X) : X = srtF k ps := by
  have h : ∃ X : List Int, X.Perm ps ∧ Srt k X := ⟨X, h1, h2⟩
  unfold srtF
  rw [dif_pos h]
  obtain ⟨g1, g2⟩ := Classical.choose_spec h
  generalize Classical.choose h = Y at g1 g2
  have e := lex_uniq (X.map (keyL k)) (Y.map (keyL k)) (key_nd (h1.nodup_iff.mpr nd)) (key_nd (g1.nodup_iff.mpr nd)) h2 g2 fun z => by
    rw [List.mem_map, List.mem_map]
    constructor
    · rintro ⟨x, hx, rfl⟩
      exact ⟨x, g1.mem_iff.mpr (h1.mem_iff.mp hx), rfl⟩
    · rintro ⟨x, hx, rfl⟩
      exact ⟨x, h1.mem_iff.mpr (g1.mem_iff.mp hx), rfl⟩
  rw [← key_back k X, e, key_back]
theorem key_sorted {k : Int → Nat} {ps : List Int} {mss : List (List Int)} (hp : mss.Perm (ps.map (keyL k))) (pw : mss.Pairwise (fun x y => HT.lexLt y x = false)) : ∃ X : List Int, mss = X.map (keyL k) ∧ X.Perm ps ∧ X.Pairwise (fun x y => k y ≤ k x) ∧ Srt k X := by
  have form : ∀ l ∈ mss, l = keyL k (l.getD 1 0) := fun l hl => by
    obtain ⟨p, _, rfl⟩ := List.mem_map.mp (hp.mem_iff.mp hl)
    rfl
  have e : mss = (mss.map fun l => l.getD 1 0).map (keyL k) := by
    rw [List.map_map]
    exact (List.map_id mss).symm.trans (List.map_congr_left fun l hl => form l hl)
  refine ⟨mss.map fun l => l.getD 1 0, e, ?_, ?_, by unfold Srt; rw [← e]; exact pw⟩
  · have := hp.map fun l : List Int => l.getD 1 0
    rw [List.map_map] at this
    have e2 : ps.map ((fun l : List Int => l.getD 1 0) ∘ keyL k) = ps := (List.map_congr_left fun p _ => rfl).trans (List.map_id ps)
    rw [e2] at this
    exact this
  · rw [e] at pw
    have := List.pairwise_map.mp pw
    refine this.imp fun {x y} hxy => ?_
    unfold keyL at hxy
    rw [HT.lexLt_cons] at hxy
    by_cases q : -((k y : Nat) : Int) = -((k x : Nat) : Int)
    · omega
    · rw [if_neg q] at hxy
      have := of_decide_eq_false hxy
      omega
theorem φSorted_key {k : Int → Nat} {ps : List Int} {Q : R → Prop} (q : ∀ X : List Int, X.Perm ps → X.Pairwise (fun x y => k y ≤ k x) → Srt k X → Q (.nw (dT (X.map (keyL k))))) : φSorted [.list (dT (ps.map (keyL k)))] Q := by
  unfold φSorted
  dsimp only
  cases ps with
  | nil =>
    show ∀ ms : List Int, ms.Perm [] → ms.Pairwise (· ≤ ·) → Q (.nw (dI ms))
    intro ms hp _
    rw [hp.eq_nil]
    exact q [] (List.Perm.refl _) List.Pairwise.nil List.Pairwise.nil
  | cons p ps =>
    have e1 : intsD (dT ((p :: ps).map (keyL k))) = none := rfl
    rw [e1, tupsD_dT _ (fun r hr => by
      obtain ⟨z, _, rfl⟩ := List.mem_map.mp hr
      exact fun z => nomatch z)]
    show ∀ mss : List (List Int), mss.Perm _ → mss.Pairwise _ → Q (.nw (dT mss))
    intro mss hp pw
    obtain ⟨X, rfl, h1, h2, h3⟩ := key_sorted hp pw
    exact q X h1 h2 h3
theorem rep_list (x : Int) (k : Nat) : (List.replicate k [PyData.int x]).flatten = dI (List.replicate k x) := rep_one k x
/-- outside_calls: state, goal, outside, person, word, unused -/
def b_outside_calls : DTS := (dSeq (dSetG false 2 (dLc (dRng1 (dCons (dCB φLen (dCons (dVar 0) dNil)) dNil)) (dName 3) (dTest (dOp (φB fun i j => decide (j < i)) (dCall p_height (dCons (dVar 0) (dCons (dVar 3) dNil))) (dC (.int 0)))) (dTup (dCons (dUn φNeg (dCall p_height (dCons (dVar 0) (dCons (dVar 3) dNil)))) (dCons (dVar 3) dNil))) [3]))
  (dSeq (dSetG true 4 (dLst dNil))
  (dSeq (dFor (dIter (dCB φSorted (dCons (dVar 2) dNil))) (dGTup 2 (dGCons (dName 5) (dGCons (dName 3) dGNil))) (dExt 4 (dOp φMul (dLst (dCons (dVar 3) dNil)) (dIndex (dCall p_way (dCons (dVar 0) (dCons (dVar 3) dNil))) (dOp φIx (dVar 1) (dVar 3))))))
  (dRet (dVar 4)))))
abbrev k_outside_calls : Nat := 4
def offL (a : List Int) : List Int := ((List.range a.length).filter fun j : Nat => decide (0 < heightF a (j : Int))).map fun j : Nat => (j : Int)
theorem offL_mem {a : List Int} {x : Int} : x ∈ offL a ↔ Per a x ∧ 0 < heightF a x := by
  unfold offL
  rw [List.mem_map]
  constructor
  · rintro ⟨j, hj, rfl⟩
    have q := List.mem_filter.mp hj
    exact ⟨per_nat (List.mem_range.mp q.1), of_decide_eq_true q.2⟩
  · rintro ⟨hp, e⟩
    have := hp.1; have := hp.2
    have ex : ((x.toNat : Nat) : Int) = x := by omega
    exact ⟨x.toNat, List.mem_filter.mpr ⟨List.mem_range.mpr (by omega), decide_eq_true (by rw [ex]; exact e)⟩, ex⟩
theorem offL_nd (a : List Int) : (offL a).Nodup := by
  unfold offL
  refine List.pairwise_map.mpr (List.Pairwise.imp (fun {a b} hab e => ?_) (List.Pairwise.filter _ List.pairwise_lt_range))
  omega
def p_outside_calls : DSp := fun args c Q => ∃ (d e : PyData) (ns gs : List Int), args = [.sh d, .sh e] ∧ PyData.its d = some (dI ns) ∧ PyData.its e = some (dI gs) ∧ Stt ns ∧ gs.length = ns.length ∧ ns.length ≤ 60 ∧ OnWays ns gs ∧
  ∀ X, X.Perm (offL ns) → X.Pairwise (fun x y => heightF ns y ≤ heightF ns x) → (outW ns gs X).length ≤ 3600 → X = srtF (heightF ns) (offL ns) → Q (.nw (dI (outW ns gs X))) c
theorem mon_outside_calls : MonF p_outside_calls := fun args c A B h ⟨d, e, ns, gs, ea, h1, h2, h3, h4, h5, h6, q⟩ => ⟨d, e, ns, gs, ea, h1, h2, h3, h4, h5, h6, fun X a b l m => h _ _ (q X a b l m)⟩
theorem out_loop {d e : PyData} {ns gs : List Int} (hd : PyData.its d = some (dI ns)) (he : PyData.its e = some (dI gs)) (hs : Stt ns) (hl : gs.length = ns.length) (hw : OnWays ns gs) (h60 : ns.length ≤ 60) {x2 : SV} {Δ : DEnds} {c : Nat} : ∀ (X acc : List Int) (x3 x5 : SV), (∀ x ∈ X, Per ns x) → acc.length + 60 * X.length ≤ 100000 →
    (∀ x3 x5, (acc ++ outW ns gs X).length ≤ acc.length + 60 * X.length → Δ.nx ⟨[.sh d, .sh e, x2, x3, .ow (dI (acc ++ outW ns gs X)), x5], c⟩) →
    forD (dGTup 2 (dGCons (dName 5) (dGCons (dName 3) dGNil))) (dExt 4 (dOp φMul (dLst (dCons (dVar 3) dNil)) (dIndex (dCall p_way (dCons (dVar 0) (dCons (dVar 3) dNil))) (dOp φIx (dVar 1) (dVar 3))))) Δ (dT (X.map (keyL (heightF ns)))) ⟨[.sh d, .sh e, x2, x3, .ow (dI acc), x5], c⟩
  | [], acc, x3, x5, _, _, q => by
    have := q x3 x5 (by simp [outW])
    unfold outW at this
    rw [List.flatMap_nil, List.append_nil] at this
    exact this
  | x :: X, acc, x3, x5, hX, hb, q => by
    rw [List.length_cons] at hb q
    have px := hX x List.mem_cons_self
    have pg : Per gs x := ⟨px.1, by rw [hl]; exact px.2⟩
    have rl := (route_len hs (hs.gt px)).2
    have inn := hw x px
    have il := List.idxOf_lt_length_of_mem inn
    show forD _ _ _ (.tuple [.int _, .int x] :: dT (X.map (keyL (heightF ns)))) _
    refine for_cons ?_
    rfl'
    refine ⟨rfl, ?_⟩
    refine c_way hd hs px ?_
    rfl'
    rw [he]
    refine ⟨_, atI_dI pg.1 pg.2, ?_⟩
    rw [intsD_dI]
    refine ⟨inn, ?_⟩
    rfl'
    rw [Int.toNat_natCast]
    refine ⟨⟨by omega, by omega, show _ ≤ 16777216 by rw [List.length_singleton]; omega⟩, ?_⟩
    rw [rep_list]
    refine ⟨show _ ≤ 16777216 by rw [dI_len, dI_len, List.length_replicate]; omega, ?_⟩
    rw [dI_app]
    have ea : acc ++ outW ns gs (x :: X) = (acc ++ List.replicate ((routeF ns (gt ns x)).idxOf (gt gs x)) x) ++ outW ns gs X := by
      unfold outW
      rw [List.flatMap_cons, List.append_assoc]
    have ll : (acc ++ List.replicate ((routeF ns (gt ns x)).idxOf (gt gs x)) x).length ≤ acc.length + 60 := by rw [List.length_append, List.length_replicate]; omega
    refine out_loop hd he hs hl hw h60 X _ _ _ (fun z hz => hX z (List.mem_cons_of_mem _ hz)) (by omega) fun x3 x5 hlen => ?_
    rw [← ea] at hlen ⊢
    exact q x3 x5 (by omega)
theorem m_outside_calls : ∀ args c Q, p_outside_calls args c Q → defF k_outside_calls b_outside_calls args c Q := by
  rintro _ c Q ⟨d, e, ns, gs, rfl, h1, h2, h3, h4, h5, h6, q⟩
  show b_outside_calls _ ⟨[.sh d, .sh e, .un, .un, .un, .un], c⟩
  unfold b_outside_calls
  refine sq_ ?_
  rfl'
  rw [h1]
  dsimp only
  rw [dI_len]
  refine ⟨h3.rg, ?_⟩
  rw [Int.toNat_natCast, rg0]
  refine lc_if (fun i : Nat => PyData.int (i : Nat)) (fun i : Nat => .tuple (dI (keyL (heightF ns) (i : Int)))) (fun i : Nat => decide (0 < heightF ns (i : Int))) (List.range ns.length) [] (fun x hx Y N hY hN => ?_) (by rw [List.length_range]; show 0 + _ ≤ _; omega) ?_
  · have px := per_nat (List.mem_range.mp hx)
    rfl'
    refine c_height h1 h3 px ?_
    rfl'
    refine it_2 (fun q => ?_) fun q => ?_
    · refine c_height h1 h3 px ?_
      rfl'
      exact hY (decide_eq_true (by omega)) _ _ rfl rfl
    · exact hN (decide_eq_false (by omega)) _ rfl
  have eL : ((List.range ns.length).filter (fun i : Nat => decide (0 < heightF ns (i : Int)))).map (fun i : Nat => PyData.tuple (dI (keyL (heightF ns) (i : Int)))) = dT ((offL ns).map (keyL (heightF ns))) := by
    unfold offL
    show _ = List.map _ (List.map _ (List.map _ _))
    rw [List.map_map, List.map_map]; rfl
  rw [List.nil_append, eL]
  rfl'
  refine sq_ ?_
  rfl'
  refine sqa_ fun D hD => ?_
  rfl'
  refine φSorted_key fun X hX pw sr => ?_
  rfl'
  refine ⟨rfl, ?_⟩
  have xl : X.length ≤ ns.length := by
    have h1 := hX.length_eq
    have h2 : (offL ns).length ≤ ns.length := low_len ns.length _ (offL_nd ns) fun z hz => (offL_mem.mp hz).1
    omega
  refine out_loop h1 h2 h3 h4 h6 h5 X [] _ _ (fun x hx => (offL_mem.mp (hX.mem_iff.mp hx)).1) (by show 0 + _ ≤ _; omega) fun x3 x5 hlen => hD _ ?_
  rw [List.nil_append] at hlen ⊢
  rfl'
  refine q X hX pw ?_ (srt_eq (offL_nd ns) hX sr)
  have : ([] : List Int).length + 60 * X.length ≤ 3600 := by show 0 + _ ≤ _; omega
  omega
/-- ring_calls: ring, goal, leaving, person, members, word, unused -/
def b_ring_calls : DTS := (dSeq (dSetG false 2 (dLc (dIter (dVar 0)) (dName 3) (dTest (dOp (φB fun i j => decide (j < i)) (dCall p_height (dCons (dVar 1) (dCons (dVar 3) dNil))) (dC (.int 0)))) (dTup (dCons (dUn φNeg (dCall p_height (dCons (dVar 1) (dCons (dVar 3) dNil)))) (dCons (dVar 3) dNil))) [3]))
  (dSeq (dSetG false 4 (dCB φList (dCons (dVar 0) dNil)))
  (dSeq (dSetG true 5 (dLst dNil))
  (dSeq (dFor (dIter (dCB φSorted (dCons (dVar 2) dNil))) (dGTup 2 (dGCons (dName 6) (dGCons (dName 3) dGNil))) (dSeq (dSetG false 4 (dSl φSl (dCall p_turned (dCons (dVar 4) (dCons (dVar 3) dNil))) (dPart (dC (.int 1))) dNoP))
  (dSeq (dAppend 5 (dOp φIx (dVar 4) (dUn φNeg (dC (.int 1)))))
  (dExt 5 (dOp φMul (dLst (dCons (dVar 3) dNil)) (dIndex (dVar 4) (dOp φIx (dVar 1) (dVar 3))))))))
  (dRet (dVar 5))))))
abbrev k_ring_calls : Nat := 5
/-- a goal that keeps a ring's people together -/
structure Goal (b R : List Int) : Prop where
  st : Stt b
  nd : R.Nodup
  ne : R ≠ []
  per : ∀ z ∈ R, Per b z
  cl : ∀ z ∈ R, gt b z ∈ R
def leavL (b R : List Int) : List Int := R.filter fun p => decide (0 < heightF b p)
def p_ring_calls : DSp := fun args c Q => ∃ (e : PyData) (R gs : List Int), args = [.sh (.tuple (dI R)), .sh e] ∧ PyData.its e = some (dI gs) ∧ Goal gs R ∧ R.length ≤ 60 ∧
  ∀ P, P.Perm (leavL gs R) → P.Pairwise (fun p q => heightF gs q ≤ heightF gs p) → (ringW gs R P).length ≤ 3660 → P = srtF (heightF gs) (leavL gs R) → Q (.nw (dI (ringW gs R P))) c
theorem mon_ring_calls : MonF p_ring_calls := fun args c A B h ⟨e, R, gs, ea, h1, h2, h3, q⟩ => ⟨e, R, gs, ea, h1, h2, h3, fun P a b l m => h _ _ (q P a b l m)⟩
theorem tail_turn {M : List Int} (nd : M.Nodup) {p : Int} (hp : p ∈ M) : turnTo M p = p :: (turnTo M p).tail ∧ (turnTo M p).tail.Nodup ∧ (∀ z, z ∈ (turnTo M p).tail ↔ z ∈ M ∧ z ≠ p) ∧ (turnTo M p).tail.length + 1 = M.length := by
  have il := List.idxOf_lt_length_of_mem hp
  have e : turnTo M p = p :: (turnTo M p).tail := by
    unfold turnTo
    rw [← List.getElem_cons_drop (h := il), List.getElem_idxOf il]; rfl
  have nd2 : (turnTo M p).Nodup := by
    unfold turnTo
    refine (List.perm_append_comm.trans ?_).nodup_iff.mpr nd
    rw [List.take_append_drop]
  have n3 := nd2
  rw [e] at n3
  have n4 := List.nodup_cons.mp n3
  refine ⟨e, n4.2, fun z => ?_, ?_⟩
  · have hz : z ∈ turnTo M p ↔ z ∈ M := mem_turnTo
    rw [← hz]
    constructor
    · intro h
      exact ⟨by rw [e]; exact List.mem_cons_of_mem _ h, fun e2 => n4.1 (e2 ▸ h)⟩
    · rintro ⟨h1, h2⟩
      rw [e] at h1
      exact (List.mem_cons.mp h1).resolve_left h2
  · have := turnTo_len M p
    have l2 := congrArg List.length e
    rw [List.length_cons] at l2
    omega
theorem ring_loop {e : PyData} {R gs : List Int} (he : PyData.its e = some (dI gs)) (G : Goal gs R) {x2 : SV} {Δ : DEnds} {c : Nat} : ∀ (P D M acc : List Int) (x3 x6 : SV), (D ++ P).Nodup → (∀ p, p ∈ D ++ P ↔ p ∈ R ∧ 0 < heightF gs p) → (D ++ P).Pairwise (fun p q => heightF gs q ≤ heightF gs p) → M.Nodup → M.length ≤ 60 → (∀ z, z ∈ M ↔ z ∈ R ∧ z ∉ D) → acc.length + 61 * P.length ≤ 100000 →
    (∀ x3 x4 x6, (acc ++ ringW gs M P).length ≤ acc.length + 61 * P.length → Δ.nx ⟨[.sh (.tuple (dI R)), .sh e, x2, x3, x4, .ow (dI (acc ++ ringW gs M P)), x6], c⟩) →
    forD (dGTup 2 (dGCons (dName 6) (dGCons (dName 3) dGNil))) (dSeq (dSetG false 4 (dSl φSl (dCall p_turned (dCons (dVar 4) (dCons (dVar 3) dNil))) (dPart (dC (.int 1))) dNoP))
    (dSeq (dAppend 5 (dOp φIx (dVar 4) (dUn φNeg (dC (.int 1)))))
    (dExt 5 (dOp φMul (dLst (dCons (dVar 3) dNil)) (dIndex (dVar 4) (dOp φIx (dVar 1) (dVar 3))))))) Δ (dT (P.map (keyL (heightF gs)))) ⟨[.sh (.tuple (dI R)), .sh e, x2, x3, .sh (.list (dI M)), .ow (dI acc), x6], c⟩
  | [], D, M, acc, x3, x6, _, _, _, _, _, _, _, q => by
    have := q x3 (.sh (.list (dI M))) x6 (by unfold ringW; simp)
    unfold ringW at this
    rw [List.append_nil] at this
    exact this
  | p :: P, D, M, acc, x3, x6, nd, mP, pw, ndM, ml, mM, hb, q => by
    rw [List.length_cons] at hb q
    obtain ⟨pR, ph⟩ := (mP p).mp (List.mem_append_right _ List.mem_cons_self)
    have pD : p ∉ D := fun z => (List.nodup_append.mp nd).2.2 p z p List.mem_cons_self rfl
    have pM : p ∈ M := (mM p).mpr ⟨pR, pD⟩
    have pp := G.per p pR
    obtain ⟨t1, t2, t3, t4⟩ := tail_turn ndM pM
    have hb1 : heightF gs (gt gs p) = heightF gs p - 1 := height_itr G.st pp 1
    have vD : gt gs p ∉ D := fun z => by
      have h2 := (List.pairwise_append.mp pw).2.2 _ z p List.mem_cons_self
      omega
    have vp : gt gs p ≠ p := fun e => by rw [e] at hb1; omega
    have vM : gt gs p ∈ (turnTo M p).tail := (t3 _).mpr ⟨(mM _).mpr ⟨G.cl p pR, vD⟩, vp⟩
    have il := List.idxOf_lt_length_of_mem vM
    generalize hM : (turnTo M p).tail = M' at t1 t2 t3 t4 vM il
    have hne : M' ≠ [] := fun z => by rw [z] at vM; cases vM
    obtain ⟨l, hl⟩ : ∃ l, M'.getLast? = some l := ⟨_, List.getLast?_eq_some_getLast hne⟩
    have eW : ringW gs M (p :: P) = l :: (List.replicate (M'.idxOf (gt gs p)) p ++ ringW gs M' P) := by
      show ((turnTo M p).tail.getLastD 0) :: (List.replicate ((turnTo M p).tail.idxOf (gt gs p)) p ++ ringW gs (turnTo M p).tail P) = _
      rw [hM, List.getLastD_eq_getLast?, hl]; rfl
    show forD _ _ _ (.tuple [.int _, .int p] :: dT (P.map (keyL (heightF gs)))) _
    refine for_cons ?_
    rfl'
    refine ⟨rfl, ?_⟩
    refine sq_ ?_
    rfl'
    refine ⟨true, M, p, rfl, pM, by omega, ?_⟩
    dsimp only [rq]
    rfl'
    rw [cutD_from _ _ (by decide), dI_drop, t1, show (1 : Int).toNat = 1 from rfl, List.drop_succ_cons, List.drop_zero]
    refine sq_ ?_
    rfl'
    refine ⟨_, atI_last (dI_last hl), ?_⟩
    refine ⟨show _ < 16777216 by rw [dI_len]; omega, ?_⟩
    rw [dI_snoc]
    rfl'
    rw [he]
    refine ⟨_, atI_dI pp.1 pp.2, ?_⟩
    rw [intsD_dI]
    refine ⟨vM, ?_⟩
    rfl'
    rw [Int.toNat_natCast]
    refine ⟨⟨by omega, by omega, show _ ≤ 16777216 by rw [List.length_singleton]; omega⟩, ?_⟩
    rw [rep_list]
    refine ⟨show _ ≤ 16777216 by rw [dI_len, dI_len, List.length_append, List.length_singleton, List.length_replicate]; omega, ?_⟩
    rw [dI_app]
    have ea : acc ++ ringW gs M (p :: P) = (acc ++ [l] ++ List.replicate (M'.idxOf (gt gs p)) p) ++ ringW gs M' P := by rw [eW]; simp
    have ll : (acc ++ [l] ++ List.replicate (M'.idxOf (gt gs p)) p).length ≤ acc.length + 61 := by rw [List.length_append, List.length_append, List.length_singleton, List.length_replicate]; omega
    have e2 : D ++ p :: P = (D ++ [p]) ++ P := by simp
    rw [e2] at nd mP pw
    refine ring_loop he G P (D ++ [p]) M' _ _ _ nd mP pw t2 (by omega) (fun z => ?_) (by omega) fun x3 x4 x6 hlen => ?_
    · rw [t3 z, mM z, List.mem_append, List.mem_singleton]
      constructor
      · rintro ⟨⟨h1, h2⟩, h3⟩; exact ⟨h1, fun z => z.elim h2 h3⟩
      · rintro ⟨h1, h2⟩; exact ⟨⟨h1, fun z => h2 (.inl z)⟩, fun z => h2 (.inr z)⟩
    · rw [← ea] at hlen ⊢
      exact q x3 x4 x6 (by omega)
theorem m_ring_calls : ∀ args c Q, p_ring_calls args c Q → defF k_ring_calls b_ring_calls args c Q := by
  rintro _ c Q ⟨e, R, gs, rfl, h1, G, h3, q⟩
  show b_ring_calls _ ⟨[.sh (.tuple (dI R)), .sh e, .un, .un, .un, .un, .un], c⟩
  unfold b_ring_calls
  refine sq_ ?_
  rfl'
  refine lc_if PyData.int (fun p => .tuple (dI (keyL (heightF gs) p))) (fun p => decide (0 < heightF gs p)) R [] (fun x hx Y N hY hN => ?_) (by show 0 + _ ≤ _; omega) ?_
  · have px := G.per x hx
    rfl'
    refine c_height h1 G.st px ?_
    rfl'
    refine it_2 (fun q => ?_) fun q => ?_
    · refine c_height h1 G.st px ?_
      rfl'
      exact hY (decide_eq_true (by omega)) _ _ rfl rfl
    · exact hN (decide_eq_false (by omega)) _ rfl
  have eL : (R.filter (fun p => decide (0 < heightF gs p))).map (fun p => PyData.tuple (dI (keyL (heightF gs) p))) = dT ((leavL gs R).map (keyL (heightF gs))) := by
    unfold leavL
    show _ = List.map _ (List.map _ _)
    rw [List.map_map]; rfl
  rw [List.nil_append, eL]
  rfl'
  refine sq_ ?_
  rfl'
  refine sq_ ?_
  rfl'
  refine sqa_ fun D hD => ?_
  rfl'
  refine φSorted_key fun P hP pw sr => ?_
  rfl'
  refine ⟨rfl, ?_⟩
  have lsub : (leavL gs R).Sublist R := List.filter_sublist
  have pl : P.length ≤ R.length := by rw [hP.length_eq]; exact lsub.length_le
  refine ring_loop h1 G P [] R [] _ _ (by rw [List.nil_append]; exact hP.nodup_iff.mpr (G.nd.sublist lsub)) (fun p => ?_) (by rw [List.nil_append]; exact pw) G.nd h3 (fun z => ⟨fun h => ⟨h, List.not_mem_nil⟩, fun h => h.1⟩) (by show 0 + _ ≤ _; omega) fun x3 x4 x6 hlen => hD _ ?_
  · rw [List.nil_append, hP.mem_iff]
    unfold leavL
    rw [List.mem_filter, decide_eq_true_iff]
  · rw [List.nil_append] at hlen ⊢
    rfl'
    refine q P hP pw ?_ (srt_eq (G.nd.sublist lsub) hP sr)
    have : ([] : List Int).length + 61 * P.length ≤ 3660 := by show 0 + _ ≤ _; omega
    omega
end Lp

namespace Lp
open PySem PySem.Spec PyProof.Rows L2
local macro_rules | `(tactic| rfl') => `(tactic| try dsimp only [dVar_, gv_sh, gv_ow, gv_bx, gv_raw, gv_exn, gv_st, dC, dRaw, dOp, dUn, dTest, dTruth, dAnd, dOr, dNot, dYes, dIf, dAndV, dOrV, dNotV, dNotT, dChain, dNil, dCons, dTup, dLst, dats, dCB, dNoP, dPart, dSl, dNext, dBreak, dCont, dNever, dDrop, dRet, dRetN, dIfS, dSetG, dPar, dPar3, dAppend, dAppPop, dSetIx, dExt, dAug, dSet0, dSAdd, dSNotIn, dIter_, gi_l, gi_t, gi_b, dRng1, dRng2, dName, dGNil, dGCons, dGTup, dAsg, dFor, dWhile, dCall, dCallR, dArgs_, ga_f, ga_t, argsOf, dLc, wipeE, dListRg, dIndex, dSortSet, dSortSc, dEnum, dEnA, dZip, dIsi, dIsi2, isaT, φI, φB, φC, φNeg, add_i, add_l, add_t, mul_i, mul_l, φIx, sl_l, sl_t, eq_i, eq_s, eq_l, eq_t, eq_b, eq_n, φIsN, isN_n, isN_b, isN_i, isN_s, isN_l, isN_t, φLen, φList, φTuple, φAbs, φInt, φMax, φIsB, φIsNB, its_l, its_t, rd_sh, rd_nw, rd_br, rp_sh, rp_nw, rp_br, rp_bx, rp_raw, rp_sr, rr_sh, rr_nw, rr_br, ra_sh, ra_br, ra_bx, ra_raw, va_sh, va_nt, va_nf, va_raw, hb_n, hb_sh, hb_bx, hb_raw, hb_br, sh_n, sh_c, tr_n, tr_b, tr_i, tr_l, tr_t, ty_n, ty_b, ty_i, ty_s, ty_l, ty_t, if_ff, if_tt, Env.set, List.getElem?_cons_succ, List.getElem?_cons_zero, List.set_cons_succ, List.set_cons_zero, List.reverse_cons, List.reverse_nil, List.nil_append, List.cons_append, Option.bind_some, ite_true, ite_false])
theorem agree_cyc {a s : List Int} {x : Int} {d : Nat} (cy : Cyc a x d) (ag : ∀ z ∈ itrs a x d, gt s z = gt a z) : Cyc s x d ∧ itrs s x d = itrs a x d := by
  have same : ∀ k, itr s x k = itr a x k := fun k => by
    induction k with
    | zero => rfl
    | succ k ih =>
      show gt s (itr s x k) = gt a (itr a x k)
      rw [ih]; exact ag _ (cy.all k)
  have e : itrs s x d = itrs a x d := by unfold itrs; exact List.map_congr_left fun k _ => same k
  exact ⟨⟨cy.1, by rw [same]; exact cy.2.1, by rw [e]; exact cy.2.2⟩, e⟩
/-- a word on its way to b: the people off the rings and of the rings DS are there, those of LS untouched -/
structure Way (a b : List Int) (DS LS : List (List Int)) (wd : List Int) : Prop where
  low : Low a.length wd
  off : ∀ y, Per a y → y ∉ ringF a y → gt (callAll a wd) y = gt b y
  dn : ∀ R ∈ DS, ∀ z ∈ R, gt (callAll a wd) z = gt b z
  un : ∀ R ∈ LS, ∀ z ∈ R, gt (callAll a wd) z = gt a z
theorem ring_goal {a b : List Int} (ha : Stt a) (hb : Stt b) (hl : b.length = a.length) (f : Lead a b) {r : Int} (hr : Per a r) : Goal b (ringF a r) := by
  obtain ⟨c, er, cy, h0, h1⟩ := headF_form ha.lo hr.1 hr.2
  refine ⟨hb, by rw [er]; exact cy.2.2, ring_ne ha hr, fun z hz => ?_, fun z hz => ?_⟩
  · have := (ring_per ha hr hz).1
    exact ⟨this.1, by rw [hl]; exact this.2⟩
  · obtain ⟨pz, ez, zz⟩ := ring_per ha hr hz
    obtain ⟨m, _, e⟩ := f.ways z pz
    obtain ⟨d, cz⟩ := (on_iff ha pz).mp zz
    rw [e, ← ez, cyc_ring ha pz cz, mem_turnF]
    exact cz.all m
theorem way_step {a b : List Int} (ha : Stt a) (hb : Stt b) (hl : b.length = a.length) (f : Lead a b) {RS DS LS : List (List Int)} (hR : RingsOf a RS) {R wd P : List Int} (e : DS ++ R :: LS = RS) (w : Way a b DS (R :: LS) wd) (hP : P.Perm (leavL b R)) (pw : P.Pairwise (fun p q => heightF b q ≤ heightF b p)) : Way a b (DS ++ [R]) LS (wd ++ ringW b R P) := by
  have hm : R ∈ RS := by rw [← e]; exact List.mem_append_right _ List.mem_cons_self
  obtain ⟨j, hj, ej⟩ := (hR.2.2 R).mp hm
  have pj := per_nat hj
  obtain ⟨d, er, cy, h0, h1⟩ := headF_form ha.lo pj.1 pj.2
  have eR : R = itrs a (headF a (j : Int)) d := by rw [← ej, er]
  have ph : Per a (headF a (j : Int)) := ⟨h0, h1⟩
  have rh : ringF a (headF a (j : Int)) = R := by
    have hin : headF a (j : Int) ∈ ringF a (j : Int) := by rw [er]; exact itrs_mem.mpr ⟨0, cy.1, rfl⟩
    rw [(ring_per ha pj hin).2.1, ej]
  have hin : headF a (j : Int) ∈ ringF a (headF a (j : Int)) := by rw [rh, eR]; exact itrs_mem.mpr ⟨0, cy.1, rfl⟩
  have hs : Stt (callAll a wd) := ha.callAll w.low
  have sl := callAll_len wd a
  obtain ⟨cs, es⟩ := agree_cyc (s := callAll a wd) cy fun z hz => w.un R List.mem_cons_self z (by rw [eR]; exact hz)
  have ndR : R.Nodup := by rw [eR]; exact cy.2.2
  have mP : ∀ p, p ∈ P ↔ p ∈ R ∧ 0 < heightF b p := fun p => by
    rw [hP.mem_iff]
    unfold leavL
    rw [List.mem_filter, decide_eq_true_iff]
  have ndP : P.Nodup := hP.nodup_iff.mpr (ndR.sublist List.filter_sublist)
  obtain ⟨w1, s', y, c', k1, k2, k3, k4, k5, k6, k7, k8⟩ := ring_ok ha hb hl f ph hin P [] (callAll a wd) (headF a (j : Int)) d hs sl (by rw [List.nil_append]; exact ndP) (fun p => by rw [List.nil_append, rh]; exact mP p) (by rw [List.nil_append]; exact pw) ph cs (fun z => by
    rw [es, rh, ← eR]
    exact ⟨fun h => ⟨h, List.not_mem_nil⟩, fun h => h.1⟩) (fun p hp => nomatch hp)
  rw [es, ← eR] at w1 k1
  rw [rh] at k6 k8
  rw [List.nil_append] at k7
  have ew : callAll a (wd ++ ringW b R P) = s' := by rw [callAll_app]; exact k1
  have lowW : Low a.length (wd ++ ringW b R P) := fun z hz => by
    rcases List.mem_append.mp hz with h | h
    · exact w.low z h
    · exact w1 z h
  have ld : Lead a s' := by rw [← ew]; exact lead_calls _ ha lowW
  have fin := ring_end ha hb k2 hl k3 f ld ph hin k4 k5 (by rw [rh]; exact k6)
  rw [rh] at fin
  have other : ∀ S ∈ RS, S ≠ R → ∀ z ∈ S, 0 ≤ z ∧ z ∉ R := fun S hS ne z hz => by
    obtain ⟨i, hi, ei⟩ := (hR.2.2 S).mp hS
    have a1 := ring_per ha (per_nat hi) (by rw [ei]; exact hz)
    refine ⟨a1.1.1, fun hzR => ne ?_⟩
    have a2 := ring_per ha pj (by rw [ej]; exact hzR)
    rw [← ei, ← ej, ← a1.2.1, a2.2.1]
  have ndRS := hR.1
  rw [← e] at ndRS
  have nd1 := List.nodup_append.mp ndRS
  have nd2 := List.nodup_cons.mp nd1.2.1
  refine ⟨lowW, fun y hy hny => ?_, fun S hS z hz => ?_, fun S hS z hz => ?_⟩
  · rw [ew, k8 y hy.1 fun z => hny ?_]
    · exact w.off y hy hny
    · have := ring_per ha pj (by rw [ej]; exact z)
      exact this.2.2
  · rw [ew]
    rcases List.mem_append.mp hS with h | h
    · have ne : S ≠ R := fun z => nd1.2.2 S h R List.mem_cons_self z
      have o := other S (by rw [← e]; exact List.mem_append_left _ h) ne z hz
      rw [k8 z o.1 o.2]
      exact w.dn S h z hz
    · rw [List.mem_singleton.mp h] at hz
      by_cases q : heightF b z = 0
      · exact fin z hz q
      · exact k7 z ((mP z).mpr ⟨hz, by omega⟩)
  · rw [ew]
    have ne : S ≠ R := fun z => nd2.1 (by rw [← z]; exact hS)
    have o := other S (by rw [← e]; exact List.mem_append_right _ (List.mem_cons_of_mem _ hS)) ne z hz
    rw [k8 z o.1 o.2]
    exact w.un S (List.mem_cons_of_mem _ hS) z hz
theorem way_begin {a b : List Int} (ha : Stt a) (f : OnWays a b) {RS : List (List Int)} (hR : RingsOf a RS) {X : List Int} (hX : X.Perm (offL a)) (pw : X.Pairwise (fun x y => heightF a y ≤ heightF a x)) : Way a b [] RS (outW a b X) := by
  have mX : ∀ x, x ∈ X ↔ Per a x ∧ 0 < heightF a x := fun x => hX.mem_iff.trans offL_mem
  obtain ⟨s', k1, k2, k3⟩ := out_ok ha f X [] a rfl ha.lo (by rw [List.nil_append]; exact hX.nodup_iff.mpr (offL_nd a)) (fun x hx => (mX x).mp (by rw [List.nil_append] at hx; exact hx)) (by rw [List.nil_append]; exact pw) (fun y _ => by rw [if_neg List.not_mem_nil])
  rw [List.nil_append] at k3
  refine ⟨outW_low fun x hx => ((mX x).mp hx).1, fun y hy hny => ?_, (fun R hR => nomatch hR), fun R hRm z hz => ?_⟩
  · rw [k1, k3 y hy.1, if_pos ((mX y).mpr ⟨hy, (high_on ha hy).mpr fun o => hny ((on_iff ha hy).mpr o)⟩)]
  · obtain ⟨i, hi, ei⟩ := (hR.2.2 R).mp hRm
    obtain ⟨pz, _, zz⟩ := ring_per ha (per_nat hi) (by rw [ei]; exact hz)
    rw [k1, k3 z pz.1, if_neg fun m => (high_on ha pz).mp ((mX z).mp m).2 ((on_iff ha pz).mp zz)]
theorem way_end {a b : List Int} (ha : Stt a) (hl : b.length = a.length) {RS : List (List Int)} (hR : RingsOf a RS) {wd : List Int} (w : Way a b RS [] wd) : callAll a wd = b := by
  refine gt_ext (by rw [callAll_len, hl]) fun x hx => ?_
  have px : Per a x := ⟨hx.1, by rw [← callAll_len wd a]; exact hx.2⟩
  by_cases q : x ∈ ringF a x
  · refine w.dn (ringF a x) ((hR.2.2 _).mpr ⟨x.toNat, by have := px.1; have := px.2; omega, by rw [show ((x.toNat : Nat) : Int) = x by have := px.1; omega]⟩) x q
  · exact w.off x px q
noncomputable def ringsW (b : List Int) (LS : List (List Int)) : List Int := LS.flatMap fun R => ringW b R (srtF (heightF b) (leavL b R))
noncomputable def wordF (a b : List Int) : List Int := outW a b (srtF (heightF a) (offL a)) ++ ringsW b (closedF a)
/-- word_to: state, goal, word, ring -/
def b_word_to : DTS := (dSeq (dDrop (dCall p_check_future (dCons (dVar 0) (dCons (dVar 1) dNil))))
  (dSeq (dSetG true 2 (dCall p_outside_calls (dCons (dVar 0) (dCons (dVar 1) dNil))))
  (dSeq (dFor (dIter (dCall p_rings (dCons (dVar 0) dNil))) (dName 3) (dExt 2 (dCall p_ring_calls (dCons (dVar 3) (dCons (dVar 1) dNil)))))
  (dRet (dVar 2)))))
abbrev k_word_to : Nat := 2
def p_word_to : DSp := fun args c Q => ∃ (d e : PyData) (ns gs : List Int), args = [.sh d, .sh e] ∧ PyData.its d = some (dI ns) ∧ PyData.its e = some (dI gs) ∧ Stt ns ∧ Stt gs ∧ gs.length = ns.length ∧ ns.length ≤ 60 ∧ Lead ns gs ∧
  ∀ ws, Low ns.length ws → callAll ns ws = gs → ws.length ≤ 300000 → ws = wordF ns gs → Q (.nw (dI ws)) c
theorem mon_word_to : MonF p_word_to := fun args c A B h ⟨d, e, ns, gs, ea, h1, h2, h3, h4, h5, h6, h7, q⟩ => ⟨d, e, ns, gs, ea, h1, h2, h3, h4, h5, h6, h7, fun ws a b l m => h _ _ (q ws a b l m)⟩
theorem word_rings {d e : PyData} {a b : List Int} (he : PyData.its e = some (dI b)) (ha : Stt a) (hb : Stt b) (hl : b.length = a.length) (h60 : a.length ≤ 60) (f : Lead a b) {RS : List (List Int)} (hR : RingsOf a RS) {Δ : DEnds} {c : Nat} : ∀ (LS DS : List (List Int)) (wd : List Int) (x3 : SV), DS ++ LS = RS → Way a b DS LS wd → wd.length + 3660 * LS.length ≤ 300000 →
    (∀ wd' x3, Way a b RS [] wd' → wd'.length ≤ 300000 → wd' = wd ++ ringsW b LS → Δ.nx ⟨[.sh d, .sh e, .ow (dI wd'), x3], c⟩) →
    forD (dName 3) (dExt 2 (dCall p_ring_calls (dCons (dVar 3) (dCons (dVar 1) dNil)))) Δ (dT LS) ⟨[.sh d, .sh e, .ow (dI wd), x3], c⟩
  | [], DS, wd, x3, e0, w, hw, q => by
    rw [List.append_nil] at e0
    rw [e0] at w
    exact q wd x3 w (by rw [List.length_nil] at hw; omega) (by unfold ringsW; rw [List.flatMap_nil, List.append_nil])
  | R :: LS, DS, wd, x3, e0, w, hw, q => by
    rw [List.length_cons] at hw
    have hm : R ∈ RS := by rw [← e0]; exact List.mem_append_right _ List.mem_cons_self
    obtain ⟨j, hj, ej⟩ := (hR.2.2 R).mp hm
    have pj := per_nat hj
    have rl := ring_len ha pj
    rw [ej] at rl
    show forD _ _ _ (.tuple (dI R) :: dT LS) _
    refine for_cons ?_
    rfl'
    refine ⟨e, R, b, rfl, he, by rw [← ej]; exact ring_goal ha hb hl f pj, by omega, fun P hP pw pl sr => ?_⟩
    rfl'
    refine ⟨show _ ≤ 16777216 by rw [dI_len, dI_len]; omega, ?_⟩
    rw [dI_app]
    refine word_rings he ha hb hl h60 f hR LS (DS ++ [R]) _ _ (by rw [List.append_assoc]; exact e0) (way_step ha hb hl f hR e0 w hP pw) (by rw [List.length_append]; omega) fun wd' x3 v1 v2 v3 => q wd' x3 v1 v2 ?_
    rw [v3, sr]
    unfold ringsW
    rw [List.flatMap_cons, List.append_assoc]
theorem m_word_to : ∀ args c Q, p_word_to args c Q → defF k_word_to b_word_to args c Q := by
  rintro _ c Q ⟨d, e, ns, gs, rfl, h1, h2, h3, h4, h5, h6, h7, q⟩
  show b_word_to _ ⟨[.sh d, .sh e, .un, .un], c⟩
  unfold b_word_to
  have hw := (ways_iff h3).mpr h7.ways
  refine sq_ ?_
  rfl'
  refine ⟨d, e, ns, gs, rfl, h1, h2, h3, h4, h5, h7, ?_⟩
  refine sq_ ?_
  rfl'
  refine ⟨d, e, ns, gs, rfl, h1, h2, h3, h5, h6, hw, fun X hX pw xl sr => ?_⟩
  rfl'
  refine sqa_ fun D hD => ?_
  rfl'
  refine c_rings h1 h3 (by omega) fun RS hR => ?_
  have rl := hR.len
  rfl'
  refine ⟨rfl, ?_⟩
  refine word_rings h2 h3 h4 h5 h6 h7 hR RS [] _ _ rfl (way_begin h3 hw hR hX pw) (by omega) fun wd x3 w wl we => hD _ ?_
  rfl'
  exact q wd w.low (way_end h3 h5 hR w) wl (by rw [we, sr, hR.eq (closed_rings h3)]; rfl)
end Lp

namespace Lp
open PySem PySem.Spec PyProof.Rows L2
local macro_rules | `(tactic| rfl') => `(tactic| try dsimp only [dVar_, gv_sh, gv_ow, gv_bx, gv_raw, gv_st, dC, dRaw, dOp, dUn, dTest, dTruth, dAnd, dOr, dNot, dYes, dIf, dAndV, dOrV, dNotV, dNotT, dChain, dNil, dCons, dTup, dLst, dats, dCB, dNoP, dPart, dSl, dNext, dBreak, dCont, dNever, dDrop, dRet, dRetN, dIfS, dSetG, dPar, dPar3, dAppend, dAppPop, dSetIx, dExt, dAug, dSet0, dSAdd, dSNotIn, dIter_, gi_l, gi_t, gi_b, dRng1, dRng2, dName, dGNil, dGCons, dGTup, dAsg, dFor, dWhile, dCall, dCallR, dArgs_, ga_f, ga_t, argsOf, dLc, wipeE, dListRg, dIndex, dSortSet, dSortSc, dEnum, dEnA, dZip, dIsi, dIsi2, isaT, φI, φB, φC, φNeg, add_i, add_l, add_t, mul_i, mul_l, φIx, sl_l, sl_t, eq_i, eq_s, eq_l, eq_t, eq_b, eq_n, φIsN, isN_n, isN_b, isN_i, isN_s, isN_l, isN_t, φLen, φList, φTuple, φAbs, φInt, φMax, φIsB, φIsNB, its_l, its_t, rd_sh, rd_nw, rd_br, rp_sh, rp_nw, rp_br, rp_bx, rp_raw, rp_sr, rr_sh, rr_nw, rr_br, ra_sh, ra_br, ra_bx, ra_raw, va_sh, va_nt, va_nf, va_raw, hb_n, hb_sh, hb_bx, hb_raw, hb_br, sh_n, sh_c, tr_n, tr_b, tr_i, tr_l, tr_t, ty_n, ty_b, ty_i, ty_s, ty_l, ty_t, if_ff, if_tt, Env.set, List.getElem?_cons_succ, List.getElem?_cons_zero, List.set_cons_succ, List.set_cons_zero, List.reverse_cons, List.reverse_nil, List.nil_append, List.cons_append, Option.bind_some, ite_true, ite_false])
/-- new numbers for n people -/
structure Tags (n : Nat) (ts : List Int) : Prop where
  len : ts.length = n
  nd : ts.Nodup
  lo : Low n ts
theorem Tags.per {n : Nat} {ts : List Int} (T : Tags n ts) {x : Int} (x0 : 0 ≤ x) (x1 : x < (n : Int)) : 0 ≤ gt ts x ∧ gt ts x < (n : Int) := gt_low T.lo x0 (by rw [T.len]; exact x1)
theorem Tags.inj {n : Nat} {ts : List Int} (T : Tags n ts) {x y : Int} (x0 : 0 ≤ x) (x1 : x < (n : Int)) (y0 : 0 ≤ y) (y1 : y < (n : Int)) (e : gt ts x = gt ts y) : x = y := by
  have h1 := gt_get (ns := ts) x0 (by rw [T.len]; exact x1)
  have h2 := gt_get (ns := ts) y0 (by rw [T.len]; exact y1)
  rw [e] at h1
  have := nd_ix T.nd h1 h2
  omega
/-- everybody has the number of somebody -/
theorem Tags.onto {n : Nat} {ts : List Int} (T : Tags n ts) {y : Int} (y0 : 0 ≤ y) (y1 : y < (n : Int)) : ∃ x, 0 ≤ x ∧ x < (n : Int) ∧ gt ts x = y := by
  have key : ∀ j : Nat, j < n → (j : Int) ∈ ts := by
    intro j hj
    by_cases q : (j : Int) ∈ ts
    · exact q
    · exfalso
      have h2 := nd_subG ts (((List.range n).map fun i : Nat => (i : Int)).erase (j : Int)) T.nd fun z hz => by
        have nd : ((List.range n).map fun i : Nat => (i : Int)).Nodup := List.pairwise_map.mpr (List.nodup_range.imp fun {a b} hab e => hab (by omega))
        rw [nd.mem_erase_iff]
        refine ⟨fun e => q (by rw [← e]; exact hz), List.mem_map.mpr ⟨z.toNat, List.mem_range.mpr ?_, ?_⟩⟩
        · have := T.lo z hz; omega
        · have := T.lo z hz; omega
      rw [List.length_erase_of_mem (List.mem_map.mpr ⟨j, List.mem_range.mpr hj, rfl⟩), List.length_map, List.length_range, T.len] at h2
      omega
  have hm := key y.toNat (by omega)
  rw [show ((y.toNat : Nat) : Int) = y by omega] at hm
  obtain ⟨i, hi, e⟩ := List.mem_iff_getElem.mp hm
  exact ⟨i, Int.natCast_nonneg i, by rw [← T.len]; omega, by rw [gt_nat hi]; exact e⟩
/-- a state and the state with other numbers -/
structure Ren (ts a r : List Int) : Prop where
  T : Tags a.length ts
  len : r.length = a.length
  to : ∀ x, Per a x → gt r (gt ts x) = gt ts (gt a x)
section
variable {ts a r : List Int} (h : Stt a) (R : Ren ts a r)
include h R
theorem Ren.tp {x : Int} (hx : Per a x) : Per r (gt ts x) := by
  have := R.T.per hx.1 hx.2
  exact ⟨this.1, by rw [R.len]; exact this.2⟩
theorem Ren.onto {y : Int} (hy : Per r y) : ∃ x, Per a x ∧ gt ts x = y := by
  obtain ⟨x, x0, x1, e⟩ := R.T.onto hy.1 (by rw [← R.len]; exact hy.2)
  exact ⟨x, ⟨x0, x1⟩, e⟩
theorem Ren.inj {x y : Int} (hx : Per a x) (hy : Per a y) (e : gt ts x = gt ts y) : x = y := R.T.inj hx.1 hx.2 hy.1 hy.2 e
theorem Ren.stt : Stt r := by
  refine ⟨fun z hz => ?_, by rw [R.len]; exact h.le, by rw [R.len]; exact h.ge⟩
  obtain ⟨i, hi, rfl⟩ := List.mem_iff_getElem.mp hz
  obtain ⟨x, px, e⟩ := Ren.onto h R (per_nat hi)
  rw [← gt_nat hi, ← e, R.to x px]
  exact Ren.tp h R (h.gt px)
theorem Ren.wk {x : Int} (hx : Per a x) : ∀ k, itr r (gt ts x) k = gt ts (itr a x k)
  | 0 => rfl
  | k + 1 => by
    show gt r (itr r (gt ts x) k) = gt ts (gt a (itr a x k))
    rw [Ren.wk hx k, R.to _ (itr_low h.lo hx.1 hx.2 k)]
theorem Ren.ws {x : Int} (hx : Per a x) (c : Nat) : itrs r (gt ts x) c = (itrs a x c).map (gt ts) := by
  unfold itrs
  rw [List.map_map]
  exact List.map_congr_left fun k _ => Ren.wk h R hx k
theorem Ren.nodup {l : List Int} (hl : ∀ z ∈ l, Per a z) : (l.map (gt ts)).Nodup ↔ l.Nodup := by
  constructor
  · intro q
    exact (List.pairwise_map.mp q).imp fun {x y} hab e => hab (by rw [e])
  · intro q
    exact List.pairwise_map.mpr (List.Pairwise.imp_of_mem (fun {x y} hx hy hab e => hab (Ren.inj h R (hl x hx) (hl y hy) e)) q)
theorem Ren.mem {l : List Int} (hl : ∀ z ∈ l, Per a z) {x : Int} (hx : Per a x) : gt ts x ∈ l.map (gt ts) ↔ x ∈ l := by
  rw [List.mem_map]
  constructor
  · rintro ⟨z, hz, e⟩
    rw [← Ren.inj h R (hl z hz) hx e]; exact hz
  · intro q; exact ⟨x, q, rfl⟩
theorem Ren.low {x : Int} (hx : Per a x) (c : Nat) : ∀ z ∈ itrs a x c, Per a z := fun z hz => by
  obtain ⟨i, _, rfl⟩ := itrs_mem.mp hz
  exact itr_low h.lo hx.1 hx.2 i
theorem Ren.cyc {x : Int} (hx : Per a x) {c : Nat} : Cyc r (gt ts x) c ↔ Cyc a x c := by
  have e1 := Ren.wk h R hx c
  have e2 := Ren.ws h R hx c
  have lo := Ren.low h R hx c
  constructor
  · rintro ⟨h0, h1, h2⟩
    rw [e1] at h1
    rw [e2] at h2
    exact ⟨h0, Ren.inj h R (itr_low h.lo hx.1 hx.2 c) hx h1, (Ren.nodup h R lo).mp h2⟩
  · rintro ⟨h0, h1, h2⟩
    exact ⟨h0, by rw [e1, h1], by rw [e2]; exact (Ren.nodup h R lo).mpr h2⟩
theorem Ren.route {x : Int} (hx : Per a x) : routeF r (gt ts x) = (routeF a x).map (gt ts) := by
  have hr := Ren.stt h R
  obtain ⟨L, e, nd, hin⟩ := h.rt hx
  refine (hr.rt (Ren.tp h R hx)).eq ⟨L, ?_, ?_, ?_⟩
  · rw [Ren.ws h R hx, e]
  · exact (Ren.nodup h R (fun z hz => route_low h hx z hz)).mpr nd
  · rw [Ren.wk h R hx]
    exact List.mem_map.mpr ⟨_, hin, rfl⟩
theorem Ren.way {x : Int} (hx : Per a x) : routeF r (gt r (gt ts x)) = (routeF a (gt a x)).map (gt ts) := by
  rw [R.to x hx]
  exact Ren.route h R (h.gt hx)
end
end Lp

namespace Lp
open PySem PySem.Spec PyProof.Rows L2
local macro_rules | `(tactic| rfl') => `(tactic| try dsimp only [dVar_, gv_sh, gv_ow, gv_bx, gv_raw, gv_st, dC, dRaw, dOp, dUn, dTest, dTruth, dAnd, dOr, dNot, dYes, dIf, dAndV, dOrV, dNotV, dNotT, dChain, dNil, dCons, dTup, dLst, dats, dCB, dNoP, dPart, dSl, dNext, dBreak, dCont, dNever, dDrop, dRet, dRetN, dIfS, dSetG, dPar, dPar3, dAppend, dAppPop, dSetIx, dExt, dAug, dSet0, dSAdd, dSNotIn, dIter_, gi_l, gi_t, gi_b, dRng1, dRng2, dName, dGNil, dGCons, dGTup, dAsg, dFor, dWhile, dCall, dCallR, dArgs_, ga_f, ga_t, argsOf, dLc, wipeE, dListRg, dIndex, dSortSet, dSortSc, dEnum, dEnA, dZip, dIsi, dIsi2, isaT, φI, φB, φC, φNeg, add_i, add_l, add_t, mul_i, mul_l, φIx, sl_l, sl_t, eq_i, eq_s, eq_l, eq_t, eq_b, eq_n, φIsN, isN_n, isN_b, isN_i, isN_s, isN_l, isN_t, φLen, φList, φTuple, φAbs, φInt, φMax, φIsB, φIsNB, its_l, its_t, rd_sh, rd_nw, rd_br, rp_sh, rp_nw, rp_br, rp_bx, rp_raw, rp_sr, rr_sh, rr_nw, rr_br, ra_sh, ra_br, ra_bx, ra_raw, va_sh, va_nt, va_nf, va_raw, hb_n, hb_sh, hb_bx, hb_raw, hb_br, sh_n, sh_c, tr_n, tr_b, tr_i, tr_l, tr_t, ty_n, ty_b, ty_i, ty_s, ty_l, ty_t, if_ff, if_tt, Env.set, List.getElem?_cons_succ, List.getElem?_cons_zero, List.set_cons_succ, List.set_cons_zero, List.reverse_cons, List.reverse_nil, List.nil_append, List.cons_append, Option.bind_some, ite_true, ite_false])
structure ApartF (a b : List Int) (x y : Int) : Prop where
  px : Per a x
  py : Per a y
  cx : ∃ c, Cyc b x c
  cy : ∃ c, Cyc b y c
  ne : ringF b x ≠ ringF b y
  eq : ringF a x = ringF a y
structure RevF (a b : List Int) (x y z : Int) (c d : Nat) : Prop where
  px : Per a x
  cb : Cyc b x c
  ca : Cyc a x d
  yb : y ∈ itrs b x c
  zb : z ∈ itrs b x c
  ya : y ∈ itrs a x d
  za : z ∈ itrs a x d
  lb : (itrs b x c).idxOf y < (itrs b x c).idxOf z
  la : (itrs a x d).idxOf z < (itrs a x d).idxOf y
/-- is_person: value, size -/
def b_is_person : DTS := (dRet (dAndV (dIsi "int" (dVar 0)) (dAndV (dNotV (dIsi "bool" (dVar 0))) (dChain (φB fun i j => decide (i ≤ j)) (φB fun i j => decide (i < j)) (dC (.int 0)) (dVar 0) (dVar 1)))))
abbrev k_is_person : Nat := 0
def p_is_person : DSp := fun args c Q => ∃ (x n : Int), args = [.sh (.int x), .sh (.int n)] ∧ 0 ≤ x ∧ x < n ∧ Q (.sh (.bool true)) c
theorem mon_is_person : MonF p_is_person := fun args c A B h ⟨x, n, ea, h1, h2, q⟩ => ⟨x, n, ea, h1, h2, h _ _ q⟩
theorem m_is_person : ∀ args c Q, p_is_person args c Q → defF k_is_person b_is_person args c Q := by
  rintro _ c Q ⟨x, n, rfl, h1, h2, q⟩
  show b_is_person _ ⟨[.sh (.int x), .sh (.int n)], c⟩
  unfold b_is_person
  rfl'
  refine if_t (by decide +kernel) ?_
  refine if_t (by decide +kernel) ?_
  refine it_t h1 ?_
  rw [decide_eq_true h2]
  exact q
/-- are_apart: state, goal, low, high, low_ring, high_ring -/
def b_are_apart : DTS := (dSeq (dSetG false 4 (dCall p_ring_of (dCons (dVar 1) (dCons (dVar 2) dNil))))
  (dSeq (dSetG false 5 (dCall p_ring_of (dCons (dVar 1) (dCons (dVar 3) dNil))))
  (dSeq (dIfS (dOr (dTest (dOp (φIn true) (dVar 2) (dVar 4))) (dOr (dTest (dOp (φIn true) (dVar 3) (dVar 5))) (dTest (dOp (φEq false) (dVar 4) (dVar 5))))) (dRet (dC (.bool false))) dNext)
  (dRet (dAndV (dOp (φB fun i j => decide (i < j)) (dVar 2) (dVar 3)) (dOp (φEq false) (dCall p_ring_of (dCons (dVar 0) (dCons (dVar 2) dNil))) (dCall p_ring_of (dCons (dVar 0) (dCons (dVar 3) dNil)))))))))
abbrev k_are_apart : Nat := 2
def p_are_apart : DSp := fun args c Q => ∃ (d e : PyData) (a b : List Int) (x y : Int), args = [.sh d, .sh e, .sh (.int x), .sh (.int y)] ∧ PyData.its d = some (dI a) ∧ PyData.its e = some (dI b) ∧ Stt a ∧ Stt b ∧ b.length = a.length ∧ ApartF a b x y ∧ x < y ∧ Q (.sh (.bool true)) c
theorem mon_are_apart : MonF p_are_apart := fun args c A B h ⟨d, e, a, b, x, y, ea, h1, h2, h3, h4, h5, h6, h7, q⟩ => ⟨d, e, a, b, x, y, ea, h1, h2, h3, h4, h5, h6, h7, h _ _ q⟩
theorem m_are_apart : ∀ args c Q, p_are_apart args c Q → defF k_are_apart b_are_apart args c Q := by
  rintro _ c Q ⟨d, e, a, b, x, y, rfl, h1, h2, h3, h4, h5, F, lt, q⟩
  show b_are_apart _ ⟨[.sh d, .sh e, .sh (.int x), .sh (.int y), .un, .un], c⟩
  unfold b_are_apart
  have pbx : Per b x := ⟨F.px.1, by rw [h5]; exact F.px.2⟩
  have pby : Per b y := ⟨F.py.1, by rw [h5]; exact F.py.2⟩
  refine sq_ ?_
  rfl'
  refine c_ring h2 h4 pbx ?_
  rfl'
  refine sq_ ?_
  rfl'
  refine c_ring h2 h4 pby ?_
  rfl'
  refine sq_ ?_
  rfl'
  refine φIn_dI (its_t _) ?_
  rfl'
  refine in_f ((on_iff h4 pbx).mpr F.cx) ?_
  refine φIn_dI (its_t _) ?_
  rfl'
  refine in_f ((on_iff h4 pby).mpr F.cy) ?_
  refine ⟨⟨shT _, shT _⟩, ?_⟩
  rw [eqvT]
  refine it_f F.ne ?_
  refine it_t lt ?_
  refine c_ring h1 h3 F.px ?_
  rfl'
  refine c_ring h1 h3 F.py ?_
  rfl'
  refine ⟨⟨shT _, shT _⟩, ?_⟩
  rw [eqvT, decide_eq_true F.eq]
  exact q
/-- are_reversed: state, goal, people, start, early, late, old_ring, new_ring, person -/
def b_are_reversed : DTS := (dSeq (dAsg (dVar 2) (dGTup 3 (dGCons (dName 3) (dGCons (dName 4) (dGCons (dName 5) dGNil)))))
  (dSeq (dSetG false 6 (dCall p_ring_of (dCons (dVar 0) (dCons (dVar 3) dNil))))
  (dSeq (dSetG false 7 (dCall p_ring_of (dCons (dVar 1) (dCons (dVar 3) dNil))))
  (dSeq (dIfS (dNot (dTruth (dCB (φAll false) (dCons (dLc (dIter (dVar 2)) (dName 8) dYes (dAndV (dOp (φIn false) (dVar 8) (dVar 6)) (dOp (φIn false) (dVar 8) (dVar 7))) [8]) dNil)))) (dRet (dC (.bool false))) dNext)
  (dRet (dAndV (dCall p_meets_first (dCons (dVar 7) (dCons (dVar 3) (dCons (dVar 4) (dCons (dVar 5) dNil))))) (dCall p_meets_first (dCons (dVar 6) (dCons (dVar 3) (dCons (dVar 5) (dCons (dVar 4) dNil)))))))))))
abbrev k_are_reversed : Nat := 6
def p_are_reversed : DSp := fun args c Q => ∃ (d e : PyData) (a b : List Int) (x y z : Int) (k m : Nat), args = [.sh d, .sh e, .sh (.tuple [.int x, .int y, .int z])] ∧ PyData.its d = some (dI a) ∧ PyData.its e = some (dI b) ∧ Stt a ∧ Stt b ∧ b.length = a.length ∧ RevF a b x y z k m ∧ Q (.sh (.bool true)) c
theorem mon_are_reversed : MonF p_are_reversed := fun args c A B h ⟨d, e, a, b, x, y, z, k, m, ea, h1, h2, h3, h4, h5, h6, q⟩ => ⟨d, e, a, b, x, y, z, k, m, ea, h1, h2, h3, h4, h5, h6, h _ _ q⟩
theorem m_are_reversed : ∀ args c Q, p_are_reversed args c Q → defF k_are_reversed b_are_reversed args c Q := by
  rintro _ c Q ⟨d, e, a, b, x, y, z, k, m, rfl, h1, h2, h3, h4, h5, F, q⟩
  show b_are_reversed _ ⟨[.sh d, .sh e, .sh (.tuple [.int x, .int y, .int z]), .un, .un, .un, .un, .un, .un], c⟩
  unfold b_are_reversed
  have px := F.px
  have pb : Per b x := ⟨px.1, by rw [h5]; exact px.2⟩
  have ma : ∀ u, u ∈ ringF a x ↔ u ∈ itrs a x m := fun u => by rw [cyc_ring h3 px F.ca, mem_turnF]
  have mb : ∀ u, u ∈ ringF b x ↔ u ∈ itrs b x k := fun u => by rw [cyc_ring h4 pb F.cb, mem_turnF]
  have xa : x ∈ itrs a x m := itrs_mem.mpr ⟨0, F.ca.1, rfl⟩
  have xb : x ∈ itrs b x k := itrs_mem.mpr ⟨0, F.cb.1, rfl⟩
  have la := ring_len h3 px
  have lb := ring_len h4 pb
  have l1 := h3.le
  have l2 := h4.le
  refine sq_ ?_
  rfl'
  refine ⟨rfl, ?_⟩
  refine sq_ ?_
  rfl'
  refine c_ring h1 h3 px ?_
  rfl'
  refine sq_ ?_
  rfl'
  refine c_ring h2 h4 pb ?_
  rfl'
  refine sq_ ?_
  rfl'
  refine lc_all PyData.int (fun _ => .bool true) [x, y, z] [] (fun u hu K hK => ?_) (show 0 + 3 ≤ 16777216 by decide) ?_
  · have ua : u ∈ ringF a x := by
      have : u = x ∨ u = y ∨ u = z := by simpa using hu
      rcases this with rfl | rfl | rfl
      · exact (ma _).mpr xa
      · exact (ma _).mpr F.ya
      · exact (ma _).mpr F.za
    have ub : u ∈ ringF b x := by
      have : u = x ∨ u = y ∨ u = z := by simpa using hu
      rcases this with rfl | rfl | rfl
      · exact (mb _).mpr xb
      · exact (mb _).mpr F.yb
      · exact (mb _).mpr F.zb
    rfl'
    refine φIn_dI (its_t _) ?_
    rfl'
    refine it_t ua ?_
    refine φIn_dI (its_t _) ?_
    rfl'
    rw [decide_eq_true ub]
    exact hK _ _ rfl rfl
  rfl'
  refine φAll_dB (bs := [true, true, true]) ?_
  rfl'
  refine if_f rfl ?_
  refine ⟨_, x, y, z, rfl, (mb _).mpr xb, (mb _).mpr F.yb, (mb _).mpr F.zb, by omega, ?_⟩
  rw [turnTo_cyc h4 pb F.cb, decide_eq_true F.lb]
  rfl'
  refine ⟨_, x, z, y, rfl, (ma _).mpr xa, (ma _).mpr F.za, (ma _).mpr F.ya, by omega, ?_⟩
  rw [turnTo_cyc h3 px F.ca, decide_eq_true F.la]
  rfl'
  exact q
/-- a value that is an obstacle -/
inductive ObsV (a b : List Int) : PyData → Prop
  | way (x : Int) : Per a x → gt b x ∉ routeF a (gt a x) → ObsV a b (.tuple [.str "way", .int x])
  | rings (x y : Int) : ApartF a b x y → x < y → ObsV a b (.tuple [.str "rings", .int x, .int y])
  | order (x y z : Int) (c d : Nat) : RevF a b x y z c d → Per a y → Per a z → ObsV a b (.tuple [.str "order", .int x, .int y, .int z])
/-- is_obstacle: state, goal, value, kind, people, item -/
def b_is_obstacle : DTS := (dSeq (dDrop (dCall p_check_size (dCons (dVar 0) (dCons (dVar 1) dNil))))
  (dSeq (dIfS (dOr (dNot (dTruth (dIsi "tuple" (dVar 2)))) (dNot (dTest (dChain (φB fun i j => decide (i ≤ j)) (φB fun i j => decide (i ≤ j)) (dC (.int 2)) (dCB φLen (dCons (dVar 2) dNil)) (dC (.int 4)))))) (dRet (dC (.bool false))) dNext)
  (dSeq (dSetG false 3 (dOp φIx (dVar 2) (dC (.int 0))))
  (dSeq (dSetG false 4 (dSl φSl (dVar 2) (dPart (dC (.int 1))) dNoP))
  (dSeq (dIfS (dNot (dTruth (dCB (φAll false) (dCons (dLc (dIter (dVar 4)) (dName 5) dYes (dCall p_is_person (dCons (dVar 5) (dCons (dCB φLen (dCons (dVar 0) dNil)) dNil))) [5]) dNil)))) (dRet (dC (.bool false))) dNext)
  (dSeq (dIfS (dAnd (dTest (dOp (φEq false) (dVar 3) (dC (.str "way")))) (dTest (dOp (φEq false) (dCB φLen (dCons (dVar 4) dNil)) (dC (.int 1))))) (dRet (dOp (φIn true) (dOp φIx (dVar 1) (dOp φIx (dVar 4) (dC (.int 0)))) (dCall p_way (dCons (dVar 0) (dCons (dOp φIx (dVar 4) (dC (.int 0))) dNil))))) dNext)
  (dSeq (dIfS (dAnd (dTest (dOp (φEq false) (dVar 3) (dC (.str "rings")))) (dTest (dOp (φEq false) (dCB φLen (dCons (dVar 4) dNil)) (dC (.int 2))))) (dRet (dCall p_are_apart (dCons (dVar 0) (dCons (dVar 1) (dCons (dOp φIx (dVar 4) (dC (.int 0))) (dCons (dOp φIx (dVar 4) (dC (.int 1))) dNil)))))) dNext)
  (dSeq (dIfS (dAnd (dTest (dOp (φEq false) (dVar 3) (dC (.str "order")))) (dTest (dOp (φEq false) (dCB φLen (dCons (dVar 4) dNil)) (dC (.int 3))))) (dRet (dCall p_are_reversed (dCons (dVar 0) (dCons (dVar 1) (dCons (dVar 4) dNil))))) dNext)
  (dRet (dC (.bool false)))))))))))
abbrev k_is_obstacle : Nat := 3
def p_is_obstacle : DSp := fun args c Q => ∃ (d e v : PyData) (a b : List Int), args = [.sh d, .sh e, .sh v] ∧ PyData.its d = some (dI a) ∧ PyData.its e = some (dI b) ∧ Stt a ∧ Stt b ∧ b.length = a.length ∧ ObsV a b v ∧ Q (.sh (.bool true)) c
theorem mon_is_obstacle : MonF p_is_obstacle := fun args c A B h ⟨d, e, v, a, b, ea, h1, h2, h3, h4, h5, h6, q⟩ => ⟨d, e, v, a, b, ea, h1, h2, h3, h4, h5, h6, h _ _ q⟩
theorem people_lc {d : PyData} {a : List Int} (h1 : PyData.its d = some (dI a)) (hle : a.length ≤ 1000) {x1 x2 x3 x4 x5 : SV} {c : Nat} {Q : R → Env → Prop} (ps : List Int) (hp : ∀ p ∈ ps, Per a p) (hl : ps.length ≤ 100) (q : Q (.nw (dB (ps.map fun _ => true))) ⟨[.sh d, x1, x2, x3, x4, x5], c⟩) :
    lcD (dName 5) dYes (dCall p_is_person (dCons (dVar 5) (dCons (dCB φLen (dCons (dVar 0) dNil)) dNil))) [5] [.sh d, x1, x2, x3, x4, x5] Q (dI ps) [] c := by
  refine lc_all PyData.int (fun _ => .bool true) ps [] (fun p hm K hK => ?_) (by show 0 + _ ≤ _; omega) ?_
  · rfl'
    rw [h1]
    dsimp only
    rw [dI_len]
    exact ⟨p, _, rfl, (hp p hm).1, (hp p hm).2, hK _ _ rfl rfl⟩
  · rw [List.nil_append]
    have e : ps.map (fun _ => PyData.bool true) = dB (ps.map fun _ => true) := by
      show _ = List.map _ (List.map _ _)
      rw [List.map_map]; rfl
    rw [e]; exact q
theorem all_ones (ps : List Int) : (ps.map fun _ => true).all id = true := by rw [List.all_map]; exact List.all_eq_true.mpr fun _ _ => rfl
theorem m_is_obstacle : ∀ args c Q, p_is_obstacle args c Q → defF k_is_obstacle b_is_obstacle args c Q := by
  rintro _ c Q ⟨d, e, v, a, b, rfl, h1, h2, h3, h4, h5, V, q⟩
  have hle := h3.le
  cases V with
  | way x px nx =>
    have pb : Per b x := ⟨px.1, by rw [h5]; exact px.2⟩
    show b_is_obstacle _ ⟨[.sh d, .sh e, .sh (.tuple [.str "way", .int x]), .un, .un, .un], c⟩
    unfold b_is_obstacle
    refine sq_ ?_
    rfl'
    refine c_size h1 h2 h5 ?_
    refine sq_ ?_
    rfl'
    refine if_f (by decide +kernel) ?_
    refine it_t (show (2 : Int) ≤ ((2 : Nat) : Int) by decide) ?_
    refine if_f (show (!decide (((2 : Nat) : Int) ≤ 4)) = false by decide) ?_
    refine sq_ ?_
    rfl'
    refine ⟨_, rfl, ?_⟩
    refine sq_ ?_
    rfl'
    refine sqa_ fun D hD => ?_
    rfl'
    refine people_lc h1 hle [x] (fun p hp => by rw [List.mem_singleton.mp hp]; exact px) (show 1 ≤ 100 by decide) ?_
    rfl'
    refine φAll_dB ?_
    rfl'
    rw [all_ones]
    refine if_f rfl (hD _ ?_)
    refine sq_ ?_
    rfl'
    refine it_t rfl ?_
    refine it_t rfl ?_
    refine ⟨_, rfl, ?_⟩
    rw [h2]
    refine ⟨_, atI_dI pb.1 pb.2, ?_⟩
    refine ⟨_, rfl, ?_⟩
    refine c_way h1 h3 px ?_
    refine φIn_dI (its_l _) ?_
    rfl'
    rw [decide_eq_false nx]
    exact q
  | rings x y F lt =>
    show b_is_obstacle _ ⟨[.sh d, .sh e, .sh (.tuple [.str "rings", .int x, .int y]), .un, .un, .un], c⟩
    unfold b_is_obstacle
    refine sq_ ?_
    rfl'
    refine c_size h1 h2 h5 ?_
    refine sq_ ?_
    rfl'
    refine if_f (by decide +kernel) ?_
    refine it_t (show (2 : Int) ≤ ((3 : Nat) : Int) by decide) ?_
    refine if_f (show (!decide (((3 : Nat) : Int) ≤ 4)) = false by decide) ?_
    refine sq_ ?_
    rfl'
    refine ⟨_, rfl, ?_⟩
    refine sq_ ?_
    rfl'
    refine sqa_ fun D hD => ?_
    rfl'
    refine people_lc h1 hle [x, y] (fun p hp => by
      have : p = x ∨ p = y := by simpa using hp
      rcases this with rfl | rfl
      · exact F.px
      · exact F.py) (show 2 ≤ 100 by decide) ?_
    rfl'
    refine φAll_dB ?_
    rfl'
    rw [all_ones]
    refine if_f rfl (hD _ ?_)
    refine sq_ ?_
    rfl'
    refine it_f (by decide) ?_
    refine sq_ ?_
    rfl'
    refine it_t rfl ?_
    refine it_t rfl ?_
    refine ⟨_, rfl, ?_⟩
    refine ⟨_, rfl, ?_⟩
    refine ⟨d, e, a, b, x, y, rfl, h1, h2, h3, h4, h5, F, lt, ?_⟩
    rfl'
    exact q
  | order x y z k m F py pz =>
    show b_is_obstacle _ ⟨[.sh d, .sh e, .sh (.tuple [.str "order", .int x, .int y, .int z]), .un, .un, .un], c⟩
    unfold b_is_obstacle
    refine sq_ ?_
    rfl'
    refine c_size h1 h2 h5 ?_
    refine sq_ ?_
    rfl'
    refine if_f (by decide +kernel) ?_
    refine it_t (show (2 : Int) ≤ ((4 : Nat) : Int) by decide) ?_
    refine if_f (show (!decide (((4 : Nat) : Int) ≤ 4)) = false by decide) ?_
    refine sq_ ?_
    rfl'
    refine ⟨_, rfl, ?_⟩
    refine sq_ ?_
    rfl'
    refine sqa_ fun D hD => ?_
    rfl'
    refine people_lc h1 hle [x, y, z] (fun p hp => by
      have : p = x ∨ p = y ∨ p = z := by simpa using hp
      rcases this with rfl | rfl | rfl
      · exact F.px
      · exact py
      · exact pz) (show 3 ≤ 100 by decide) ?_
    rfl'
    refine φAll_dB ?_
    rfl'
    rw [all_ones]
    refine if_f rfl (hD _ ?_)
    refine sq_ ?_
    rfl'
    refine it_f (by decide) ?_
    refine sq_ ?_
    rfl'
    refine it_f (by decide) ?_
    refine sq_ ?_
    rfl'
    refine it_t rfl ?_
    refine it_t rfl ?_
    refine ⟨d, e, a, b, x, y, z, k, m, rfl, h1, h2, h3, h4, h5, F, ?_⟩
    rfl'
    exact q
end Lp

namespace Lp
open PySem PySem.Spec PyProof.Rows L2
local macro_rules | `(tactic| rfl') => `(tactic| try dsimp only [dVar_, gv_sh, gv_ow, gv_bx, gv_raw, gv_st, dC, dRaw, dOp, dUn, dTest, dTruth, dAnd, dOr, dNot, dYes, dIf, dAndV, dOrV, dNotV, dNotT, dChain, dNil, dCons, dTup, dLst, dats, dCB, dNoP, dPart, dSl, dNext, dBreak, dCont, dNever, dDrop, dRet, dRetN, dIfS, dSetG, dPar, dPar3, dAppend, dAppPop, dSetIx, dExt, dAug, dSet0, dSAdd, dSNotIn, dIter_, gi_l, gi_t, gi_b, dRng1, dRng2, dName, dGNil, dGCons, dGTup, dAsg, dFor, dWhile, dCall, dCallR, dArgs_, ga_f, ga_t, argsOf, dLc, wipeE, dListRg, dIndex, dSortSet, dSortSc, dEnum, dEnA, dZip, dIsi, dIsi2, isaT, φI, φB, φC, φNeg, add_i, add_l, add_t, mul_i, mul_l, φIx, sl_l, sl_t, eq_i, eq_s, eq_l, eq_t, eq_b, eq_n, φIsN, isN_n, isN_b, isN_i, isN_s, isN_l, isN_t, φLen, φList, φTuple, φAbs, φInt, φMax, φIsB, φIsNB, its_l, its_t, rd_sh, rd_nw, rd_br, rp_sh, rp_nw, rp_br, rp_bx, rp_raw, rp_sr, rr_sh, rr_nw, rr_br, ra_sh, ra_br, ra_bx, ra_raw, va_sh, va_nt, va_nf, va_raw, hb_n, hb_sh, hb_bx, hb_raw, hb_br, sh_n, sh_c, tr_n, tr_b, tr_i, tr_l, tr_t, ty_n, ty_b, ty_i, ty_s, ty_l, ty_t, if_ff, if_tt, Env.set, List.getElem?_cons_succ, List.getElem?_cons_zero, List.set_cons_succ, List.set_cons_zero, List.reverse_cons, List.reverse_nil, List.nil_append, List.cons_append, Option.bind_some, ite_true, ite_false])
/-- is_word_to: state, goal, value, item -/
def b_is_word_to : DTS := (dSeq (dDrop (dCall p_check_size (dCons (dVar 0) (dCons (dVar 1) dNil))))
  (dSeq (dIfS (dNot (dTruth (dIsi "list" (dVar 2)))) (dRet (dC (.bool false))) dNext)
  (dSeq (dIfS (dNot (dTruth (dCB (φAll false) (dCons (dLc (dIter (dVar 2)) (dName 3) dYes (dCall p_is_person (dCons (dVar 3) (dCons (dCB φLen (dCons (dVar 0) dNil)) dNil))) [3]) dNil)))) (dRet (dC (.bool false))) dNext)
  (dRet (dOp (φEq false) (dCall p_called_all (dCons (dVar 0) (dCons (dVar 2) dNil))) (dCB φTuple (dCons (dVar 1) dNil)))))))
abbrev k_is_word_to : Nat := 1
def p_is_word_to : DSp := fun args c Q => ∃ (d e : PyData) (ns gs ws : List Int), args = [.sh d, .sh e, .sh (.list (dI ws))] ∧ PyData.its d = some (dI ns) ∧ PyData.its e = some (dI gs) ∧ Stt ns ∧ gs.length = ns.length ∧ Low ns.length ws ∧ ws.length ≤ 300000 ∧ Q (.sh (.bool (decide (callAll ns ws = gs)))) c
theorem mon_is_word_to : MonF p_is_word_to := fun args c A B h ⟨d, e, ns, gs, ws, ea, h1, h2, h3, h4, h5, h6, q⟩ => ⟨d, e, ns, gs, ws, ea, h1, h2, h3, h4, h5, h6, h _ _ q⟩
theorem m_is_word_to : ∀ args c Q, p_is_word_to args c Q → defF k_is_word_to b_is_word_to args c Q := by
  rintro _ c Q ⟨d, e, ns, gs, ws, rfl, h1, h2, h3, h4, h5, h6, q⟩
  show b_is_word_to _ ⟨[.sh d, .sh e, .sh (.list (dI ws)), .un], c⟩
  unfold b_is_word_to
  refine sq_ ?_
  rfl'
  refine c_size h1 h2 h4 ?_
  rfl'
  refine sq_ ?_
  rfl'
  refine if_f (by decide) ?_
  refine sq_ ?_
  rfl'
  refine lc_all PyData.int (fun _ => .bool true) ws [] (fun z hz K hK => ?_) (by show 0 + _ ≤ _; omega) ?_
  · rfl'
    rw [h1]
    dsimp only
    rw [dI_len]
    have := h5 z hz
    refine ⟨_, _, rfl, this.1, this.2, ?_⟩
    exact hK _ _ rfl rfl
  rw [List.nil_append, dB_map ws fun _ => true]
  refine φAll_dB ?_
  have ea : (ws.map fun _ => true).all id = true := by simp
  show if (!((ws.map fun _ => true).all id)) = true then _ else _
  rw [ea]
  refine if_f rfl ?_
  rfl'
  refine c_called h1 (its_l _) h3 h5 ?_
  rfl'
  rw [h2]
  rfl'
  refine ⟨⟨shT _, shT _⟩, ?_⟩
  rw [eqvT]
  exact q
end Lp

namespace Lp
open PySem PySem.Spec PyProof.Rows L2
/-- once: the tuple itself -/
theorem tuple_mul1 (l : Addr) (items : Array Value) (n : Nat) (dd : Option Addr) (sl : Array (Option Value)) (u : Tok) (c1 : items.isEmpty = false) :
    Meets (Builtin.«tuple.__mul__» ⟨[.ref l, .int 1 u], []⟩) (fun _ R s => s.heap.get? l = some { cls := .type "tuple", dict := dd, data := .seq items n, slots := sl } ∧ R (.ok (.ret (Value.ref l))) s) :=
  .of_wp fun prog w A R s h => by
    obtain ⟨hp, g, d, tk, os⟩ := s
    obtain ⟨hl, h⟩ := h
    have f1 := AutoSeq1.idx_int
    wp_walk using wpAny_loadPart' hl
    exact ⟨_, rfl, h⟩
def rMulT (K : PySem.W.Frag) : R2 := fun x y H Q => ∃ l k xs, x = .ref l ∧ y = .int k ∧ SqT K H l xs ∧ xs ≠ [] ∧ 1 ≤ k ∧ k ≤ 1000 ∧ xs.length ≤ 1000 ∧ (k = 1 → Q (.ref l) H) ∧ ∀ p o, H p = none → o.dict = none → Q (.ref p) (upd H p (.frz o (.tup (List.replicate k.toNat xs).flatten)))
theorem op_mulT {X : Cx} : OpR X (binaryOp .Mult) (rMulT X.K) := by
  rintro pins s σ H x y v u Q I rx ry ⟨l, k, xs, rfl, rfl, hT, hne, h1, h2, hz, q1, q2⟩
  cases rx
  obtain ⟨t, rfl⟩ := ry
  obtain ⟨its, r, ⟨⟨cls, dd, data, sl⟩, ho, hc, n, hd⟩, hs⟩ := I.tuple hT
  simp only at hc hd
  subst hc hd
  have many : its.length = xs.length := r.length.symm
  have some_ : its.toArray.isEmpty = false := by
    cases its with
    | nil => exact absurd (List.eq_nil_of_length_eq_zero many.symm) hne
    | cons _ _ => rfl
  have len2 : k.toNat * xs.length ≤ 1000 * 1000 := Nat.mul_le_mul (by omega) hz
  have flen : (List.replicate k.toNat xs).flatten.length ≤ sizeLine := by
    rw [PyProof.Rows.lm_len_rep_flat, sizeLine_eq]; omega
  by_cases one : k = 1
  · subst one
    refine wpAny_binaryOp_repeat_ref (T := "tuple") (U := "int") (by decide) ⟨_, ho, rfl⟩ (fun s' => typeIs_int s' 1 t) noFill_tuple_mul F.fills_int_mul F.slot_int_rmul repeat_tuple F.slot_int_index.lookup
      (call_meets F.slot_int_rmul (typeIs_int s 1 t) F.entry_int_rmul (F.args_int_rmul_2 _ _) (int_rmul_tuple 1 t l its.toArray n dd sl)
        ⟨ho, rfl, ⟨_, ho, rfl⟩, call_meets F.slot_tuple_mul ⟨_, ho, rfl⟩ F.entry_tuple_mul (F.args_tuple_mul_2 _ _) (tuple_mul1 l its.toArray n dd sl t some_) ⟨ho, ?_⟩⟩)
    exact ⟨.ref l, H, I, rfl, q1 rfl⟩
  · have size : ((its.toArray.size : Nat) : Int) * k ≤ 1000000 := by
      rw [List.size_toArray, many]
      have : ((xs.length : Nat) : Int) * k ≤ 1000 * k := Int.mul_le_mul_of_nonneg_right (by omega) (by omega)
      omega
    refine wpAny_binaryOp_repeat_ref (T := "tuple") (U := "int") (by decide) ⟨_, ho, rfl⟩ (fun s' => typeIs_int s' k t) noFill_tuple_mul F.fills_int_mul F.slot_int_rmul repeat_tuple F.slot_int_index.lookup
      (call_meets F.slot_int_rmul (typeIs_int s k t) F.entry_int_rmul (F.args_int_rmul_2 _ _) (int_rmul_tuple k t l its.toArray n dd sl)
        ⟨ho, rfl, ⟨_, ho, rfl⟩, call_meets F.slot_tuple_mul ⟨_, ho, rfl⟩ F.entry_tuple_mul (F.args_tuple_mul_2 _ _) (tuple_mulW l its.toArray n dd sl k t
          (by rw [decide_eq_false (by omega), decide_eq_false (by omega)]; rfl)
          (by rw [some_, Bool.false_or]; exact beq_eq_false_iff_ne.mpr one)
          (by rw [some_, Bool.or_false]; exact decide_eq_false (by omega))
          (by omega)
          (by unfold Builtin.Tuple.tupleTooMany; rw [sizeLine_eq]; exact decide_eq_false (by omega))
          (by rw [size_rep, List.size_toArray, PyProof.Rows.lm_len_rep_flat, many, sizeLine_eq]; omega)) ⟨ho, ?_⟩⟩)
    rw [size_rep]
    exact newT I (r.rep k.toNat) flen q2
end Lp

namespace Lp
open PySem PySem.Spec PyProof.Rows L2
section
variable {P : Program} {w : World} {A : Around} {E : Value → Shared → Prop} {s : Shared}
end
section
variable {X : Cx}
end
section
variable {w : Wx} {K : PySem.W.Frag} {te : TE} {f : DTE}
end
end Lp

namespace Lp
open PySem PySem.Spec PyProof.Rows L2
section
variable {X : Cx}
end
section
variable {w : Wx} {K : PySem.W.Frag} {te : TE} {f : DTE}
end
end Lp

namespace Lp
open PySem PySem.Spec PyProof.Rows L2
/-- the class at C has the one base B, and an __init__ of its own -/
structure OexB (K : PySem.W.Frag) (C : Addr) (B newId initId : String) (bm : List Value) : Prop where
  base : ExcBaseFacts B newId initId bm
  pass : ∀ self : Value, refuseLoop self "__setattr__" bm = pure ()
  obj : bm.contains (.type "object") = true
  cls : ∃ nm q N bs sn sub ab col dd k0 k1 k2 k3 k5, K.lookup C = some (excClassObj nm q C N bs bm true sn sub ab col dd k0 k1 k2 k3 k5 newId)
  sa : PySem.W.findIn K (.ref C) "__setattr__" = some (some (.builtin "object.__setattr__"))
  exC : PySem.W.subIn K (.ref C) (.type "BaseException") = some true
  tyC : PySem.W.typeIn K (.ref C) = some (.type "type")
  kC : PySem.W.keepIn K (.ref C) = true
section
variable {X : Cx} {pins : List (Addr × Obj)} {σ : L2.St} {H : Hp} {s : Shared} {a C : Addr} {B newId initId : String} {bm : List Value} {E : Value → Shared → Prop} {A : Around}
/-- B.__init__(self, ..) -/
theorem init_B {us : List Value} {Q : Value → Shared → Prop} (T : OexB X.K C B newId initId bm) (I : Inv X pins σ H s) (e : H a = some (exo a C none)) (few : us.length ≤ sizeLine) (q : ∀ s', Inv X pins σ H s' → Q .none s') :
    wpAny (model X.prog X.w) A (call (.builtin initId) (.ref a :: us)) Q E s := by
  obtain ⟨nm, qn, N, bs, sn, sub, ab, col, dd, k0, k1, k2, k3, k5, hC⟩ := T.cls
  obtain ⟨t1, ho⟩ := exo_at I.hok e
  obtain ⟨hp, g, d, t, os⟩ := s
  refine wpAny_call (PySem.HandSPX.init_base T.base (fun _ => rfl) (I.kIn _ _ hC) ho few fun h' t2 k hx => ?_)
  have J := I.write (t' := t) (x := a) (e := a) (o := exo a C none) (by rw [e]; exact True.intro) (.inl rfl) k ⟨_, hx⟩ (exo_ok hx)
  have same : upd H a (exo a C none) = H := by
    funext b
    by_cases hb : b = a
    · rw [hb, upd_same, e]
    · rw [upd_ne hb]
  rw [same] at J
  exact q _ J
end
section
open Builtin Builtin.ObjectAttr PySem.W PySem.Calls PySem.HandSPX
variable {prog : Program} {w : World} {A : Around} {R : Result → Shared → Prop} {hp : Heap} {g : Array GenState} {d : Drawn} {t : Nat} {os : OsState}
/-- the first field of an exception: its dict is made -/
theorem field_B {K : W.Frag} {name : Str} {tk : Tok} {v : Value} {x C : Addr} {fv : Array Value} {cd : ClassData} {bm : List Value}
    (X : K.In hp) (hx : hp.get? x = some { cls := .ref C, data := .fields fv }) (hcd : W.clsIn K C = some cd) (hm : cd.mro = .ref C :: bm) (pass : ∀ self : Value, refuseLoop self "__setattr__" bm = pure ()) (ob : bm.contains (.type "object") = true)
    (hh : cd.hasDict = true) (ha : W.findIn K (.ref C) name = some none)
    (hq : ∀ h' tk' dx, (∀ b o, b ≠ x → hp.get? b = some o → h'.get? b = some o) → hp.objs.size ≤ dx → dx ≠ x → h'.get? x = some { cls := .ref C, dict := some dx, data := .fields fv } →
      h'.Ns1 dx (fun y => if y = name then some v else none) → R (.ok (.ret .none)) ⟨h', g, d, tk', os⟩) :
    codeAny (model prog w) A (.call (.builtin "object.__setattr__") ⟨[.ref x, .str name tk, v], []⟩) R ⟨hp, g, d, t, os⟩ := by
  have I : W.InstAt hp x { cls := .ref C, data := .fields fv } C none := ⟨hx, rfl, rfl, trivial⟩
  have SF := F.store_object
  have hob : cd.mro.contains (.type "object") = true := by rw [hm, List.contains_cons, ob, Bool.or_true]
  have ne : cd.mro.isEmpty = false := by rw [hm]; rfl
  have far : x ≠ hp.objs.size := Nat.ne_of_lt (Heap.lt_size hx)
  have sub : W.Looks (model prog w) hp (isInstance (.ref x) (.type "object")) true := I.type.andThen (W.looks_mroIn X (by unfold W.mroIn; rw [hcd, Option.bind_some, if_neg (by rw [ne]; decide), hob]))
  have lm : W.Looks (model prog w) hp (mroOf (.ref C)) cd.mro := (W.looks_clsIn X hcd).andThen .now
  have lt : W.Looks (model prog w) hp (storeTaker? none) none := .now
  have lc : W.Looks (model prog w) hp (classData C) cd := W.looks_clsIn X hcd
  refine codeAny_call_builtin SF.slot.plain SF.entry (@W.check_slot (model prog w) _ _ ⟨hp, g, d, t, os⟩ "object.__setattr__" "object" "__setattr__" (.ref x) [.str name tk, v] [] _ SF.kind SF.split sub (SF.args (.ref x) (.str name tk) v) ?_)
  rw [W.osa_eq, refuse_eq]
  refine wpAny_bind (wpAny_bind (I.type.at (wpAny_bind (lm.at ?_))))
  rw [hm, refuseLoop_ref, pass]
  refine wpAny_pure (wpAny_bind (I.type.at (wpAny_bind ((W.looks_findIn X ha).at (wpAny_bind (lt.at ?_))))))
  show wpAny _ _ (storeInOwnDict (.ref x) (.ref C) (.str name tk) name v false) _ _ _
  obtain ⟨nm, bs, mro, ns, qn, hd, sn, sb, ab, col, del⟩ := cd
  dsimp only at hh
  subst hh
  unfold storeInOwnDict ownDictForStores
  repeat (first | with_reducible refine store_in_new ?_ ?_ | with_reducible refine wpAny_loadPart_at hx ?_ | with_reducible refine lc.at ?_ | wp_step)
  · exact ⟨_, #[], _, (Heap.get?_update_ne _ _ _ _ far.symm).trans (Heap.get?_push_at rfl rfl), rfl, fun e he => absurd he (by simp), fun _ => rfl⟩
  · intro h' tk' hn' hs
    have hx1 : (hp.push { cls := .type "dict", data := .dict #[] }).get? x = some { cls := .ref C, data := .fields fv } := Heap.get?_push_of_some _ hx
    refine hq h' tk' hp.objs.size (fun b o hb ho => ?_) (Nat.le_refl _) far.symm ?_ hn'
    · exact (hs.2 b (Nat.ne_of_lt (Heap.lt_size ho))).trans ((Heap.get?_update_ne _ _ _ _ hb).trans (Heap.get?_push_of_some _ ho))
    · exact (hs.2 x far).trans (Heap.get?_update_self _ hx1 rfl)
end
section
variable {X : Cx} {pins : List (Addr × Obj)} {σ : L2.St} {H : Hp} {s : Shared} {a C : Addr} {B newId initId : String} {bm : List Value} {E : Value → Shared → Prop} {A : Around} {f : Str} {y : V} {u : Value}
/-- self.f = y, the first field -/
theorem store_B {Q : Unit → Shared → Prop} (T : OexB X.K C B newId initId bm) (I : Inv X pins σ H s) (e : H a = some (exo a C none)) (no : PySem.W.findIn X.K (.ref C) f = some none) (ry : RelV y u)
    (q : ∀ dx s', H dx = none → dx ≠ a → Inv X pins σ (upd (upd H dx (exd dx [(f, y)])) a (exo a C (some dx))) s' → Q () s') : wpAny (model X.prog X.w) A (setAttr (.ref a) f u) Q E s := by
  obtain ⟨nm, qn, N, bs, sn, sub, ab, col, dd, k0, k1, k2, k3, k5, hC⟩ := T.cls
  have hcl : PySem.W.clsIn X.K C = some { name := nm, bases := bs, mro := .ref C :: bm, ns := N, qualname := qn, hasDict := true, slotNames := sn, subclasses := sub, abstract := ab, collection := col, hasDel := false } := by unfold PySem.W.clsIn; rw [hC] <;> rfl
  obtain ⟨t1, ho⟩ := exo_at I.hok e
  obtain ⟨hp, g, d, t, os⟩ := s
  refine PySem.W.set_plain I.kIn (ox := { cls := .ref C, dict := none, data := .fields #[.ref t1, .none, .none, .none, .bool false, .none] }) (od := none) ⟨ho, rfl, rfl, trivial⟩ T.sa ?_
  refine field_B I.kIn ho hcl rfl T.pass T.obj rfl no fun h' tk' dx keep new ne at_a at_d => ?_
  have none_ : H dx = none := I.hok.fresh new
  have old : ∀ {b : Addr} {o : Obj}, hp.get? b = some o → b ≠ dx := fun {b o} z => Nat.ne_of_lt (Nat.lt_of_lt_of_le (Heap.lt_size z) new)
  have not_a : ∀ {b : Addr}, H b = none → b ≠ a := fun {b} n z => by rw [z, e] at n; cases n
  have U : Un X.fs [] H (upd (upd H dx (exd dx [(f, y)])) a (exo a C (some dx))) hp h' := {
    keep := fun b o z n _ _ => keep b o (not_a n) z
    slot := fun b o z n _ _ => ⟨o.slots, keep b o (not_a n) z⟩
    free := fun b o z n _ => by rw [upd_ne (not_a n), upd_ne (old z)]; exact n
    there := fun b o z _ => by
      by_cases hb : b = a
      · exact ⟨_, by rw [hb]; exact at_a⟩
      · exact ⟨o, keep b o hb z⟩
    tups := fun b xs z => by rw [upd_ne (at_ne e z exo_tup), upd_ne (ne_of_none z none_)]; exact z
    frzs := fun b o v z => by rw [upd_ne (at_ne e z exo_frz), upd_ne (ne_of_none z none_)]; exact z
    tbls := fun b ps z => ⟨#[], by rw [upd_ne (at_ne e z exo_tbl), upd_ne (ne_of_none z none_), z]; simp⟩ }
  refine q dx _ none_ ne (I.un (t' := tk') U fun b o z => ?_)
  by_cases hb : b = a
  · subst hb
    rw [upd_same] at z
    cases z
    exact exo_ok at_a
  · rw [upd_ne hb] at z
    by_cases hd : b = dx
    · subst hd
      rw [upd_same] at z
      cases z
      exact exd_ok at_d (relO_put (fs := []) ry fun g => True.intro)
    · rw [upd_ne hd] at z
      refine (I.hok b o z).stay (fun c v hc z2 => keep c v ?_ z2) (fun c hc => by rw [upd_ne (at_ne e hc exo_own), upd_ne (ne_of_none hc none_)]; exact hc) (fun c xs hc => by rw [upd_ne (at_ne e hc exo_tup), upd_ne (ne_of_none hc none_)]; exact hc)
      rcases hc with hc | hc
      · rw [hc]; exact hb
      · exact at_ne e hc exo_own
end
/-- B.__init__(self, ..) -/
def tInitB (K : PySem.W.Frag) (B newId initId : String) (bm : List Value) (ta : TA) : TE := fun σ H Q => ta σ H fun vs H1 => ∃ (a C : Addr) (ws : List V), vs = .ref a :: ws ∧ ws.length ≤ 1000 ∧ OexB K C B newId initId bm ∧ H1 a = some (exo a C none) ∧ Q .non H1
/-- self.f = e -/
def tStoreB (K : PySem.W.Frag) (B newId initId : String) (bm : List Value) (f : Str) (to te : TE) : TS := fun D σ H => te σ H fun y H1 => to σ H1 fun x H2 => ∃ a C : Addr, x = .ref a ∧ OexB K C B newId initId bm ∧ PySem.W.findIn K (.ref C) f = some none ∧
  H2 a = some (exo a C none) ∧ ∀ dx, H2 dx = none → dx ≠ a → D.nx σ (upd (upd H2 dx (exd dx [(f, y)])) a (exo a C (some dx)))
section
variable {X : Cx} {o e : Expr} {es : List Expr} {to te : TE} {ta : TA} {f : Str} {p p' p1 p2 pos : Pos} {B newId initId : String} {bm : List Value}
theorem ps_storeB (ho : PE X o to) (he : PE X e te) (hs : swapsWith e (some (.Attribute o f p')) pos.line X.env = pure false := by rfl) : PS X (.Assign [.Attribute o f p'] e pos) (tStoreB X.K B newId initId bm f to te) := by
  refine ⟨fun pins s σ H D I h => ?_⟩
  refine plainObj_wpAny_Assign_Attribute (thn (he.run pins s σ H _ I h) fun v s1 ⟨y, H1, I1, r1, q1⟩ => thn (ho.run pins s1 σ H1 _ I1 q1) fun u s2 ⟨x, H2, I2, r2, a, C, ex, T, no, ea, q⟩ => ?_) hs
  subst ex
  obtain rfl : u = Value.ref a := r2
  exact store_B T I2 ea no r1 fun dx s' n ne J => ⟨σ, _, J, q dx n ne⟩
theorem pe_initR {pl : Sem Bool} (hg : Gl X "RuntimeError") (hm : X.mg "RuntimeError" = none) (vV : PySem.W.findCls X.K (.type "RuntimeError") (.type "type") "__init__" = some (.val (.builtin "RuntimeError.__init__"))) (ha : PA X (e :: es) ta)
    (hc : eval (.Call (.Attribute (.Name "RuntimeError" p1) "__init__" p2) (e :: es) [] pos) X.env = (do
      let ov ← eval (.Name "RuntimeError" p1) X.env
      standAt p2.atName
      let (f, first) ← holding [ov] (getMethod ov "__init__" pl)
      callWith pos f first (backTo pos (starEach (e :: es) X.env)) (backToKw pos (keywordEach [] X.env))) := by rfl)
    (he : starEach (e :: es) X.env = (false, eval e X.env) :: starEach es X.env := by rfl) (hpl : (backTo pos (starEach es X.env)).any (·.1) = false := by rfl) :
    PE X (.Call (.Attribute (.Name "RuntimeError" p1) "__init__" p2) (e :: es) [] pos) (tInitB X.K "RuntimeError" newId "RuntimeError.__init__" bm ta) := by
  refine ⟨fun pins s σ H Q I h => ?_⟩
  refine PySem.W.methodCall_KW (ld_blt I hg hm PyProof.Rows.Boot.«RuntimeError» ?_ (by decide) (by decide)) hc
  obtain ⟨m, fr⟩ := I.fr
  refine PySem.W.method_type fr I.ok.mod.kin (show typeOf (.type "RuntimeError") = pure (.type "type") by kernel_rfl) (by decide +kernel) vV (by decide +kernel) ?_
  show wpAny _ _ (callWith pos (Value.builtin "RuntimeError.__init__") [] (backTo pos (starEach (e :: es) X.env)) []) _ _ _
  refine PyProof.Rows.callWith_method1 (thn (ha.run pos pins _ σ H _ (I.tok _) h) fun us s1 ⟨vs, H1, I1, r1, a, C, ws, ev, few, T, ea, q⟩ => ?_) he hpl
  subst ev
  cases r1 with
  | @cons _ u0 _ ur ra rw' =>
    obtain rfl : u0 = Value.ref a := ra
    exact init_B T I1 ea (by rw [← Paired.length rw', sizeLine_eq]; omega) fun s' J => ⟨.non, H1, J, rfl, q⟩
/-- C(e, ..), C's own __init__ keeping sp -/
theorem pmk_B {CX : CXT} {x : Str} {C fI : Addr} {k : Nat} {fd : FuncData} {ps : List Str} {sp : Sp} {ds : List Value} {dvs : List V} (hd : Vals dvs ds) (T : OexB X.K C B newId initId bm) (iC : PySem.W.findIn X.K (.ref C) "__init__" = some (some (.ref fI))) (tI : PySem.W.typeIn X.K (.ref fI) = some (.type "function"))
    (F1 : FnOk X.prog X.w X.K X.mg X.base CX k fI fd ps sp) (hr : Room (k + 1) X.A) (hb : Binds X.K fd ps ds) (hx : Passes CX X (fun _ _ _ => False)) (hg : Gl X x) (hm : X.mg x = some (.ref C)) (ha : PA X (e :: es) ta)
    (hdb : (x == ("__debug__" : Str)) = false := by decide) (he : starEach (e :: es) X.env = (false, eval e X.env) :: starEach es X.env := by rfl) (hpl : (backTo pos (starEach es X.env)).any (·.1) = false := by rfl) :
    PMk X (.Call (.Name x p) (e :: es) [] pos) (tMkO C sp dvs ta) := by
  intro pins s σ H Q I h
  obtain ⟨nm, qn, N, bs, sn, sub, ab, col, dd, k0, k1, k2, k3, k5, hC⟩ := T.cls
  refine wpAny_Call_Name_kw (ld_glob I hg hm ?_ hdb)
  refine PySem.W.callWith_K (h₀ := X.base) I.ok.mod.kin T.kC (thn (ha.run pos pins s σ H _ I h) fun us s1 ⟨vs, H1, I1, r1, few, q1⟩ => ⟨I1.kIn, ?_⟩) he hpl
  show wpAny _ _ (call (.ref C) us) _ _ _
  obtain ⟨hp, g, dr, tk, os⟩ := s1
  have new : hp.objs.size ≤ hp.objs.size + 1 := Nat.le_succ _
  have none_ : H1 (hp.objs.size + 1) = none := I1.hok.fresh new
  have want := q1 (hp.objs.size + 1) none_
  have keep : ∀ b o, hp.get? b = some o → ((hp.push (PySem.W.kdv_tup us)).push (PySem.HandSPX.excO C hp.objs.size)).get? b = some o := fun b o z => Heap.get?_push_of_some _ (Heap.get?_push_of_some _ z)
  have at_e : ((hp.push (PySem.W.kdv_tup us)).push (PySem.HandSPX.excO C hp.objs.size)).get? (hp.objs.size + 1) = some (PySem.HandSPX.excO C hp.objs.size) := by heap_get
  have I2 : Inv X pins σ (upd H1 (hp.objs.size + 1) (exo (hp.objs.size + 1) C none)) ⟨(hp.push (PySem.W.kdv_tup us)).push (PySem.HandSPX.excO C hp.objs.size), g, dr, tk, os⟩ :=
    I1.laid (t' := tk) (a := hp.objs.size + 1) (o := exo (hp.objs.size + 1) C none) (h' := (hp.push (PySem.W.kdv_tup us)).push (PySem.HandSPX.excO C hp.objs.size)) keep new (exo_ok at_e)
  have r2 : Vals (V.ref (hp.objs.size + 1) :: (vs ++ dvs)) (Value.ref (hp.objs.size + 1) :: (us ++ ds)) := .cons rfl (r1.append hd)
  have len : (Value.ref (hp.objs.size + 1) :: us ++ ds).length = ps.length := by
    have z := r2.length
    rw [F1.len _ _ _ _ want] at z
    exact z.symm
  have few2 : us.length ≤ sizeLine := by rw [← Paired.length r1, sizeLine_eq]; omega
  refine wpAny_call (PySem.HandSPX.call_own T.base (fun _ => rfl) (I1.kIn _ _ hC) (PySem.W.looks_findIn I1.kIn iC) (fun self => PySem.W.bind_fn I1.kIn self tI) few2
    (codeAny_mono (F1.run _ X.stack _ _ ⟨Value.ref (hp.objs.size + 1) :: us, []⟩ (Value.ref (hp.objs.size + 1) :: (us ++ ds)) _ _ (fun _ _ _ => False) (hr.make C us []) (I2.env0.make C us []) (hb _ (Value.ref (hp.objs.size + 1) :: us) I2.kIn len) r2 want) fun r s' back => ?_))
  match r, back with
  | .error er, back => exact hx pins σ _ _ er s' I2 back
  | .ok (.ret u), back =>
    obtain ⟨v, H2, os2, bare2, un2, hok2, rv, ev, d, fs, ea, ed, hd1, q2⟩ := back
    subst ev
    obtain ⟨h2, g2, d2, t2, os'⟩ := s'
    exact ⟨rv, mk_end (raises_own T.exC T.tyC) I1 new keep un2 hok2 os2 bare2 ea ed hd1 q2⟩
  | .ok .next, back => exact False.elim back
  | .ok .brk, back => exact False.elim back
  | .ok .cont, back => exact False.elim back
end
end Lp

namespace Lp
open PySem PySem.Spec PyProof.Rows L2
theorem Rep.chg {w w' : Wx} {Z : Zx} {O : Addr → Prop} {σ : L2.St} {ε : Env} {L H : Hp} (x : Rep w Z O L H σ ε) (h1 : w.w = w'.w) (h2 : w.cl = w'.cl) (h3 : w'.Φ Z) : Rep w' Z O L H σ ε := by
  obtain ⟨a, b, c, d, e⟩ := w
  obtain ⟨a', b', c', d', e'⟩ := w'
  cases h1
  cases h2
  refine ⟨x.lh, x.pn, x.ex, x.bo, x.oh, x.len, fun i y hy => ?_, x.di, h3⟩
  obtain ⟨o, q1, q2⟩ := x.sl i y hy
  refine ⟨o, q1, ?_⟩
  cases y <;> exact q2
theorem EndsOk.chg {w w' : Wx} {Z : Zx} {D : Ends} {Δ : DEnds} (E : EndsOk w Z D Δ) (h1 : w'.w = w.w) (h2 : w'.cl = w.cl) (h3 : w.Φ Z) : EndsOk w' Z D Δ :=
  ⟨fun O σ ε L H X q => E.nx O σ ε L H (X.chg h1 h2 h3) q, fun O σ ε L H v r X k q => E.rt O σ ε L H v r (X.chg h1 h2 h3) k q, fun O σ ε L H X q => E.bk O σ ε L H (X.chg h1 h2 h3) q, fun O σ ε L H X q => E.ct O σ ε L H (X.chg h1 h2 h3) q⟩
abbrev DSpX := List SV → Nat → (R → Nat → Prop) → (Xn → Nat → Prop) → Prop
def MonX (F : DSpX) : Prop := ∀ args c (A B : R → Nat → Prop) (C D : Xn → Nat → Prop), (∀ r c', A r c' → B r c') → (∀ x c', C x c' → D x c') → F args c A C → F args c B D
/-- an exception in flight -/
def XR (cl : Str → Option Addr) (L : Hp) (cls : Value) (d : Option Addr) (x : Xn) : Prop := ∃ C, cl x.cls = some C ∧ cls = .ref C ∧ XF L d x.fs
def spX (cl : Str → Option Addr) (n : Nat) (F : DSpX) : Sp := fun vs H Q E => ∃ (b : Option Addr) (L : Hp) (c : Nat) (args : List SV), vs.length = n ∧ CallZ b L H c ∧ ArgsR b L vs args ∧
  F args c (fun r c' => ∀ v L' H', CallZ b L' H' c' → Ext b L H L' H' → VR0 H L' H' v r → Q v H') (fun x c' => ∀ cls d L' H', CallZ b L' H' c' → Ext b L H L' H' → XR cl L' cls d x → E cls d H')
abbrev W1 (w : World) (cl : Str → Option Addr) : Wx := ⟨w, cl, fun _ => True, fun _ _ _ _ => trivial, fun _ _ _ _ _ _ => trivial⟩
/-- a body whose exceptions are wished for by W, as data by Ex -/
abbrev WxE (w : World) (cl : Str → Option Addr) (P0 : Hp) (W : WX) (Ex : Xn → Env → Prop) : Wx := ⟨w, cl,
  fun Z => Same P0 Z.P ∧ ∀ P O σ ε L H cls d x, Same P0 P → Rep (W1 w cl) { Z with P := P } O L H σ ε → XR cl L cls d x → Ex x ε → W cls d σ H,
  fun Z P s h => ⟨h.1.trans s, h.2⟩,
  fun Z a o h0 hb h => ⟨h.1, fun P O σ ε L H cls d x sP X => h.2 P O σ ε L H cls d x sP (Rep.thaw0 (Z := { Z with P := P }) h0 hb trivial X)⟩⟩
def dArgsX (F : DSpX) (rs : List R) (ε : Env) (Q : R → Env → Prop) (Ex : Xn → Env → Prop) : Prop := match argsOf rs with
  | some args => hasBr rs = false ∧ F args ε.c (fun r c => Q r ⟨ε.s, c⟩) (fun x c => Ex x ⟨ε.s, c⟩)
  | none => False
def dCallX (F : DSpX) (Ex : Xn → Env → Prop) (f : DTA) (ε : Env) (Q : R → Env → Prop) : Prop := f ε fun rs ε1 => dArgsX F rs ε1 Q Ex
section
variable {w : World} {cl : Str → Option Addr} {P0 : Hp} {W : WX} {Ex : Xn → Env → Prop}
theorem se_callX {n : Nat} {F : DSpX} {t : TA} {f : DTA} (hF : MonX F) (hf : SA (WxE w cl P0 W Ex) n t f) : SE (WxE w cl P0 W Ex) (tCallS (spX cl n F) (WE W) t) (dCallX F Ex f) := by
  constructor
  · intro ε A B h q
    refine hf.mono _ _ _ (fun rs ε1 q => ?_) q
    unfold dArgsX at q ⊢
    split at q
    · exact ⟨q.1, hF _ _ _ _ _ _ (fun r c q => h _ _ q) (fun _ _ q => q) q.2⟩
    · exact q.elim
  · intro Z O σ ε L H Q X q
    refine hf.run Z O σ ε L H _ X (hf.mono _ _ _ (fun rs ε1 q => ?_) q)
    intro vs L1 H1 X1 e1 r1 hl np
    unfold dArgsX at q
    split at q
    · rename_i args ha
      obtain ⟨hb, q⟩ := q
      refine ⟨Z.b, L1, ε1.c, args, by rw [r1.len, hl], ⟨X1.lh, fun b hb => ⟨(X1.bo b hb).1, (X1.bo b hb).2.1⟩⟩, args_plain r1 ha hb, hF _ _ _ _ _ _ (fun r c q => ?_) (fun x c q => ?_) q⟩
      · intro v L' H' z' e' r'
        exact q v L' H' (X1.exts e' z'.1 fun b hb => (z'.2 b hb).2) (e1.trans e') ((r'.vr X1).back e1)
      · intro cls d L' H' z' e' xr
        have X2 := X1.exts (c := c) e' z'.1 fun b hb => (z'.2 b hb).2
        exact X1.ph.2 Z.P O σ ⟨ε1.s, c⟩ L' H' cls d x X1.ph.1 (X2.chg rfl rfl trivial) xr q
    · exact q.elim
end
def defX (k : Nat) (p : (Xn → Env → Prop) → DTS) : DSpX := fun args c Q Ex => p (fun x ε => Ex x ε.c) { nx := fun ε => Q (.sh .none) ε.c, rt := fun r ε => Q r ε.c } (env0 args k c)
section
variable {P : Program} {w : World} {K : PySem.W.Frag} {mg : Str → Option Value} {base : Heap} {cl : Str → Option Addr}
theorem spX_len {n : Nat} {F : DSpX} {vs : List V} {H : Hp} {Q : VK} {E : XK} (h : spX cl n F vs H Q E) : vs.length = n := by
  obtain ⟨b, L, c, args, hn, _⟩ := h
  exact hn
theorem okDX {x qual : Str} {st : Stmt} {f : Addr} {fd : FuncData} {N ps : List Str} {k j : Nat} {p : (Xn → Env → Prop) → DTS} {F : DSpX} (G : Fun K x qual st f fd) (S : FnScope N ps (defScope st)) (hj : N.length = ps.length + j)
    (body : ∀ (cdv : Value) (A : Around) (outer : List PySem.Env) (s : Shared) (H : Hp) (E : XK), Room k (A.deeper (envOfC qual (defScope st) s.heap.objs.size f cdv)) →
      ∃ t, PSs (cxOf (L2.CX P w) P w K mg base N qual (defScope st) f cdv A outer s H E) (defBody st) t ∧ ∀ P0 Ex, SS (WxE w cl P0 (fun cls d _ H => E cls d H) Ex) t (p Ex))
    (h : ∀ args c Q Ex, F args c Q Ex → defX j p args c Q Ex) : FnOk P w K mg base (L2.CX P w) (k + 1) f fd ps (spX cl ps.length F) := by
  refine Fun.okX G S (fun vs H Q E h => spX_len h) fun cdv A outer s H vs Q E hr q => ?_
  obtain ⟨t, ht, hs⟩ := body cdv A outer s H E hr
  refine ⟨t, ht, ?_⟩
  obtain ⟨b, L, c, args, hn, z, a, q⟩ := q
  have q := h _ _ _ _ q
  refine (hs (fun _ => none) _).run _ _ _ _ L H _ _ (rep_start z a (by omega) ⟨(fun _ _ h => nomatch h), fun P O σ ε L' H' cls d x _ X xr q => ?_⟩) ?_ q
  · exact q cls d L' H' ⟨X.lh, fun a ha => ⟨(X.bo a ha).1, (X.bo a ha).2.1⟩⟩ X.ex xr
  · refine ⟨fun O σ ε L' H' X q => ?_, fun O σ ε L' H' v r X hr q => ?_, fun O σ ε L' H' X q => q.elim, fun O σ ε L' H' X q => q.elim⟩
    · exact q .non L' H' ⟨X.lh, fun a ha => ⟨(X.bo a ha).1, (X.bo a ha).2.1⟩⟩ X.ex DV.non
    · exact q v L' H' ⟨X.lh, fun a ha => ⟨(X.bo a ha).1, (X.bo a ha).2.1⟩⟩ X.ex hr
end
def okv (H : Hp) (v : V) : Prop := (∃ i, v = .int i) ∨ ∃ p xs, v = .ref p ∧ Sol H p xs
/-- an own __init__ that keeps its one argument in a field -/
def spI (K : PySem.W.Frag) (C : Addr) (fld : Str) : Sp := fun vs H Q _ => ∃ (a : Addr) (v : V), vs = [.ref a, v] ∧ H a = some (exo a C none) ∧ okv H v ∧
  ∀ dx, H dx = none → dx ≠ a → Q .non (upd (upd H dx (exd dx [(fld, v)])) a (exo a C (some dx)))
def dRaise (nm fld : Str) (f : DTE) (Ex : Xn → Env → Prop) (_ : DEnds) (ε : Env) : Prop := f ε fun r ε1 => match r with
  | .sh (.int i) => Ex ⟨nm, [(fld, .int i)]⟩ ε1
  | .sh (.tuple ds) => Ex ⟨nm, [(fld, .tuple ds)]⟩ ε1
  | _ => False
section
variable {w : World} {cl : Str → Option Addr} {P0 : Hp} {W : WX} {Ex : Xn → Env → Prop} {K : PySem.W.Frag} {C : Addr} {nm fld : Str} {te : TE} {f : DTE}
theorem raise_end {Z : Zx} {O : Addr → Prop} {σ : L2.St} {ε : Env} {L H : Hp} {v : V} {d : PyData} (hc : cl nm = some C) (X : Rep (WxE w cl P0 W Ex) Z O L H σ ε) (r : DV L v d) (ok : okv L v) (q : Ex ⟨nm, [(fld, d)]⟩ ε) (a : Addr) (na : H a = none) :
    spI K C fld [.ref a, v] (upd H a (exo a C none)) (fun v' H2 => v' = .non ∧ ∃ (d : Addr) (fs : List (Str × V)), H2 a = some (exo a C (some d)) ∧ H2 d = some (exd d fs) ∧ H d = none ∧ W (.ref C) (some d) σ (upd (del H2 a) d (.xd fs))) (fun _ _ _ => False) := by
  refine ⟨a, v, rfl, upd_same, ?_, fun dx n ne => ⟨rfl, dx, [(fld, v)], upd_same, by rw [upd_ne ne, upd_same], ?_, ?_⟩⟩
  · rcases ok with h | ⟨p, xs, e, h⟩
    · exact .inl h
    · refine .inr ⟨p, xs, e, ?_⟩
      obtain ⟨o, h1, h2⟩ := h.to X.lh
      exact ⟨o, h1, by rw [upd_ne (ne_of_none h2 na)]; exact h2⟩
  · rw [upd_ne ne] at n; exact n
  · have n' : H dx = none := by rw [upd_ne ne] at n; exact n
    have e : upd (del (upd (upd (upd H a (exo a C none)) dx (exd dx [(fld, v)])) a (exo a C (some dx))) a) dx (.xd [(fld, v)]) = upd H dx (.xd [(fld, v)]) := by
      funext b
      by_cases hb : b = dx
      · rw [hb, upd_same, upd_same]
      · rw [upd_ne hb, upd_ne hb]
        by_cases ha : b = a
        · rw [ha, del_same, na]
        · rw [del_ne ha, upd_ne ha, upd_ne hb, upd_ne ha]
    rw [e]
    have e2 : Ext none L H (upd L dx (.xd [(fld, v)])) (upd H dx (.xd [(fld, v)])) := Ext.new X.lh n'
    have X2 := X.step e2 (same_both X.lh)
    exact X.ph.2 Z.P O σ ε _ _ (.ref C) (some dx) ⟨nm, [(fld, d)]⟩ X.ph.1 (X2.chg rfl rfl trivial) ⟨C, hc, rfl, [(fld, v)], upd_same, .cons (DV.to r e2.ll) .nil⟩ q
theorem ss_raise (hc : cl nm = some C) (hf : SE (WxE w cl P0 W Ex) te f) : SS (WxE w cl P0 W Ex) (fun _ σ H => tMkO C (spI K C fld) [] (tCons te tNil) σ H fun cls d H' => W cls d σ H') (dRaise nm fld f Ex) := by
  constructor
  · intro Δ Δ' ε l z
    exact z
  · intro Z O σ ε L H D Δ X E z
    refine hf.run Z O σ ε L H _ X (hf.mono _ _ _ (fun r ε1 z => ?_) z)
    intro v L1 H1 X1 e1 r1
    split at z
    · have r2 : DV L1 v (.int _) := r1
      refine ⟨by simp, fun a na => raise_end hc X1 r2 (.inl ⟨_, by cases r2; rfl⟩) z a na⟩
    · have r2 : DV L1 v (.tuple _) := r1
      refine ⟨by simp, fun a na => raise_end hc X1 r2 (.inr ?_) z a na⟩
      cases r2 with
      | tup h1 h2 => exact ⟨_, _, rfl, h1⟩
    · exact z.elim
end
end Lp

namespace PySem.W
open PySem PySem.Spec PySem.Calls PyProof.Rows
section
variable {M : Model} {K : Frag}
end
end PySem.W
namespace Lp
open PySem PySem.Spec PyProof.Rows L2
/-- the test of an except clause -/
def TstOk (X : Cx) (t : Expr) (cs : List Value) : Prop := ∀ (a : Addr) (pn : List (Addr × Obj)) (σ : L2.St) (H : Hp) (s : Shared) (cls : Value) (b : Bool) (Q : Bool → Shared → Prop) (E : Value → Shared → Prop), Inv (X.suite a pn) [] σ H s →
  PySem.W.Looks (model X.prog X.w) s.heap (typeOf (.ref a)) cls → PySem.W.exmAny X.K cls cs = some b → (∀ h', (∀ q o, s.heap.get? q = some o → h'.get? q = some o) → Q b { s with heap := h' }) →
  wpAny (model X.prog X.w) (X.A.mark (some (.ref a))) (eval t X.env) (fun c s₁ => wpAny (model X.prog X.w) (X.A.mark (some (.ref a))) (excMatches (.ref a) c) Q E s₁) E s
section
variable {X : Cx}
theorem ld_name {a : Addr} {pn : List (Addr × Obj)} {σ : L2.St} {H : Hp} {s : Shared} {x : Str} {c : Value} {np : Pos} {Q : Value → Shared → Prop} {E : Value → Shared → Prop} (S : Inv (X.suite a pn) [] σ H s) (hc : Names X x c) (q : Q c s) :
    wpAny (model X.prog X.w) (X.A.mark (some (.ref a))) (eval (.Name x np) X.env) Q E s := by
  obtain ⟨hg, hdbg, hm | ⟨hm, hv, hnn⟩⟩ := hc
  · exact ld_glob (X := X.suite a pn) S hg hm q hdbg
  · exact ld_blt (X := X.suite a pn) S hg hm hv q hnn hdbg
theorem tst_3 {x1 x2 x3 : Str} {c1 c2 c3 : Value} {p1 p2 p3 tpos : Pos} {kk : Nat} (n1 : Names X x1 c1) (n2 : Names X x2 c2) (n3 : Names X x3 c3) : TstOk X (.Tuple [.Name x1 p1, .Name x2 p2, .Name x3 p3] kk tpos) [c1, c2, c3] := by
  intro a pn σ H s cls b Q E S LT he q
  refine wpAny_Tuple ?_
  refine wpAny_items_cons (ld_name S n1 ?_)
  refine wpAny_items_cons (ld_name S n2 ?_)
  refine wpAny_items_cons (ld_name S n3 ?_)
  refine wpAny_items_nil ⟨by size_fits, ?_⟩
  have kp : ∀ q o, s.heap.get? q = some o → (s.heap.push { cls := .type "tuple", data := .seq [c1, c2, c3].toArray }).get? q = some o := fun _ _ z => Heap.get?_push_of_some _ z
  exact (PySem.W.exm_tup3 (S.kIn.keeps kp) (LT.keeps kp) (Heap.get?_push_size s.heap rfl) he).here (q _ kp)
end
theorem fly_keeps {B : Heap} {l : List PySem.Env} {e : Addr} {Z : Obj → Prop} {h h' : Heap} (R : HandSPX.FlyingZ B l e Z h) (k : ∀ b o, h.get? b = some o → h'.get? b = some o) : HandSPX.FlyingZ B l e Z h' := by
  obtain ⟨f1, f2, f3, oe, ws, T, oT, ts, he, hc, hd, h1, hn, hne, hT, hdT, h3⟩ := R
  exact ⟨fun b o q => k b o (f1 b o q), f2, f3.of_keeps fun b o q _ => ⟨o, k b o q, rfl⟩, oe, ws, T, oT, ts, k _ _ he, hc, hd, h1, hn, hne, k _ _ hT, hdT, h3⟩
section
variable {X : Cx} {pins : List (Addr × Obj)} {σ : L2.St} {H : Hp} {s : Shared}
theorem exc_ok {P : Program} {w : World} {H : Hp} {h : Heap} {a : Addr} {c : Value} {d : Option Addr} {oe : Obj} {vs : Array Value} (he : h.get? a = some oe) (hc : oe.cls = c) (hd : oe.dict = d) (hv : oe.data = .fields vs) : ObjOk P w H h a (exc a c d) :=
  ⟨⟨oe, vs, he, hc, hd, hv⟩, ⟨_, he⟩, fun h1 h2 z k => by
    obtain ⟨o, v, q, r⟩ := z
    exact ⟨o, v, k _ q, r⟩⟩
theorem exc_at {P : Program} {w : World} {H : Hp} {h : Heap} {a : Addr} {c : Value} {d : Option Addr} (hok : HOk P w H h) (he : H a = some (exc a c d)) : ∃ oe vs, h.get? a = some oe ∧ oe.cls = c ∧ oe.dict = d ∧ oe.data = .fields vs := by
  have x : ObjOk P w H h a (.ext fun h => ∃ oe vs, h.get? a = some oe ∧ oe.cls = c ∧ oe.dict = d ∧ oe.data = .fields vs) := hok a _ he
  exact x.1
/-- an object of ours is taken note of -/
theorem Inv.note {a : Addr} {o : HO} {oe : Obj} {vs : Array Value} (I : Inv X pins σ H s) (ha : s.heap.get? a = some oe) (hv : oe.data = .fields vs) (na : H a = none) (n0 : X.s_0.heap.get? a = none) (nL : a ≠ X.env.locals) (np : ∀ p ∈ X.pn ++ pins, p.1 ≠ a) (ok : ObjOk X.prog X.w (upd H a o) s.heap a o) : Inv X pins σ (upd H a o) s := by
  have ne : ∀ {b : Addr} {u : HO}, H b = some u → b ≠ a := fun {b u} h => ne_of_none h na
  refine ⟨I.ok, I.os, I.bare, ⟨I.base.keep, I.base.slot, fun b u h1 h2 h3 => ?_, I.base.there, fun b xs h => ?_, fun b u v h => ?_, fun b ps h => ?_⟩, I.loc, I.cell, ?_, fun x c h => ?_, fun p hp => ?_, fun b u h => ?_, I.len⟩
  · rw [upd_ne (fun z => by rw [z, n0] at h1; cases h1)]
    exact I.base.free b u h1 h2 h3
  · have q := I.base.tups b xs h
    rw [upd_ne (ne q)]; exact q
  · have q := I.base.frzs b u v h
    rw [upd_ne (ne q)]; exact q
  · obtain ⟨more, q⟩ := I.base.tbls b ps h
    exact ⟨more, by rw [upd_ne (ne q)]; exact q⟩
  · rw [upd_ne (fun z => nL z.symm)]; exact I.free
  · rw [upd_ne (fun z => ?_)]
    · exact I.freeC x c h
    · obtain ⟨v, hc⟩ := I.cell x c h
      obtain ⟨oc, h1, h2⟩ := hc
      rw [z, ha] at h1
      cases h1
      rw [hv] at h2; cases h2
  · obtain ⟨h1, h2, h3⟩ := I.pin p hp
    exact ⟨h1, by rw [upd_ne (np p hp)]; exact h2, h3⟩
  · by_cases q : b = a
    · subst q
      rw [upd_same] at h
      cases h
      exact ok
    · rw [upd_ne q] at h
      exact (I.hok b u h).stay (fun c v _ z => z) (fun c hc => by rw [upd_ne (ne hc)]; exact hc) (fun c xs hc => by rw [upd_ne (ne hc)]; exact hc)
end
/-- what the clause wishes: the exception is one of cs; behind the suite it is known -/
def wTup (K : PySem.W.Frag) (cs : List Value) (i : Nat) (ts : Addr → Value → Option Addr → TS) (D : Ends) : WX := fun cls d σ H =>
  PySem.W.exmAny K cls cs = some true ∧ ∀ a, H a = none → ts a cls d { nx := fun σ' H' => D.nx (σ'.set i none) (upd H' a (exc a cls d)), rt := fun _ _ => False } (σ.set i (some (.ref a))) H
section
variable {X : Cx} {n : Str} {cs : List Value} {te : Expr} {i : Nat} {body suite : List Stmt} {b₀ : Stmt} {pos pos' : Pos} {tb : WX → TS} {ts : Addr → Value → Option Addr → TS}
theorem ps_try_tup (hs : X.stack = X.env :: X.outer) (hf : X.env.frame = some X.env.locals) (hN : X.N.Nodup) (hi : X.N[i]? = some n) (hln : X.env.kindOf n = some .local) (hx0 : X.ex = []) (hc : TstOk X te cs)
    (hb : ∀ (W : WX) (pn : List (Addr × Obj)) (xe : Value → Shared → Prop), Takes (X.tr pn xe) W → PassesOwn (model X.prog X.w) X.A X.env xe → PSs (X.tr pn xe) body (tb W))
    (hsu : ∀ (a : Addr) (oe : Obj) (cls : Value) (d : Option Addr) (pn : List (Addr × Obj)), Zc cls d oe → (∃ vs, oe.data = .fields vs) → PSs (X.suite a ((a, oe) :: pn)) (b₀ :: suite) (ts a cls d)) :
    PS X (.Try body [.ExceptHandler (some te) (some n) (b₀ :: suite) pos'] [] [] pos) (fun D σ H => tb (wTup X.K cs i ts D) D σ H) := by
  refine ⟨fun pins s σ H D I h => ?_⟩
  have ok := I.ok
  have hfr : X.A.frames = some (X.env :: X.outer) := by rw [ok.frames, hs]
  have hloc : Loc X.env.scope n := .inl hln
  refine wpAny_Try_except ?_
  refine wpAny_mono ((hb (wTup X.K cs i ts D) (X.pn ++ pins) (fun e s₁ => wpAny (model X.prog X.w) X.A (noteFrame e X.env) (fun _ s₂ => wpAny (model X.prog X.w) X.A (setFlight e none) (fun _ s₃ =>
    wpAny (model X.prog X.w) X.A (handleBy e X.env [.ExceptHandler (some te) (some n) (b₀ :: suite) pos']) (SP X pins D) X.xe s₃) X.xe s₂) X.xe s₁) (fun u s' xx => ?_) PassesOwn.looking).run [] s σ H D (I.toTry _) h) (fun f s1 hsp => ?_) (fun e s1 he => he)
  · obtain ⟨a, B, sI, pins', σ', H', cls, d, rfl, J', nb, up, sky, na, os, ag, hb1, hyes⟩ := xx
    have J : Inv X pins σ' H' sI := J'.ofTry ok
    have sky' : Sky B (X.env :: X.outer) a (Zc cls d) X.env.locals s'.heap := by rw [← hs]; exact sky
    show wpAny (model X.prog X.w) X.A (noteFrame (.ref a) X.env) _ _ _
    refine Sky.land Zc.steady hfr hf sky' fun h3 fl3 up3 => ?_
    have J3 : Inv X pins σ' H' { s' with heap := h3 } := J.landed nb fl3.1 (up.trans up3) os ag
    obtain ⟨oe3, vs3, he3, hz3, hd3⟩ := fl3.there
    have notFr : ∀ {h : Heap} {o : Obj} {vs : Array Value}, h.FunFrames B (X.env :: X.outer) → h.get? a = some o → o.data = .fields vs → a ∉ frs (X.env :: X.outer) := fun {h o vs} ff e dd hm => by
      obtain ⟨_, o', e', hnf⟩ := ff.mem hm
      rw [e] at e'; cases e'
      exact hnf _ dd
    have nfr := notFr fl3.2.2.1 he3 hd3
    have nL : a ≠ X.env.locals := fun z => nfr (List.mem_filterMap.mpr ⟨X.env, List.mem_cons_self, by rw [hf, z]⟩)
    have nF : a ∉ X.fs := fun hm => by
      obtain ⟨e, he, q⟩ := List.mem_filterMap.mp hm
      exact nfr (List.mem_filterMap.mpr ⟨e, List.mem_cons_of_mem _ he, q⟩)
    have nB : B.get? a = none := fl3.2.1
    have nI : sI.heap.get? a = none := by
      cases q : sI.heap.get? a with
      | none => rfl
      | some o =>
        have := nb a o q (by rw [hs]; exact nfr)
        rw [nB] at this; cases this
    have n0 : X.s_0.heap.get? a = none := by
      cases q : X.s_0.heap.get? a with
      | none => rfl
      | some o =>
        obtain ⟨o', h'⟩ := J.base.there a o q (by rw [hx0]; simp)
        rw [nI] at h'; cases h'
    have np : ∀ p ∈ X.pn ++ pins, p.1 ≠ a := fun p hp z => by
      have := (J.pin p hp).1
      rw [z, nI] at this; cases this
    have S3 := J3.suite he3 hd3 na nL nF
    refine wpAny_handleBy_cons (codeAny_handlers_test ?_) (by intro q; cases q)
    have LT : PySem.W.Looks (model X.prog X.w) h3 (typeOf (.ref a)) cls := fun A Q E s k q => wpAny_typeOf_ref (k _ _ he3) (by rw [hz3.1]; exact q)
    refine hc a _ σ' H' { s' with heap := h3 } cls true _ _ S3 LT hb1 fun h3' kp => ?_
    have fl3' := fly_keeps fl3 kp
    refine codeAny_handlers_suite_as ?_
    refine HandSPX.lands_againZ fl3' fun h4 fl4 up4 => ?_
    have J4 : Inv X pins σ' H' { s' with heap := h4 } := J.landed nb fl4.1 (((up.trans up3).trans (Heap.UpToSlots.of_keeps kp)).trans up4) os ag
    obtain ⟨oe4, vs4, he4, hz4, hd4⟩ := fl4.there
    have S4 := J4.suite he4 hd4 na nL nF
    refine store_ok (X := X.suite a ((a, oe4) :: (X.pn ++ pins))) (v := .ref a) S4 hN hi hloc rfl (fun s5 S5 => ?_) (.inr hln)
    refine wpAny_mono ((hsu a oe4 cls d (X.pn ++ pins) hz4 ⟨_, hd4⟩).run [] s5 _ H' _ S5 (hyes a na)) (fun f s6 hsp => ?_) (fun _ _ z => False.elim z)
    cases f with
    | next =>
      obtain ⟨σ6, H6, S6, q6⟩ := hsp
      refine gone_ok (X := X.suite a ((a, oe4) :: (X.pn ++ pins))) S6 hN hi hln fun s7 S7 => ⟨_, _, ?_, q6⟩
      obtain ⟨p1, p2, _⟩ := S7.pin (a, oe4) (List.mem_append_left _ List.mem_cons_self)
      exact Inv.note (S7.unsuite ok) p1 hd4 p2 n0 nL np (exc_ok p1 hz4.1 hz4.2 hd4)
    | brk =>
      obtain ⟨σ6, H6, S6, q6⟩ := hsp
      exact q6.elim
    | cont =>
      obtain ⟨σ6, H6, S6, q6⟩ := hsp
      exact q6.elim
    | ret u =>
      obtain ⟨v6, σ6, H6, S6, r6, q6⟩ := hsp
      exact q6.elim
  · cases f with
    | next =>
      obtain ⟨σ', H', J', q⟩ := hsp
      exact wpAny_execs_nil ⟨σ', H', J'.ofTry ok, q⟩
    | brk =>
      obtain ⟨σ', H', J', q⟩ := hsp
      exact ⟨σ', H', J'.ofTry ok, q⟩
    | cont =>
      obtain ⟨σ', H', J', q⟩ := hsp
      exact ⟨σ', H', J'.ofTry ok, q⟩
    | ret u =>
      obtain ⟨v, σ', H', J', r, q⟩ := hsp
      exact ⟨v, σ', H', J'.ofTry ok, r, q⟩
end
end Lp

namespace Lp
open PySem PySem.Spec PyProof.Rows L2
theorem Rep.unset {w : Wx} {Z : Zx} {O : Addr → Prop} {σ : L2.St} {ε : Env} {L H : Hp} (x : Rep w Z O L H σ ε) {i : Nat} : Rep w Z O L H (σ.set i none) (ε.set i .un) := by
  refine ⟨x.lh, x.pn, x.ex, x.bo, x.oh, ?_, fun j y hy => ?_, fun j k y z a hjk hy hz oy oz hj hk => ?_, x.ph⟩
  · show (σ.set i none).length = (ε.s.set i .un).length
    rw [List.length_set, List.length_set]; exact x.len
  · rcases get_set hy with ⟨rfl, rfl, hl⟩ | ⟨ne, hy⟩
    · exact ⟨none, by rw [List.getElem?_set, if_pos rfl, if_pos (by rw [x.len]; exact hl)], trivial⟩
    · obtain ⟨o, h1, h2⟩ := x.sl j y hy
      exact ⟨o, by rw [List.getElem?_set, if_neg ne]; exact h1, h2⟩
  · rcases get_set hy with ⟨rfl, rfl, hl⟩ | ⟨ne, hy⟩
    · cases oy
    · rcases get_set hz with ⟨rfl, rfl, hl⟩ | ⟨ne', hz⟩
      · cases oz
      · rw [List.getElem?_set, if_neg ne] at hj
        rw [List.getElem?_set, if_neg ne'] at hk
        exact x.di j k y z a hjk hy hz oy oz hj hk
theorem set3 {α : Type} (l : List α) (i j : Nat) (a b c : α) : ((l.set i a).set j b).set i c = (l.set j b).set i c := by
  by_cases h : i = j
  · subst h
    simp
  · rw [List.set_comm a b h, List.set_set]
/-- try: .. except (..) as e: x = e; i is e's slot, j is x's -/
def dTry (i j : Nat) (nms : List Str) (fb : (Xn → Env → Prop) → DTS) (Δ : DEnds) (ε : Env) : Prop := ∃ Ex : Xn → Env → Prop, (∀ x ε', Ex x ε' → nms.contains x.cls = true ∧ i < ε'.s.length ∧ Δ.nx ((ε'.set j (.exn x)).set i .un)) ∧ fb Ex Δ ε
theorem ss_try {w : Wx} {K : PySem.W.Frag} {cs : List Value} {i j : Nat} {nms : List Str} {tb : WX → TS} {fb : (Xn → Env → Prop) → DTS} (hcl : ∀ nm C, nms.contains nm = true → w.cl nm = some C → PySem.W.exmAny K (.ref C) cs = some true)
    (hb : ∀ P0 W Ex, SS (WxE w.w w.cl P0 W Ex) (tb W) (fb Ex)) : SS w (fun D σ H => tb (wTup K cs i (fun _ _ _ => tAsg (tVar i) (gName j)) D) D σ H) (dTry i j nms fb) := by
  constructor
  · rintro Δ Δ' ε l ⟨Ex, h1, h2⟩
    exact ⟨Ex, fun x ε' q => ⟨(h1 x ε' q).1, (h1 x ε' q).2.1, l.nx _ (h1 x ε' q).2.2⟩, (hb (fun _ => none) (fun _ _ _ _ => True) Ex).mono _ _ _ l h2⟩
  · rintro Z O σ ε L H D Δ X E ⟨Ex, hEx, z⟩
    refine (hb Z.P _ Ex).run Z O σ ε L H D Δ (X.chg rfl rfl ⟨Same.refl _, fun P O σ ε L H cls d x sP X' xr q => ?_⟩) (E.chg rfl rfl X.ph) z
    obtain ⟨C, hC, rfl, xf⟩ := xr
    obtain ⟨hm, hi, q⟩ := hEx x ε q
    have X1 : Rep w Z O L H σ ε := (Rep.unpin (w := W1 w.w w.cl) sP trivial X').chg rfl rfl X.ph
    refine ⟨hcl _ _ hm hC, fun a na => ?_⟩
    have e2 : Ext none L H (upd L a (exc a (.ref C) d)) (upd H a (exc a (.ref C) d)) := Ext.new X1.lh na
    have X2 := X1.step e2 (same_both X1.lh)
    have X3 := ((X2.rawS (i := i) (v := .ref a)).exnS (i := j) (v := .ref a) (y := x) ⟨a, C, d, rfl, hC, upd_same, xf.to e2.ll⟩).unset (i := i)
    have e3 : (((ε.set i (.raw (.ref a))).set j (.exn x)).set i .un) = ((ε.set j (.exn x)).set i .un) := by
      show Env.mk (((ε.s.set i _).set j _).set i _) ε.c = Env.mk ((ε.s.set j _).set i _) ε.c
      rw [set3]
    rw [e3] at X3
    refine ⟨.ref a, ?_, E.nx O _ _ _ _ X3 q⟩
    rw [List.getElem?_set, if_pos rfl, if_pos (by rw [X1.len]; exact hi)]
/-- None, or a caught exception, and its class -/
def TyE (K : PySem.W.Frag) (H : Hp) (v : V) (t : Value) : Prop := (v = .non ∧ t = .type "NoneType") ∨ ∃ (a C : Addr) (d : Option Addr), v = .ref a ∧ t = .ref C ∧ H a = some (exc a (.ref C) d) ∧ (d = none ∨ ∃ dd fs, d = some dd ∧ H dd = some (.xd fs)) ∧ ExcC K C
def rIsX (K : PySem.W.Frag) : List V → Hp → VK → Prop := fun xs H Q => ∃ (x c : V) (t u : Value) (b : Bool), xs = [x, c] ∧ ClsV c u ∧ TyE K H x t ∧ PySem.W.kitOne K t u = some b ∧ Q (.bl b) H
def rIsXT (K : PySem.W.Frag) : List V → Hp → VK → Prop := fun xs H Q => ∃ (x : V) (tp : Addr) (cs : List V) (t : Value) (us : List Value) (b : Bool), xs = [x, .ref tp] ∧ H tp = some (.tup cs) ∧ Paired ClsV cs us ∧ TyE K H x t ∧ PySem.W.kitAny K t us = some b ∧ Q (.bl b) H
section
variable {X : Cx} {pins : List (Addr × Obj)} {σ : L2.St} {H : Hp} {s : Shared}
theorem inst_of {a C : Addr} {d : Option Addr} (I : Inv X pins σ H s) (ea : H a = some (exc a (.ref C) d)) (hd : d = none ∨ ∃ dd fs, d = some dd ∧ H dd = some (.xd fs)) : ∃ oe od, PySem.W.InstAt s.heap a oe C od := by
  obtain ⟨oe, vs, h1, h2, h3, h4⟩ := exc_at I.hok ea
  rcases hd with rfl | ⟨dd, fs, rfl, ed⟩
  · exact ⟨oe, none, h1, h2, by unfold PySem.W.notCls; rw [h4] <;> rfl, by rw [h3]; trivial⟩
  · have hx : ObjOk X.prog X.w H s.heap dd (.xd fs) := I.hok dd _ ed
    obtain ⟨mA, hns, hr⟩ := hx
    obtain ⟨od, ho, hl⟩ := lookIn_ns hns
    exact ⟨oe, some od, h1, h2, by unfold PySem.W.notCls; rw [h4] <;> rfl, by rw [h3]; exact ho⟩
theorem kit_ofE {v : V} {t u : Value} (I : Inv X pins σ H s) (r : RelV v u) (ty : TyE X.K H v t) : ∃ P, PySem.W.KitX X.K u t P ∧ P s.heap ∧ u ≠ .builtin "__main__.__loader__#opaque" := by
  rcases ty with ⟨rfl, rfl⟩ | ⟨a, C, d, rfl, rfl, ea, hd, T⟩
  · cases (show u = Value.none from r)
    exact ⟨_, PySem.W.kitx_none, True.intro, fun z => nomatch z⟩
  · cases (show u = Value.ref a from r)
    obtain ⟨oe, od, J⟩ := inst_of I ea hd
    exact ⟨_, PySem.W.kitx_exc (by obtain ⟨cd, hc, _⟩ := PySem.W.any_some T.hd; rw [hc]; rfl) T.hg T.hk T.hs T.ha T.hn T.ht T.hm, J, fun z => nomatch z⟩
theorem call_isX : CallR X (.builtin "isinstance") (rIsX X.K) := by
  intro pins s σ H xs us Q I r h
  obtain ⟨x, c, t, u, b, rfl, k, ty, e, q⟩ := h
  obtain ⟨u1, u2, rfl, r1, r2⟩ := vals2 r
  have e2 := k.eq r2
  subst e2
  obtain ⟨P, Z, p, hx⟩ := kit_ofE I r1 ty
  exact PySem.W.kia_one Z I.kIn p e hx fun tk => ⟨.bl b, H, I.tok tk, rfl, q⟩
theorem call_isXT : CallR X (.builtin "isinstance") (rIsXT X.K) := by
  intro pins s σ H xs us Q I r h
  obtain ⟨x, tp, cs, t, ws, b, rfl, hT, k, ty, e, q⟩ := h
  obtain ⟨u1, u2, rfl, r1, r2⟩ := vals2 r
  cases (show u2 = Value.ref tp from r2)
  obtain ⟨P, Z, p, hx⟩ := kit_ofE I r1 ty
  obtain ⟨_, its, rv, o, h1, h2, n, h3⟩ := (show ObjOk X.prog X.w H s.heap tp (.tup cs) from I.hok tp _ hT)
  have e3 := ClsV.all k rv
  subst e3
  obtain ⟨oc, od, dt, sl⟩ := o
  simp only at h2 h3
  subst h2 h3
  exact PySem.W.kia_tup Z I.kIn p h1 e hx fun tk => ⟨.bl b, H, I.tok tk, rfl, q⟩
theorem isXK {K : PySem.W.Frag} (e : X.K = K) : CallR X (.builtin "isinstance") (rIsX K) := e ▸ call_isX
theorem isXTK {K : PySem.W.Frag} (e : X.K = K) : CallR X (.builtin "isinstance") (rIsXT K) := e ▸ call_isXT
/-- e.f -/
def tXg (K : PySem.W.Frag) (f : Str) (te : TE) : TE := fun σ H Q => te σ H fun x H1 => ∃ (a C dd : Addr) (fs : List (Str × V)) (v : V), x = .ref a ∧ H1 a = some (exc a (.ref C) (some dd)) ∧ XfC K C ∧ PySem.W.findIn K (.ref C) f = some none ∧ H1 dd = some (.xd fs) ∧ fs.lookup f = some v ∧ Q v H1
theorem pe_xg {e : Expr} {te : TE} {pos : Pos} {n : Str} (he : PE X e te) (hb : attributeBase e n X.env (eval e X.env) = eval e X.env := by rfl) : PE X (.Attribute e n pos) (tXg X.K n te) := by
  refine ⟨fun pins s σ H Q I h => ?_⟩
  refine attr_of hb (thn (he.run pins s σ H _ I h) fun u s1 hh => ?_)
  obtain ⟨x, H1, I1, rx, a, C, dd, fs, v, ex, ea, T, hno, ed, l, q⟩ := hh
  subst ex
  obtain rfl : u = Value.ref a := rx
  obtain ⟨oe, vs, h1, h2, h3, h4⟩ := exc_at I1.hok ea
  have hx : ObjOk X.prog X.w H1 s1.heap dd (.xd fs) := I1.hok dd _ ed
  obtain ⟨mA, hns, hr⟩ := hx
  obtain ⟨od, ho, hl⟩ := lookIn_ns hns
  obtain ⟨u, hu, ru⟩ := RelO.some_of (v := v) (o := mA n) (by rw [← l]; exact hr n)
  have J : PySem.W.InstAt s1.heap a oe C (some od) := ⟨h1, h2, by unfold PySem.W.notCls; rw [h4] <;> rfl, by rw [h3]; exact ho⟩
  exact HandSPX.exc_get I1.kIn J T.ga T.gg T.exC (PySem.W.findObj_own T.hdC hno rfl (by rw [hl, hu])) (handed_of ru) ⟨v, H1, I1.tok _, ru, q⟩
theorem xgK {K : PySem.W.Frag} {e : Expr} {te : TE} {n : Str} (h : X.K = K) (x : PE X e (tXg X.K n te)) : PE X e (tXg K n te) := h ▸ x
end
def baseX : Str → Str
  | "NoPerson" => "LookupError" | "NoNumber" => "LookupError" | "NoDeed" => "LookupError"
  | "OtherSize" => "ValueError" | "NoRoot" => "ValueError" | "MissingRoot" => "ValueError" | "NotKin" => "ValueError" | "NotPast" => "ValueError" | "BadDeed" => "ValueError" | "BadText" => "ValueError" | "BadLine" => "ValueError"
  | "Unreachable" => "RuntimeError" | "NoCommon" => "RuntimeError" | "Denied" => "RuntimeError" | "IsRoot" => "RuntimeError"
  | "TooMany" => "OverflowError"
  | _ => ""
def subX (c n : Str) : Bool := c == n || baseX c == n
def dIsX (nms : List Str) (f : DTE) (ε : Env) (Q : R → Env → Prop) : Prop := f ε fun r ε1 => match r with
  | .exn x => Q (.sh (.bool (nms.any (subX x.cls)))) ε1
  | .sh .none => Q (.sh (.bool false)) ε1
  | _ => False
def dAttr (n : Str) (f : DTE) (ε : Env) (Q : R → Env → Prop) : Prop := f ε fun r ε1 => match r with
  | .exn x => ∃ d, x.fs.lookup n = some d ∧ Q (.sh d) ε1
  | _ => False
theorem FVs.look {H : Hp} {n : Str} {d : PyData} : ∀ {vs : List (Str × V)} {ds : List (Str × PyData)}, FVs H vs ds → ds.lookup n = some d → ∃ v, vs.lookup n = some v ∧ DV H v d
  | _, _, .nil, e => by cases e
  | _, _, .cons (f := f) a r, e => by
    unfold List.lookup at e ⊢
    split at e
    · rename_i h
      cases e
      exact ⟨_, rfl, a⟩
    · exact r.look e
section
variable {w : Wx} {K : PySem.W.Frag} {te : TE} {f : DTE}
theorem XF.dict {H : Hp} {d : Option Addr} {fs : List (Str × PyData)} (x : XF H d fs) : d = none ∨ ∃ dd vs, d = some dd ∧ H dd = some (.xd vs) := by
  cases d with
  | none => exact .inl rfl
  | some dd =>
    obtain ⟨vs, h, _⟩ := x
    exact .inr ⟨dd, vs, rfl, h⟩
theorem TyE.of {H L : Hp} {v : V} {x : Xn} {C : Addr} (h : XV w L v x) (s : Same L H) (hC : w.cl x.cls = some C) (T : ExcC K C) : TyE K H v (.ref C) := by
  obtain ⟨a, C', d, h1, h2, h3, h4⟩ := h
  rw [hC] at h2
  cases h2
  exact .inr ⟨a, C, d, h1, rfl, s _ _ h3, (h4.to s).dict, T⟩
/-- isinstance(e, C) -/
theorem se_isX {nm : Str} {c : V} {u : Value} (hT : ∀ n C, w.cl n = some C → ExcC K C) (k : ClsV c u) (hk : ∀ n C, w.cl n = some C → PySem.W.kitOne K (.ref C) u = some (subX n nm)) (h0 : PySem.W.kitOne K (.type "NoneType") u = some false) (hf : SE w te f) :
    SE w (tCB (rIsX K) (tCons te (tCons (tC c) tNil))) (dIsX [nm] f) := by
  constructor
  · intro ε A B h q
    refine hf.mono _ _ _ (fun r ε1 q => ?_) q
    split at q
    · exact h _ _ q
    · exact h _ _ q
    · exact q.elim
  · intro Z O σ ε L H Q X q
    refine hf.run Z O σ ε L H _ X (hf.mono _ _ _ (fun r ε1 q => ?_) q)
    intro v L1 H1 X1 e1 r1
    split at q
    · rename_i x
      have r2 : XV w L1 v x := r1
      obtain ⟨a, C, d, h1, h2, h3, h4⟩ := id r2
      exact ⟨v, c, .ref C, u, _, rfl, k, TyE.of r2 X1.lh h2 (hT _ _ h2), hk _ _ h2, q _ L1 H1 X1 e1 (by rw [show ([nm].any (subX x.cls)) = subX x.cls nm by simp]; exact .bl _)⟩
    · have r2 : DV L1 v .none := r1
      cases r2
      exact ⟨.non, c, .type "NoneType", u, false, rfl, k, .inl ⟨rfl, rfl⟩, h0, q _ L1 H1 X1 e1 (.bl _)⟩
    · exact q.elim
/-- e.f -/
theorem se_attr {n : Str} (hT : ∀ m C, w.cl m = some C → XfC K C ∧ PySem.W.findIn K (.ref C) n = some none) (hf : SE w te f) : SE w (tXg K n te) (dAttr n f) := by
  constructor
  · intro ε A B h q
    refine hf.mono _ _ _ (fun r ε1 q => ?_) q
    split at q
    · obtain ⟨d, h1, h2⟩ := q
      exact ⟨d, h1, h _ _ h2⟩
    · exact q.elim
  · intro Z O σ ε L H Q X q
    refine hf.run Z O σ ε L H _ X (hf.mono _ _ _ (fun r ε1 q => ?_) q)
    intro v L1 H1 X1 e1 r1
    split at q
    · rename_i x
      obtain ⟨d, hd, q⟩ := q
      have r2 : XV w L1 v x := r1
      obtain ⟨a, C, d', h1, h2, h3, h4⟩ := r2
      cases d' with
      | none =>
        have h4' : x.fs = [] := h4
        rw [h4'] at hd; cases hd
      | some dd =>
        obtain ⟨vs, g1, g2⟩ := h4
        obtain ⟨u, g3, g4⟩ := g2.look hd
        exact ⟨a, C, dd, vs, u, h1, X1.lh _ _ h3, (hT _ _ h2).1, (hT _ _ h2).2, X1.lh _ _ g1, g3, q _ L1 H1 X1 e1 g4⟩
    · exact q.elim
end
end Lp

namespace Lp
open PySem PySem.Spec PyProof.Rows L2
section
variable {X : Cx} {o e : Expr} {es : List Expr} {to te : TE} {ta : TA} {f : Str} {p p' p1 p2 pos : Pos} {B newId initId : String} {bm : List Value}
end
abbrev bm_RuntimeError : List Value := [.type "RuntimeError", .type "Exception", .type "BaseException", .type "object"]
abbrev bm_ValueError : List Value := [.type "ValueError", .type "Exception", .type "BaseException", .type "object"]
/-- what the written part says of a class of exceptions -/
structure ClF (K : PySem.W.Frag) (C : Addr) (bm : List Value) (newId : String) : Prop where
  cls : ∃ nm q N bs sn sub ab col dd k0 k1 k2 k3 k5, K.lookup C = some (excClassObj nm q C N bs bm true sn sub ab col dd k0 k1 k2 k3 k5 newId)
  sa : PySem.W.findIn K (.ref C) "__setattr__" = some (some (.builtin "object.__setattr__"))
  tyC : PySem.W.typeIn K (.ref C) = some (.type "type")
  kC : PySem.W.keepIn K (.ref C) = true
  hg : PySem.W.findIn K (.ref C) "__getattribute__" = some (some (.builtin "BaseException.__getattribute__"))
  hk : PySem.W.findIn K (.ref C) "__getattr__" = some none
  hs : PySem.W.subIn K (.ref C) (.type "BaseException") = some true
  hd : PySem.W.hasDictIn K C = true
  ha : PySem.W.findIn K (.ref C) "__class__" = some (some (.builtin "object.__class__"))
  hn : PySem.W.specialIn K (.builtin "object.__class__") "__get__" = some (some (.builtin "getset_descriptor.__get__"))
  ht : PySem.W.takesIn K (.builtin "object.__class__") = some true
  hm : PySem.W.mroIn K C (.type "object") = some true
theorem clf_mk {K : PySem.W.Frag} {C : Addr} {bm : List Value} {newId : String} {nm q : Str} {N : Addr} {bs : List Value} {sn : _} {sub : _} {ab : _} {col : _} {dd : _} {k0 k1 k2 k3 k5 : _} (cls : K.lookup C = some (excClassObj nm q C N bs bm true sn sub ab col dd k0 k1 k2 k3 k5 newId))
    (sa : PySem.W.findIn K (.ref C) "__setattr__" = some (some (.builtin "object.__setattr__"))) (tyC : PySem.W.typeIn K (.ref C) = some (.type "type")) (kC : PySem.W.keepIn K (.ref C) = true)
    (hg : PySem.W.findIn K (.ref C) "__getattribute__" = some (some (.builtin "BaseException.__getattribute__"))) (hk : PySem.W.findIn K (.ref C) "__getattr__" = some none) (hs : PySem.W.subIn K (.ref C) (.type "BaseException") = some true)
    (hd : PySem.W.hasDictIn K C = true) (ha : PySem.W.findIn K (.ref C) "__class__" = some (some (.builtin "object.__class__"))) (hn : PySem.W.specialIn K (.builtin "object.__class__") "__get__" = some (some (.builtin "getset_descriptor.__get__")))
    (ht : PySem.W.takesIn K (.builtin "object.__class__") = some true) (hm : PySem.W.mroIn K C (.type "object") = some true) : ClF K C bm newId := ⟨⟨nm, q, N, bs, sn, sub, ab, col, dd, k0, k1, k2, k3, k5, cls⟩, sa, tyC, kC, hg, hk, hs, hd, ha, hn, ht, hm⟩
theorem ClF.xc {K : PySem.W.Frag} {C : Addr} {bm : List Value} {newId : String} (c : ClF K C bm newId) : ExcC K C := ⟨c.hg, c.hk, c.hs, c.hd, c.ha, c.hn, c.ht, c.hm⟩
theorem ClF.xf {K : PySem.W.Frag} {C : Addr} {bm : List Value} {newId : String} (c : ClF K C bm newId) : XfC K C := ⟨c.hg, c.hk, c.hs, c.hd⟩
theorem ClF.ox_RuntimeError {K : PySem.W.Frag} {C : Addr} (c : ClF K C bm_RuntimeError "RuntimeError.__new__") : OexB K C "RuntimeError" "RuntimeError.__new__" "RuntimeError.__init__" bm_RuntimeError := ⟨PySem.F.excBase_RuntimeError, fun self => PySem.F.store_RuntimeError.passes self, by decide, c.cls, c.sa, c.hs, c.tyC, c.kC⟩
theorem ClF.ox_ValueError {K : PySem.W.Frag} {C : Addr} (c : ClF K C bm_ValueError "ValueError.__new__") : OexB K C "ValueError" "ValueError.__new__" "ValueError.__init__" bm_ValueError := ⟨PySem.F.excBase_ValueError, fun self => PySem.F.store_ValueError.passes self, by decide, c.cls, c.sa, c.hs, c.tyC, c.kC⟩
/-- the def of a method -/
theorem funI_mk {K : PySem.W.Frag} {x qual : Str} {st : Stmt} {f : Addr} {oc : Value} {od an : Option Addr} {sl : Array (Option Value)} {kV dc pm cd ct : Value}
    (l : K.lookup f = some ⟨oc, od, .func (PySem.W.fnOf x qual (defArgs st) (defBody st) (defScope st) .none kV dc pm an cd ct), sl⟩) (c : PySem.W.codeIn K cd qual = true) (k : PySem.W.keepIn K (.ref f) = true) : ∃ fd, Fun K x qual st f fd := ⟨_, ⟨_, _, _, _, _, _, _, _, _, rfl, l, c⟩, k⟩
/-- a class that can be raised: its __init__ keeps its promise -/
structure Ini (P : Program) (w : World) (K : PySem.W.Frag) (mg : Str → Option Value) (base : Heap) (nm fld : Str) (C : Addr) (k : Nat) : Prop where
  ex : ∃ (B newId initId : String) (bm : List Value) (fI : Addr) (fd : FuncData), OexB K C B newId initId bm ∧ PySem.W.findIn K (.ref C) "__init__" = some (some (.ref fI)) ∧ PySem.W.typeIn K (.ref fI) = some (.type "function") ∧ FnOk P w K mg base CX0 k fI fd ["self", fld] (spI K C fld) ∧ Binds K fd ["self", fld] []
theorem pmkI {X : Cx} {nm fld : Str} {C : Addr} {k : Nat} {K : PySem.W.Frag} {e : Expr} {ta : TA} {p pos : Pos} (eK : X.K = K) (I : Ini X.prog X.w X.K X.mg X.base nm fld C k) (hm : X.mg nm = some (.ref C)) (hr : Room (k + 1) X.A) (hg : Gl X nm) (ha : PA X [e] ta) (hdb : (nm == ("__debug__" : Str)) = false := by decide)
    (he : starEach [e] X.env = (false, eval e X.env) :: starEach [] X.env := by rfl) : PMk X (.Call (.Name nm p) [e] [] pos) (tMkO C (spI K C fld) [] ta) := by
  subst eK
  obtain ⟨B, newId, initId, bm, fI, fd, T, iC, tI, F1, hb⟩ := I.ex
  exact pmk_B .nil T iC tI F1 hr hb pass0 hg hm ha hdb he
/-- what is said of all classes of a table -/
def AllL (p : Str → Addr → Prop) : List (Str × Addr) → Prop
  | [] => True
  | q :: r => p q.1 q.2 ∧ AllL p r
abbrev clT (l : List (Str × Addr)) : Str → Option Addr := fun x => List.lookup x l
theorem allL {p : Str → Addr → Prop} : ∀ {l : List (Str × Addr)}, AllL p l → ∀ n C, clT l n = some C → p n C
  | [], _, _, _, e => by cases e
  | (m, D) :: r, h, n, C, e => by
    unfold clT List.lookup at e
    split at e
    · rename_i q
      cases e
      rw [beq_iff_eq] at q
      subst q
      exact h.1
    · exact allL h.2 n C e
/-- a def that may raise -/
structure CalX (P : Program) (w : World) (K : PySem.W.Frag) (mg : Str → Option Value) (base : Heap) (cl : Str → Option Addr) (x : Str) (k : Nat) (ps : List Str) (F : DSpX) (f : Addr) (fd : FuncData) : Prop where
  ok : FnOk P w K mg base (L2.CX P w) k f fd ps (spX cl ps.length F)
  g : mg x = some (.ref f)
  kp : PySem.W.keepIn K (.ref f) = true
  bd : Binds K fd ps []
section
variable {P : Program} {w : World} {K : PySem.W.Frag} {mg : Str → Option Value} {base : Heap} {cl : Str → Option Addr}
/-- a def that catches -/
theorem okDC {x qual : Str} {st : Stmt} {f : Addr} {fd : FuncData} {N ps : List Str} {k j : Nat} {p : DTS} {F : DSp} (G : Fun K x qual st f fd) (S : FnScope N ps (defScope st)) (hj : N.length = ps.length + j)
    (body : ∀ (cdv : Value) (A : Around) (outer : List PySem.Env) (s : Shared) (H : Hp) (E : XK), Room k (A.deeper (envOfC qual (defScope st) s.heap.objs.size f cdv)) → ∃ t, PSs (cxOf CX0 P w K mg base N qual (defScope st) f cdv A outer s H E).nox (defBody st) t ∧ SS (W1 w cl) t p)
    (h : ∀ args c Q, F args c Q → defF j p args c Q) : FnOk P w K mg base CX0 (k + 1) f fd ps (spD ps.length F) := by
  refine G.ok S (fun vs H Q E h => spD_len h) fun cdv A outer s H vs Q E hr q => ?_
  obtain ⟨t, ht, hs⟩ := body cdv A outer s H E hr
  refine ⟨t, ht, ?_⟩
  obtain ⟨b, L, c, args, hn, z, a, q⟩ := spD_imp h q
  refine hs.run _ _ _ _ L H _ _ (rep_start (w := W1 w cl) z a (by omega) trivial) ?_ q
  refine ⟨fun O σ ε L' H' X q => ?_, fun O σ ε L' H' v r X hr q => ?_, fun O σ ε L' H' X q => q.elim, fun O σ ε L' H' X q => q.elim⟩
  · exact q .non L' H' ⟨X.lh, fun a ha => ⟨(X.bo a ha).1, (X.bo a ha).2.1⟩⟩ X.ex DV.non
  · exact q v L' H' ⟨X.lh, fun a ha => ⟨(X.bo a ha).1, (X.bo a ha).2.1⟩⟩ X.ex hr
end
def tCls : List V → TA
  | [] => tNil
  | c :: r => tCons (tC c) (tCls r)
theorem tCls_run : ∀ (cs : List V) (σ : L2.St) (H : Hp) (Q : List V → Hp → Prop), Q cs H → tCls cs σ H Q
  | [], _, _, _, q => q
  | c :: r, σ, H, Q, q => tCls_run r σ H _ q
def dIsNE (neg : Bool) (f : DTE) (ε : Env) (Q : R → Env → Prop) : Prop := f ε fun r ε1 => match r with
  | .exn _ => Q (.sh (.bool neg)) ε1
  | r => match r.dat with
    | some d => Q (.sh (.bool (if neg then !isN d else isN d))) ε1
    | none => False
section
variable {w : Wx} {K : PySem.W.Frag} {te : TE} {f : DTE}
theorem se_isXT {nms : List Str} {cs : List V} {us : List Value} (hT : ∀ n C, w.cl n = some C → ExcC K C) (k : Paired ClsV cs us) (hk : ∀ n C, w.cl n = some C → PySem.W.kitAny K (.ref C) us = some (nms.any (subX n))) (h0 : PySem.W.kitAny K (.type "NoneType") us = some false) (hf : SE w te f) (hl : cs.length ≤ sizeLine := by decide) :
    SE w (tCB (rIsXT K) (tCons te (tCons (tTup (tCls cs)) tNil))) (dIsX nms f) := by
  constructor
  · intro ε A B h q
    refine hf.mono _ _ _ (fun r ε1 q => ?_) q
    split at q
    · exact h _ _ q
    · exact h _ _ q
    · exact q.elim
  · intro Z O σ ε L H Q X q
    refine hf.run Z O σ ε L H _ X (hf.mono _ _ _ (fun r ε1 q => ?_) q)
    intro v L1 H1 X1 e1 r1
    refine tCls_run cs σ H1 _ ⟨hl, fun p np => ?_⟩
    have e2 : Ext none L1 H1 L1 (upd H1 p (.tup cs)) := Ext.own np
    have X2 := X1.step e2 (same_own X1.lh (X1.lh.free np))
    split at q
    · rename_i x
      have r2 : XV w L1 v x := r1
      obtain ⟨a, C, d, h1, h2, h3, h4⟩ := id r2
      exact ⟨v, p, cs, .ref C, us, _, rfl, upd_same, k, TyE.of r2 X2.lh h2 (hT _ _ h2), hk _ _ h2, q _ L1 _ X2 (e1.trans e2.any) (.bl _)⟩
    · have r2 : DV L1 v .none := r1
      cases r2
      exact ⟨.non, p, cs, .type "NoneType", us, false, rfl, upd_same, k, .inl ⟨rfl, rfl⟩, h0, q _ L1 _ X2 (e1.trans e2.any) (.bl _)⟩
    · exact q.elim
end
def gx (F : DSpX) (o : Option (List SV)) (b : Bool) (ε : Env) (Q : R → Env → Prop) (Ex : Xn → Env → Prop) : Prop := match o with
  | some args => b = false ∧ F args ε.c (fun r c => Q r ⟨ε.s, c⟩) (fun x c => Ex x ⟨ε.s, c⟩)
  | none => False
theorem dArgsX_ (F : DSpX) (rs : List R) (ε : Env) (Q : R → Env → Prop) (Ex : Xn → Env → Prop) : dArgsX F rs ε Q Ex = gx F (argsOf rs) (hasBr rs) ε Q Ex := rfl
theorem gx_s (F : DSpX) (args : List SV) (b : Bool) (ε : Env) (Q : R → Env → Prop) (Ex : Xn → Env → Prop) : gx F (some args) b ε Q Ex = (b = false ∧ F args ε.c (fun r c => Q r ⟨ε.s, c⟩) (fun x c => Ex x ⟨ε.s, c⟩)) := rfl
end Lp

namespace Lp
open PySem PySem.Spec PyProof.Rows L2
local macro_rules | `(tactic| rfl') => `(tactic| try dsimp only [dVar_, gv_sh, gv_ow, gv_bx, gv_raw, gv_exn, gv_st, dC, dRaw, dOp, dUn, dTest, dTruth, dAnd, dOr, dNot, dYes, dIf, dAndV, dOrV, dNotV, dNotT, dChain, dNil, dCons, dTup, dLst, dats, dCB, dNoP, dPart, dSl, dNext, dBreak, dCont, dNever, dDrop, dRet, dRetN, dIfS, dSetG, dPar, dPar3, dAppend, dAppPop, dSetIx, dExt, dAug, dSet0, dSAdd, dSNotIn, dIter_, gi_l, gi_t, gi_b, dRng1, dRng2, dName, dGNil, dGCons, dGTup, dAsg, dFor, dWhile, dCall, dCallR, dArgs_, ga_f, ga_t, argsOf, dLc, wipeE, dListRg, dIndex, dSortSet, dSortSc, dEnum, dEnA, dZip, dIsi, dIsi2, isaT, φI, φB, φC, φNeg, add_i, add_l, add_t, mul_i, mul_l, φIx, sl_l, sl_t, eq_i, eq_s, eq_l, eq_t, eq_b, eq_n, φIsN, isN_n, isN_b, isN_i, isN_s, isN_l, isN_t, φLen, φList, φTuple, φAbs, φInt, φMax, φIsB, φIsNB, its_l, its_t, rd_sh, rd_nw, rd_br, rp_sh, rp_nw, rp_br, rp_bx, rp_raw, rp_sr, rr_sh, rr_nw, rr_br, ra_sh, ra_br, ra_bx, ra_raw, va_sh, va_nt, va_nf, va_raw, hb_n, hb_sh, hb_bx, hb_raw, hb_br, sh_n, sh_c, tr_n, tr_b, tr_i, tr_l, tr_t, ty_n, ty_b, ty_i, ty_s, ty_l, ty_t, if_ff, if_tt, Env.set, List.getElem?_cons_succ, List.getElem?_cons_zero, List.set_cons_succ, List.set_cons_zero, List.reverse_cons, List.reverse_nil, List.nil_append, List.cons_append, Option.bind_some, ite_true, ite_false, dCallX, dArgsX_, gx_s, dRaise, dIsX, dAttr, dIsNE])
abbrev xSize (n : Nat) : Xn := ⟨"OtherSize", [("size", .int n)]⟩
abbrev xUn (v : PyData) : Xn := ⟨"Unreachable", [("obstacle", v)]⟩
/-- check_size, raising: state, other -/
def bx_check_size (Ex : Xn → Env → Prop) : DTS := (dIfS (dTest (dOp (φEq true) (dCB φLen (dCons (dVar 1) dNil)) (dCB φLen (dCons (dVar 0) dNil)))) (dRaise "OtherSize" "size" (dCB φLen (dCons (dVar 1) dNil)) Ex) dNext)
abbrev kx_check_size : Nat := 0
def q_check_size : DSpX := fun args c Q Ex => ∃ (d e : PyData) (ds es : List PyData), args = [.sh d, .sh e] ∧ PyData.its d = some ds ∧ PyData.its e = some es ∧ (es.length = ds.length → Q (.sh .none) c) ∧ (es.length ≠ ds.length → Ex (xSize es.length) c)
theorem monx_check_size : MonX q_check_size := fun args c A B C D h k ⟨d, e, ds, es, ea, h1, h2, q1, q2⟩ => ⟨d, e, ds, es, ea, h1, h2, fun z => h _ _ (q1 z), fun z => k _ _ (q2 z)⟩
theorem mx_check_size : ∀ args c Q Ex, q_check_size args c Q Ex → defX kx_check_size bx_check_size args c Q Ex := by
  rintro _ c Q Ex ⟨d, e, ds, es, rfl, h1, h2, q1, q2⟩
  show bx_check_size _ _ ⟨[.sh d, .sh e], c⟩
  unfold bx_check_size
  rfl'
  rw [h2, h1]
  rfl'
  by_cases h : es.length = ds.length
  · exact in_f (by rw [h]) (q1 h)
  · refine in_t (by omega) ?_
    exact q2 h
/-- obstacle, raising: state, goal -/
def bx_obstacle (Ex : Xn → Env → Prop) : DTS := (dSeq (dDrop (dCallX q_check_size Ex (dCons (dVar 0) (dCons (dVar 1) dNil))))
  (dRet (dCall p_first_obstacle (dCons (dVar 0) (dCons (dVar 1) dNil)))))
abbrev kx_obstacle : Nat := 0
def q_obstacle : DSpX := fun args c Q Ex => ∃ (d e : PyData) (ns gs : List Int), args = [.sh d, .sh e] ∧ PyData.its d = some (dI ns) ∧ PyData.its e = some (dI gs) ∧ Stt ns ∧ Stt gs ∧ (gs.length = ns.length → Q (.sh (obsF ns gs)) c) ∧ (gs.length ≠ ns.length → Ex (xSize gs.length) c)
theorem monx_obstacle : MonX q_obstacle := fun args c A B C D h k ⟨d, e, ns, gs, ea, h1, h2, h3, h4, q1, q2⟩ => ⟨d, e, ns, gs, ea, h1, h2, h3, h4, fun z => h _ _ (q1 z), fun z => k _ _ (q2 z)⟩
theorem mx_obstacle : ∀ args c Q Ex, q_obstacle args c Q Ex → defX kx_obstacle bx_obstacle args c Q Ex := by
  rintro _ c Q Ex ⟨d, e, ns, gs, rfl, h1, h2, h3, h4, q1, q2⟩
  show bx_obstacle _ _ ⟨[.sh d, .sh e], c⟩
  unfold bx_obstacle
  refine sq_ ?_
  rfl'
  refine ⟨rfl, d, e, _, _, rfl, h1, h2, fun z => ?_, fun z => ?_⟩
  · rw [dI_len, dI_len] at z
    rfl'
    exact c_first h1 h2 h3 h4 z (q1 z)
  · rw [dI_len, dI_len] at z
    rw [dI_len]
    exact q2 z
theorem order_formF (ns : List Int) : ∀ LS : List (List Int), orderF ns LS = .none ∨ ∃ zs, orderF ns LS = .tuple (.str "order" :: dI zs)
  | [] => .inl rfl
  | lap :: LS => by
    unfold orderF
    cases brokenF ns lap with
    | none => exact order_formF ns LS
    | some p => exact .inr ⟨[lap.headD 0, p.1, p.2], rfl⟩
theorem obsF_form (ns gs : List Int) : obsF ns gs = .none ∨ ∃ s zs, obsF ns gs = .tuple (.str s :: dI zs) := by
  unfold obsF
  split
  · exact .inr ⟨"way", [_], rfl⟩
  · split
    · rename_i x y _
      exact .inr ⟨"rings", [x, y], rfl⟩
    · rcases order_formF ns (closedF gs) with h | ⟨zs, h⟩
      · exact .inl h
      · exact .inr ⟨"order", zs, h⟩
/-- check_future, raising: state, goal, found -/
def bx_check_future (Ex : Xn → Env → Prop) : DTS := (dSeq (dSetG false 2 (dCallX q_obstacle Ex (dCons (dVar 0) (dCons (dVar 1) dNil))))
  (dIfS (dTest (dOp (φIsN true) (dVar 2) (dC .none))) (dRaise "Unreachable" "obstacle" (dVar 2) Ex) dNext))
abbrev kx_check_future : Nat := 1
def q_check_future : DSpX := fun args c Q Ex => ∃ (d e : PyData) (ns gs : List Int), args = [.sh d, .sh e] ∧ PyData.its d = some (dI ns) ∧ PyData.its e = some (dI gs) ∧ Stt ns ∧ Stt gs ∧
  (gs.length = ns.length → (Lead ns gs → Q (.sh .none) c) ∧ (¬ Lead ns gs → Ex (xUn (obsF ns gs)) c)) ∧ (gs.length ≠ ns.length → Ex (xSize gs.length) c)
theorem monx_check_future : MonX q_check_future := fun args c A B C D h k ⟨d, e, ns, gs, ea, h1, h2, h3, h4, q1, q2⟩ => ⟨d, e, ns, gs, ea, h1, h2, h3, h4, fun z => ⟨fun f => h _ _ ((q1 z).1 f), fun f => k _ _ ((q1 z).2 f)⟩, fun z => k _ _ (q2 z)⟩
theorem mx_check_future : ∀ args c Q Ex, q_check_future args c Q Ex → defX kx_check_future bx_check_future args c Q Ex := by
  rintro _ c Q Ex ⟨d, e, ns, gs, rfl, h1, h2, h3, h4, q1, q2⟩
  show bx_check_future _ _ ⟨[.sh d, .sh e, .un], c⟩
  unfold bx_check_future
  refine sq_ ?_
  rfl'
  refine ⟨rfl, d, e, ns, gs, rfl, h1, h2, h3, h4, fun z => ?_, q2⟩
  by_cases f : Lead ns gs
  · rw [obs_lead h3 h4 z f]
    rfl'
    exact (q1 z).1 f
  · rcases obsF_form ns gs with h | ⟨s, zs, h⟩
    · exact absurd ((lead_iff h3 h4 z).mp h) f
    · have q := (q1 z).2 f
      rw [h] at q ⊢
      rfl'
      exact q
/-- word_to, raising: state, goal, word, ring -/
def bx_word_to (Ex : Xn → Env → Prop) : DTS := (dSeq (dDrop (dCallX q_check_future Ex (dCons (dVar 0) (dCons (dVar 1) dNil))))
  (dSeq (dSetG true 2 (dCall p_outside_calls (dCons (dVar 0) (dCons (dVar 1) dNil))))
  (dSeq (dFor (dIter (dCall p_rings (dCons (dVar 0) dNil))) (dName 3) (dExt 2 (dCall p_ring_calls (dCons (dVar 3) (dCons (dVar 1) dNil)))))
  (dRet (dVar 2)))))
abbrev kx_word_to : Nat := 2
def q_word_to : DSpX := fun args c Q Ex => ∃ (d e : PyData) (ns gs : List Int), args = [.sh d, .sh e] ∧ PyData.its d = some (dI ns) ∧ PyData.its e = some (dI gs) ∧ Stt ns ∧ Stt gs ∧ ns.length ≤ 60 ∧
  (gs.length = ns.length → (Lead ns gs → ∀ ws, Low ns.length ws → callAll ns ws = gs → ws.length ≤ 300000 → ws = wordF ns gs → Q (.nw (dI ws)) c) ∧ (¬ Lead ns gs → Ex (xUn (obsF ns gs)) c)) ∧ (gs.length ≠ ns.length → Ex (xSize gs.length) c)
theorem monx_word_to : MonX q_word_to := fun args c A B C D h k ⟨d, e, ns, gs, ea, h1, h2, h3, h4, h5, q1, q2⟩ => ⟨d, e, ns, gs, ea, h1, h2, h3, h4, h5, fun z => ⟨fun f ws a b l m => h _ _ ((q1 z).1 f ws a b l m), fun f => k _ _ ((q1 z).2 f)⟩, fun z => k _ _ (q2 z)⟩
theorem mx_word_to : ∀ args c Q Ex, q_word_to args c Q Ex → defX kx_word_to bx_word_to args c Q Ex := by
  rintro _ c Q Ex ⟨d, e, ns, gs, rfl, h1, h2, h3, h4, h6, q1, q2⟩
  show bx_word_to _ _ ⟨[.sh d, .sh e, .un, .un], c⟩
  unfold bx_word_to
  refine sq_ ?_
  rfl'
  refine ⟨rfl, d, e, ns, gs, rfl, h1, h2, h3, h4, fun h5 => ⟨fun h7 => ?_, (q1 h5).2⟩, q2⟩
  have q := (q1 h5).1 h7
  have hw := (ways_iff h3).mpr h7.ways
  refine sq_ ?_
  rfl'
  refine ⟨d, e, ns, gs, rfl, h1, h2, h3, h5, h6, hw, fun X hX pw xl sr => ?_⟩
  rfl'
  refine sqa_ fun D hD => ?_
  rfl'
  refine c_rings h1 h3 (by omega) fun RS hR => ?_
  have rl := hR.len
  rfl'
  refine ⟨rfl, ?_⟩
  refine word_rings h2 h3 h4 h5 h6 h7 hR RS [] _ _ rfl (way_begin h3 hw hR hX pw) (by omega) fun wd x3 w wl we => hD _ ?_
  rfl'
  exact q wd w.low (way_end h3 h5 hR w) wl (by rw [we, sr, hR.eq (closed_rings h3)]; rfl)
end Lp

namespace Lp
open PySem PySem.Spec PyProof.Rows L2
section
variable {w : Wx} {t : TA} {f : DTA} {a : Addr} {v : V} {i n : Nat}
end
section
variable {w : World} {cl : Str → Option Addr} {P0 : Hp} {W : WX} {Ex : Xn → Env → Prop} {a : Addr} {v : V} {i n : Nat}
end
section
variable {X : Cx} {CX : CXT} {k i : Nat} {f : Addr} {fd : FuncData} {ps : List Str} {sp : Sp} {x : Str} {p pos : Pos} {e : Expr} {es : List Expr} {t : TA}
end
end Lp

namespace Lp
open PySem PySem.Spec PyProof.Rows L2
def tNames (fs : List (Addr × Sp)) : TA := fun _ H Q => Q (fs.map fun q => V.ref q.1) H
def PkOk (X : Cx) (CX : CXT) (q : Addr × Sp) : Prop := ∃ (k : Nat) (fd : FuncData) (ps : List Str), FnOk X.prog X.w X.K X.mg X.base CX k q.1 fd ps q.2 ∧ Room k X.A ∧ PySem.W.keepIn X.K (.ref q.1) = true ∧ Binds X.K fd ps []
structure Pks (X : Cx) (CX : CXT) (es : List Expr) (fs : List (Addr × Sp)) : Prop where
  pa : PA X es (tNames fs)
  ok : ∀ q ∈ fs, PkOk X CX q
def tPick (K : PySem.W.Frag) (fs : List (Addr × Sp)) (tb : TE) (E : L2.St → XK) (t : TA) : TE := fun σ H Q => tOp (rIx K) (tLst (tNames fs)) tb σ H fun v H1 => ∃ q ∈ fs, v = .ref q.1 ∧ t σ H1 fun vs H2 => q.2 vs H2 Q (E σ)
section
variable {X : Cx} {CX : CXT} {k : Nat} {f : Addr} {fd : FuncData} {ps : List Str} {sp : Sp} {x : Str} {p p1 p2 pos : Pos} {e b : Expr} {es as : List Expr} {tb : TE} {t : TA} {fs : List (Addr × Sp)} {K : PySem.W.Frag}
theorem pks_nil : Pks X CX [] [] := ⟨pa_nil, fun _ h => nomatch h⟩
theorem pks_cons (F : FnOk X.prog X.w X.K X.mg X.base CX k f fd ps sp) (hr : Room k X.A) (hg : Gl X x) (hm : X.mg x = some (.ref f)) (hk : PySem.W.keepIn X.K (.ref f) = true) (hb : Binds X.K fd ps []) (r : Pks X CX es fs)
    (hd : (x == ("__debug__" : Str)) = false := by decide) (hs : starEach (.Name x p :: es) X.env = (false, eval (.Name x p) X.env) :: starEach es X.env := by rfl) : Pks X CX (.Name x p :: es) ((f, sp) :: fs) := by
  refine ⟨pa_cons (te := tC (.ref f)) (pe_glob hg hm rfl hd) r.pa hs, fun q h => ?_⟩
  rcases List.mem_cons.mp h with rfl | h
  · exact ⟨k, fd, ps, F, hr, hk, hb⟩
  · exact r.ok q h
theorem arm_pick (ls : List Expr) (p1 : Pos) (b : Expr) (p2 : Pos) (args : List Expr) (keywords : List Keyword) (pos : Pos) (env : PySem.Env) : eval (.Call (.Subscript (.List ls p1) b p2) args keywords pos) env = (do
    callWith pos (← eval (.Subscript (.List ls p1) b p2) env) [] (backTo pos (starEach args env)) (backToKw pos (keywordEach keywords env))) := rfl
theorem pe_pick {E : L2.St → XK} (ix : IxR X (rIx K)) (hx : ∀ σ, PassesAt CX X σ (E σ)) (P : Pks X CX es fs) (hb : PE X b tb) (hs : PlainIx b) (ha : PA X (e :: as) t)
    (he : starEach (e :: as) X.env = (false, eval e X.env) :: starEach as X.env := by rfl) (plain : (backTo pos (starEach as X.env)).any (·.1) = false := by rfl) :
    PE X (.Call (.Subscript (.List es p1) b p2) (e :: as) [] pos) (tPick K fs tb E t) := by
  refine ⟨fun pins s σ H Q I h => ?_⟩
  rw [arm_pick]
  refine wpAny_bind (thn ((pe_ix ix (pe_lst (pos := p1) P.pa) hb hs (pos := p2)).run pins s σ H _ I h) fun u s1 got => ?_)
  obtain ⟨v, H1, I1, r1, ⟨f, sp⟩, hq, rfl, q⟩ := got
  cases r1
  obtain ⟨k, fd, ps, F, hr, hk, hb'⟩ := P.ok _ hq
  refine PySem.W.callWith_K (h₀ := X.base) I1.ok.mod.kin hk (thn (ha.run pos pins s1 σ _ _ I1 q) fun us s2 got => ?_) he plain
  obtain ⟨vs, H2, I2, r, q⟩ := got
  exact ⟨I2.kIn, run_fnS F hr hb' (hx σ) I2 r q⟩
end
def dPickX (Fs : List DSpX) (Ex : Xn → Env → Prop) (g : DTE) (f : DTA) (ε : Env) (Q : R → Env → Prop) : Prop := g ε fun y ε1 => match y.dat with
  | some (.int i) => ∃ F, atI Fs i = some F ∧ dCallX F Ex f ε1 Q
  | _ => False
def AllX (cl : Str → Option Addr) (n : Nat) : List (Addr × Sp) → List DSpX → Prop
  | [], [] => True
  | q :: fs, F :: Fs => q.2 = spX cl n F ∧ MonX F ∧ AllX cl n fs Fs
  | _, _ => False
theorem axn {cl : Str → Option Addr} {n : Nat} : AllX cl n [] [] := trivial
theorem axc {cl : Str → Option Addr} {n : Nat} {a : Addr} {F : DSpX} {fs : List (Addr × Sp)} {Fs : List DSpX} (h : MonX F) (r : AllX cl n fs Fs) : AllX cl n ((a, spX cl n F) :: fs) (F :: Fs) := ⟨rfl, h, r⟩
theorem AllX.len {cl : Str → Option Addr} {n : Nat} : ∀ {fs : List (Addr × Sp)} {Fs : List DSpX}, AllX cl n fs Fs → fs.length = Fs.length
  | [], [], _ => rfl
  | _ :: _, _ :: _, h => by rw [List.length_cons, List.length_cons, h.2.2.len]
  | [], _ :: _, h => False.elim h
  | _ :: _, [], h => False.elim h
theorem AllX.get {cl : Str → Option Addr} {n : Nat} : ∀ {fs : List (Addr × Sp)} {Fs : List DSpX}, AllX cl n fs Fs → ∀ {i : Nat} {F : DSpX}, Fs[i]? = some F → ∃ q, fs[i]? = some q ∧ q.2 = spX cl n F ∧ MonX F
  | q :: _, _ :: _, h, 0, _, e => by cases e; exact ⟨q, rfl, h.1, h.2.1⟩
  | _ :: _, _ :: _, h, i + 1, _, e => by
    have := h.2.2.get (i := i) (by simpa using e)
    simpa using this
  | [], [], _, i, _, e => by simp at e
  | [], _ :: _, h, _, _, _ => False.elim h
  | _ :: _, [], h, _, _, _ => False.elim h
theorem AllX.mem {cl : Str → Option Addr} {n : Nat} : ∀ {fs : List (Addr × Sp)} {Fs : List DSpX}, AllX cl n fs Fs → ∀ F ∈ Fs, MonX F
  | _ :: _, _ :: _, h, F, m => by
    rcases List.mem_cons.mp m with rfl | m
    · exact h.2.1
    · exact h.2.2.mem F m
  | [], [], _, F, m => by simp at m
  | [], _ :: _, h, _, _ => False.elim h
  | _ :: _, [], h, _, _ => False.elim h
theorem atI_mem {α : Type} {xs : List α} {i : Int} {x : α} (h : atI xs i = some x) : x ∈ xs := by
  unfold atI at h
  cases hx : ixN xs.length i with
  | none => rw [hx] at h; cases h
  | some j => rw [hx] at h; exact List.mem_of_getElem? h
section
variable {w : World} {cl : Str → Option Addr} {P0 : Hp} {W : WX} {Ex : Xn → Env → Prop} {n : Nat} {K : PySem.W.Frag}
theorem se_pickX {fs : List (Addr × Sp)} {Fs : List DSpX} {tb : TE} {g : DTE} {t : TA} {f : DTA} (h : AllX cl n fs Fs) (hg : SE (WxE w cl P0 W Ex) tb g) (hf : SA (WxE w cl P0 W Ex) n t f) (hl : Fs.length ≤ sizeLine := by decide) :
    SE (WxE w cl P0 W Ex) (tPick K fs tb (WE W) t) (dPickX Fs Ex g f) := by
  constructor
  · intro ε A B hAB q
    refine hg.mono _ _ _ (fun y ε1 q => ?_) q
    split at q
    · obtain ⟨F, hF, q⟩ := q
      exact ⟨F, hF, (se_callX (h.mem F (atI_mem hF)) hf).mono _ _ _ hAB q⟩
    · exact q.elim
  · intro Z O σ ε L H Q X q
    show tOp (rIx K) (tLst (tNames fs)) tb σ H _
    show (fs.map fun q => V.ref q.1).length ≤ sizeLine ∧ _
    refine ⟨by rw [List.length_map, h.len]; exact hl, fun p np => ?_⟩
    have e1 : Ext none L H L (upd H p (.lst (fs.map fun q => V.ref q.1))) := Ext.own np
    have X1 := X.step e1 (same_own X.lh (X.lh.free np))
    refine hg.run Z O σ ε L _ _ X1 (hg.mono _ _ _ (fun y ε1 q => ?_) q)
    intro u L2 H2 X2 e2 r2
    split at q
    · rename_i i ey
      obtain ⟨F, hF, q⟩ := q
      have hi := (r2.vl ey).int
      subst hi
      have hF' := hF
      unfold atI at hF'
      cases hx : ixN Fs.length i with
      | none => rw [hx] at hF'; cases hF'
      | some j =>
        rw [hx] at hF'
        obtain ⟨q0, h0, h1, h2⟩ := h.get hF'
        have at0 : atI (fs.map fun q => V.ref q.1) i = some (.ref q0.1) := by
          unfold atI
          rw [List.length_map, h.len, hx]
          show (fs.map _)[j]? = _
          rw [List.getElem?_map, h0]
          rfl
        have hp : Z.b ≠ some p := fun hb => (X.bo p hb).2.1.there np
        refine .inl ⟨p, _, i, .ref q0.1, rfl, rfl, SqL.of (e2.hh p _ upd_same hp), at0, q0, List.mem_of_getElem? h0, rfl, ?_⟩
        rw [h1]
        refine (se_callX h2 hf).run Z O σ ε1 L2 H2 Q X2 ((se_callX h2 hf).mono _ _ _ (fun r ε2 k => ?_) q)
        intro v L3 H3 X3 e3 r3
        exact k v L3 H3 X3 ((e1.any.trans e2).trans e3) (r3.back (e1.any.trans e2))
    · exact q.elim
end
end Lp

namespace Lp
open PySem PySem.Spec PyProof.Rows L2
/-- no times: an empty tuple -/
theorem tuple_mul0 (l : Addr) (items : Array Value) (n : Nat) (dd : Option Addr) (sl : Array (Option Value)) (u : Tok) (c1 : items.isEmpty = false) :
    Meets (Builtin.«tuple.__mul__» ⟨[.ref l, .int 0 u], []⟩) (fun _ R s => s.heap.get? l = some { cls := .type "tuple", dict := dd, data := .seq items n, slots := sl } ∧
      R (.ok (.ret (Value.ref s.heap.objs.size))) { s with heap := s.heap.push { cls := Value.type "tuple", data := Data.seq #[] }, toks := s.toks }) :=
  .of_wp fun prog w A R s h => by
    obtain ⟨hp, g, d, tk, os⟩ := s
    obtain ⟨hl, h⟩ := h
    have f1 := AutoSeq1.idx_int
    wp_walk using wpAny_loadPart' hl
    exact ⟨_, rfl, h⟩
def rMulZ (K : PySem.W.Frag) : R2 := fun x y H Q => ∃ l k xs, x = .ref l ∧ y = .int k ∧ SqT K H l xs ∧ xs ≠ [] ∧ 0 ≤ k ∧ k ≤ 1000 ∧ xs.length ≤ 1000 ∧ (k = 1 → Q (.ref l) H) ∧ ∀ p o, H p = none → o.dict = none → Q (.ref p) (upd H p (.frz o (.tup (List.replicate k.toNat xs).flatten)))
theorem op_mulZ {X : Cx} : OpR X (binaryOp .Mult) (rMulZ X.K) := by
  rintro pins s σ H x y v u Q I rx ry ⟨l, k, xs, rfl, rfl, hT, hne, h1, h2, hz, q1, q2⟩
  by_cases zero : k = 0
  · subst zero
    cases rx
    obtain ⟨t, rfl⟩ := ry
    obtain ⟨its, r, ⟨⟨cls, dd, data, sl⟩, ho, hc, n, hd⟩, hs⟩ := I.tuple hT
    simp only at hc hd
    subst hc hd
    have some_ : its.toArray.isEmpty = false := by
      cases its with
      | nil => exact absurd (List.eq_nil_of_length_eq_zero r.length) hne
      | cons _ _ => rfl
    refine wpAny_binaryOp_repeat_ref (T := "tuple") (U := "int") (by decide) ⟨_, ho, rfl⟩ (fun s' => typeIs_int s' 0 t) noFill_tuple_mul F.fills_int_mul F.slot_int_rmul repeat_tuple F.slot_int_index.lookup
      (call_meets F.slot_int_rmul (typeIs_int s 0 t) F.entry_int_rmul (F.args_int_rmul_2 _ _) (int_rmul_tuple 0 t l its.toArray n dd sl)
        ⟨ho, rfl, ⟨_, ho, rfl⟩, call_meets F.slot_tuple_mul ⟨_, ho, rfl⟩ F.entry_tuple_mul (F.args_tuple_mul_2 _ _) (tuple_mul0 l its.toArray n dd sl t some_) ⟨ho, ?_⟩⟩)
    exact newT I (r.rep 0) (by show (0 : Nat) ≤ sizeLine; exact Nat.zero_le _) q2
  · exact op_mulT pins s σ H _ _ v u Q I rx ry ⟨l, k, xs, rfl, rfl, hT, hne, by omega, h2, hz, q1, q2⟩
theorem mulZK {K : PySem.W.Frag} {X : Cx} (e : X.K = K) : OpR X (binaryOp .Mult) (rMulZ K) := by subst e; exact op_mulZ
def φMulZ (x y : PyData) (Q : R → Prop) : Prop := match x, y with
  | .tuple a, .int k => (a ≠ [] ∧ 0 ≤ k ∧ k ≤ 1000 ∧ a.length ≤ 1000) ∧ Q (.sh (.tuple (List.replicate k.toNat a).flatten))
  | _, _ => False
theorem r2_mulZ {K : PySem.W.Frag} : R2K (rMulZ K) φMulZ := by
  constructor
  · intro x y A B hAB q
    unfold φMulZ at q ⊢
    split at q
    · exact ⟨q.1, hAB _ q.2⟩
    · exact q.elim
  · intro L H x y dx dy Q s hx hy q
    unfold φMulZ at q
    split at q
    · rename_i a0 k0
      obtain ⟨a, xs, rfl, h1, h2⟩ := hx.tup
      refine ⟨a, _, xs, rfl, hy.int, (h1.to s).seq, fun z => q.1.1 (h2.nil_iff.mp z), q.1.2.1, q.1.2.2.1, by rw [h2.len]; exact q.1.2.2.2, fun e => ?_, fun p o np no => ?_⟩
      · have e2 := q.2
        rw [e] at e2
        have e3 : ∀ a : List PyData, (List.replicate (1 : Int).toNat a).flatten = a := fun a => by
          rw [show (1 : Int).toNat = 1 from rfl, List.replicate_one, List.flatten_cons, List.flatten_nil, List.append_nil]
        rw [e3] at e2
        exact e2 _ L H (Ext.refl _ _ _) s (.tup h1 h2)
      · have e1 : Ext none L H (upd L p (.frz o (.tup (List.replicate k0.toNat xs).flatten))) (upd H p (.frz o (.tup (List.replicate k0.toNat xs).flatten))) := Ext.new s np
        exact q.2 _ _ _ e1 (same_both s) (.tup ⟨o, no, upd_same⟩ ((h2.rep _).to e1.ll))
    · exact q.elim
end Lp

namespace Lp
open PySem PySem.Spec PyProof.Rows L2
section
variable {w : Wx} {f g : DTE} {ta tb : TE}
def dListRg2 (f g : DTE) (ε : Env) (Q : R → Env → Prop) : Prop := f ε fun x ε1 => g ε1 fun y ε2 => match x.dat, y.dat with
  | some (.int i), some (.int j) => (-1000000 ≤ i ∧ i ≤ 1000000 ∧ -1000000 ≤ j ∧ j ≤ 1000000) ∧ Q (.nw (rgD i (j - i).toNat)) ε2
  | _, _ => False
theorem dvs_rg2 {H : Hp} (i j : Int) : DVs H (rgV i j) (rgD i (j - i).toNat) := by
  unfold rgV rgD
  generalize List.range (j - i).toNat = l
  induction l with
  | nil => exact .nil
  | cons x r ih => exact .cons (.int _) ih
theorem se_listRg2 (hf : SE w ta f) (hg : SE w tb g) : SE w (tLstRg (tRg2 ta tb)) (dListRg2 f g) := by
  constructor
  · intro ε A B h q
    refine hf.mono _ _ _ (fun x ε1 q => hg.mono _ _ _ (fun y ε2 q => ?_) q) q
    split at q
    · exact ⟨q.1, h _ _ q.2⟩
    · exact q.elim
  · intro Z O σ ε L H Q X q
    refine hf.run Z O σ ε L H _ X (hf.mono _ _ _ (fun x ε1 q => ?_) q)
    intro v L1 H1 X1 e1 r1
    refine hg.run Z O σ ε1 L1 H1 _ X1 (hg.mono _ _ _ (fun y ε2 q => ?_) q)
    intro u L2 H2 X2 e2 r2
    have r1' := r1.mono X1 e2
    split at q
    · rename_i i j ex ey
      obtain ⟨⟨i1, i2, j1, j2⟩, q⟩ := q
      refine ⟨i, j, (r1'.vl ex).int, (r2.vl ey).int, ⟨by omega, by omega, by omega, by omega, by omega⟩, fun p np => ?_⟩
      have ep : Ext none L2 H2 L2 (upd H2 p (.lst (rgV i j))) := Ext.own np
      exact q _ L2 _ (X2.step ep (same_own X2.lh (X2.lh.free np))) ((e1.trans e2).trans ep.any) (VR.back (VR0.vr (r := .nw (rgD i (j - i).toNat)) ⟨p, _, rfl, np, X2.lh.free np, upd_same, dvs_rg2 i j⟩ X2) (e1.trans e2))
    · exact q.elim
end
end Lp

namespace Lp
open PySem PySem.Spec PyProof.Rows L2
local macro_rules | `(tactic| rfl') => `(tactic| try dsimp only [dVar_, gv_sh, gv_ow, gv_bx, gv_raw, gv_exn, gv_st, dC, dRaw, dOp, dUn, dTest, dTruth, dAnd, dOr, dNot, dYes, dIf, dAndV, dOrV, dNotV, dNotT, dChain, dNil, dCons, dTup, dLst, dats, dCB, dNoP, dPart, dSl, dNext, dBreak, dCont, dNever, dDrop, dRet, dRetN, dIfS, dSetG, dPar, dPar3, dAppend, dAppPop, dSetIx, dExt, dAug, dSet0, dSAdd, dSNotIn, dIter_, gi_l, gi_t, gi_b, dRng1, dRng2, dName, dGNil, dGCons, dGTup, dAsg, dFor, dWhile, dCall, dCallR, dArgs_, ga_f, ga_t, argsOf, dLc, wipeE, dListRg, dIndex, dSortSet, dSortSc, dEnum, dEnA, dZip, dIsi, dIsi2, isaT, φI, φB, φC, φNeg, add_i, add_l, add_t, mul_i, mul_l, φIx, sl_l, sl_t, eq_i, eq_s, eq_l, eq_t, eq_b, eq_n, φIsN, isN_n, isN_b, isN_i, isN_s, isN_l, isN_t, φLen, φList, φTuple, φAbs, φInt, φMax, φIsB, φIsNB, its_l, its_t, rd_sh, rd_nw, rd_br, rp_sh, rp_nw, rp_br, rp_bx, rp_raw, rp_sr, rr_sh, rr_nw, rr_br, ra_sh, ra_br, ra_bx, ra_raw, va_sh, va_nt, va_nf, va_raw, hb_n, hb_sh, hb_bx, hb_raw, hb_br, sh_n, sh_c, tr_n, tr_b, tr_i, tr_l, tr_t, ty_n, ty_b, ty_i, ty_s, ty_l, ty_t, if_ff, if_tt, Env.set, List.getElem?_cons_succ, List.getElem?_cons_zero, List.set_cons_succ, List.set_cons_zero, List.reverse_cons, List.reverse_nil, List.nil_append, List.cons_append, Option.bind_some, ite_true, ite_false, dCallX, dArgsX_, gx_s, dRaise, dIsX, dAttr, dIsNE, dPickX, dListRg2])
/-- leads, raising: state, goal -/
def bx_leads (Ex : Xn → Env → Prop) : DTS := (dRet (dOp (φIsN false) (dCallX q_obstacle Ex (dCons (dVar 0) (dCons (dVar 1) dNil))) (dC .none)))
abbrev kx_leads : Nat := 0
def q_leads : DSpX := fun args c Q Ex => ∃ (d e : PyData) (ns gs : List Int), args = [.sh d, .sh e] ∧ PyData.its d = some (dI ns) ∧ PyData.its e = some (dI gs) ∧ Stt ns ∧ Stt gs ∧ (gs.length = ns.length → Q (.sh (.bool (isN (obsF ns gs)))) c) ∧ (gs.length ≠ ns.length → Ex (xSize gs.length) c)
theorem monx_leads : MonX q_leads := fun args c A B C D h k ⟨d, e, ns, gs, ea, h1, h2, h3, h4, q1, q2⟩ => ⟨d, e, ns, gs, ea, h1, h2, h3, h4, fun z => h _ _ (q1 z), fun z => k _ _ (q2 z)⟩
theorem mx_leads : ∀ args c Q Ex, q_leads args c Q Ex → defX kx_leads bx_leads args c Q Ex := by
  rintro _ c Q Ex ⟨d, e, ns, gs, rfl, h1, h2, h3, h4, q1, q2⟩
  show bx_leads _ _ ⟨[.sh d, .sh e], c⟩
  unfold bx_leads
  rfl'
  refine ⟨rfl, d, e, ns, gs, rfl, h1, h2, h3, h4, fun z => ?_, fun z => q2 z⟩
  rfl'
  exact q1 z
/-- is_obstacle, raising: state, goal, value, kind, people, item -/
def bx_is_obstacle (Ex : Xn → Env → Prop) : DTS := (dSeq (dDrop (dCallX q_check_size Ex (dCons (dVar 0) (dCons (dVar 1) dNil))))
  (dSeq (dIfS (dOr (dNot (dTruth (dIsi "tuple" (dVar 2)))) (dNot (dTest (dChain (φB fun i j => decide (i ≤ j)) (φB fun i j => decide (i ≤ j)) (dC (.int 2)) (dCB φLen (dCons (dVar 2) dNil)) (dC (.int 4)))))) (dRet (dC (.bool false))) dNext)
  (dSeq (dSetG false 3 (dOp φIx (dVar 2) (dC (.int 0))))
  (dSeq (dSetG false 4 (dSl φSl (dVar 2) (dPart (dC (.int 1))) dNoP))
  (dSeq (dIfS (dNot (dTruth (dCB (φAll false) (dCons (dLc (dIter (dVar 4)) (dName 5) dYes (dCall p_is_person (dCons (dVar 5) (dCons (dCB φLen (dCons (dVar 0) dNil)) dNil))) [5]) dNil)))) (dRet (dC (.bool false))) dNext)
  (dSeq (dIfS (dAnd (dTest (dOp (φEq false) (dVar 3) (dC (.str "way")))) (dTest (dOp (φEq false) (dCB φLen (dCons (dVar 4) dNil)) (dC (.int 1))))) (dRet (dOp (φIn true) (dOp φIx (dVar 1) (dOp φIx (dVar 4) (dC (.int 0)))) (dCall p_way (dCons (dVar 0) (dCons (dOp φIx (dVar 4) (dC (.int 0))) dNil))))) dNext)
  (dSeq (dIfS (dAnd (dTest (dOp (φEq false) (dVar 3) (dC (.str "rings")))) (dTest (dOp (φEq false) (dCB φLen (dCons (dVar 4) dNil)) (dC (.int 2))))) (dRet (dCall p_are_apart (dCons (dVar 0) (dCons (dVar 1) (dCons (dOp φIx (dVar 4) (dC (.int 0))) (dCons (dOp φIx (dVar 4) (dC (.int 1))) dNil)))))) dNext)
  (dSeq (dIfS (dAnd (dTest (dOp (φEq false) (dVar 3) (dC (.str "order")))) (dTest (dOp (φEq false) (dCB φLen (dCons (dVar 4) dNil)) (dC (.int 3))))) (dRet (dCall p_are_reversed (dCons (dVar 0) (dCons (dVar 1) (dCons (dVar 4) dNil))))) dNext)
  (dRet (dC (.bool false)))))))))))
abbrev kx_is_obstacle : Nat := 3
def q_is_obstacle : DSpX := fun args c Q Ex => ∃ (d e v : PyData) (ns gs : List Int), args = [.sh d, .sh e, .sh v] ∧ PyData.its d = some (dI ns) ∧ PyData.its e = some (dI gs) ∧ gs.length ≠ ns.length ∧ Ex (xSize gs.length) c
theorem monx_is_obstacle : MonX q_is_obstacle := fun args c A B C D h k ⟨d, e, v, ns, gs, ea, h1, h2, h3, q⟩ => ⟨d, e, v, ns, gs, ea, h1, h2, h3, k _ _ q⟩
theorem mx_is_obstacle : ∀ args c Q Ex, q_is_obstacle args c Q Ex → defX kx_is_obstacle bx_is_obstacle args c Q Ex := by
  rintro _ c Q Ex ⟨d, e, v, ns, gs, rfl, h1, h2, h3, q⟩
  show bx_is_obstacle _ _ ⟨[.sh d, .sh e, .sh v, .un, .un, .un], c⟩
  unfold bx_is_obstacle
  refine sq_ ?_
  rfl'
  refine ⟨rfl, d, e, dI ns, dI gs, rfl, h1, h2, fun z => absurd (by rw [dI_len, dI_len] at z; exact z) h3, fun _ => ?_⟩
  rw [dI_len]
  exact q
/-- is_word_to, raising: state, goal, value, item -/
def bx_is_word_to (Ex : Xn → Env → Prop) : DTS := (dSeq (dDrop (dCallX q_check_size Ex (dCons (dVar 0) (dCons (dVar 1) dNil))))
  (dSeq (dIfS (dNot (dTruth (dIsi "list" (dVar 2)))) (dRet (dC (.bool false))) dNext)
  (dSeq (dIfS (dNot (dTruth (dCB (φAll false) (dCons (dLc (dIter (dVar 2)) (dName 3) dYes (dCall p_is_person (dCons (dVar 3) (dCons (dCB φLen (dCons (dVar 0) dNil)) dNil))) [3]) dNil)))) (dRet (dC (.bool false))) dNext)
  (dRet (dOp (φEq false) (dCall p_called_all (dCons (dVar 0) (dCons (dVar 2) dNil))) (dCB φTuple (dCons (dVar 1) dNil)))))))
abbrev kx_is_word_to : Nat := 1
def q_is_word_to : DSpX := q_is_obstacle
theorem monx_is_word_to : MonX q_is_word_to := monx_is_obstacle
theorem mx_is_word_to : ∀ args c Q Ex, q_is_word_to args c Q Ex → defX kx_is_word_to bx_is_word_to args c Q Ex := by
  rintro _ c Q Ex ⟨d, e, v, ns, gs, rfl, h1, h2, h3, q⟩
  show bx_is_word_to _ _ ⟨[.sh d, .sh e, .sh v, .un], c⟩
  unfold bx_is_word_to
  refine sq_ ?_
  rfl'
  refine ⟨rfl, d, e, dI ns, dI gs, rfl, h1, h2, fun z => absurd (by rw [dI_len, dI_len] at z; exact z) h3, fun _ => ?_⟩
  rw [dI_len]
  exact q
/-- _law_size_right: _law_sort, _law_here, _law_there, _law_caught, _law_fine, error -/
def b_law_size_right : DTS := (dSeq (dSetG false 3 (dC .none))
  (dSeq (dTry 5 3 ["OtherSize", "NoPerson", "Unreachable"] (fun Ex1 => (dIfS (dTest (dOp (φB fun i j => decide (i < j)) (dVar 0) (dC (.int 3)))) (dDrop (dPickX [q_leads, q_obstacle, q_word_to] Ex1 (dVar 0) (dCons (dVar 1) (dCons (dVar 2) dNil)))) (dDrop (dPickX [q_is_obstacle, q_is_word_to] Ex1 (dOp (φI fun i j => i - j) (dVar 0) (dC (.int 3))) (dCons (dVar 1) (dCons (dVar 2) (dCons (dC .none) dNil))))))))
  (dSeq (dSetG false 4 (dAndV (dIsX ["OtherSize"] (dVar 3)) (dIsX ["ValueError"] (dVar 3))))
  (dRet (dAndV (dVar 4) (dAndV (dNotV (dIsX ["NoPerson", "Unreachable"] (dVar 3))) (dCall (p_law_same_2 3) (dCons (dAttr "size" (dVar 3)) (dCons (dCB φLen (dCons (dVar 2) dNil)) dNil)))))))))
abbrev k_law_size_right : Nat := 3
def p_law_size_right : DSp := fun args c Q => ∃ (k : Int) (ns gs : List Int), args = [.sh (.int k), .sh (.tuple (dI ns)), .sh (.tuple (dI gs))] ∧ 0 ≤ k ∧ k < 5 ∧ Stt ns ∧ Stt gs ∧ ns.length ≤ 60 ∧ gs.length ≠ ns.length ∧ Q (.sh (.bool true)) c
theorem mon_law_size_right : MonF p_law_size_right := fun args c A B h ⟨k, ns, gs, ea, h0, h1, h2, h3, h4, h5, q⟩ => ⟨k, ns, gs, ea, h0, h1, h2, h3, h4, h5, h _ _ q⟩
theorem m_law_size_right : ∀ args c Q, p_law_size_right args c Q → defF k_law_size_right b_law_size_right args c Q := by
  rintro _ c Q ⟨k, ns, gs, rfl, k0, k5, h1, h2, h3, h4, q⟩
  show b_law_size_right _ ⟨[.sh (.int k), .sh (.tuple (dI ns)), .sh (.tuple (dI gs)), .un, .un, .un], c⟩
  unfold b_law_size_right
  refine sq_ ?_
  rfl'
  refine sq_ ?_
  refine ⟨_, fun x ε' h => h, ?_⟩
  rfl'
  have f1 : ([Str.ofString "OtherSize"].any (subX (Str.ofString "OtherSize"))) = true := by decide
  have f2 : ([Str.ofString "ValueError"].any (subX (Str.ofString "OtherSize"))) = true := by decide
  have f3 : ([Str.ofString "NoPerson", Str.ofString "Unreachable"].any (subX (Str.ofString "OtherSize"))) = false := by decide
  have fin : (dSeq
                  (dSetG false 4
                    (dAndV (dIsX [Str.ofString "OtherSize"] (dVar 3)) (dIsX [Str.ofString "ValueError"] (dVar 3))))
                  (dRet
                    (dAndV (dVar 4)
                      (dAndV (dNotV (dIsX [Str.ofString "NoPerson", Str.ofString "Unreachable"] (dVar 3)))
                        (dCall (p_law_same_2 3)
                          (dCons (dAttr (Str.ofString "size") (dVar 3))
                            (dCons (dCB φLen (dCons (dVar 2) dNil)) dNil)))))))
                  { nx := fun ε => Q (R.sh PyData.none) ε.c, rt := fun r ε => Q r ε.c }
                  ⟨[SV.sh (PyData.int k), SV.sh (PyData.tuple (dI ns)), SV.sh (PyData.tuple (dI gs)), SV.exn (xSize gs.length), SV.un, SV.un], c⟩ := by
    refine sq_ ?_
    rfl'
    rw [f1]
    refine if_t rfl ?_
    rw [f2]
    refine if_t rfl ?_
    rw [f3]
    refine if_t rfl ?_
    refine ⟨_, rfl, ?_⟩
    rw [dI_len]
    exact c_same2 rfl q
  have ne : ∀ A : Prop, gs.length = ns.length → A := fun A z => absurd z h4
  rcases (by omega : k = 0 ∨ k = 1 ∨ k = 2 ∨ k = 3 ∨ k = 4) with rfl | rfl | rfl | rfl | rfl
  · refine it_t (by decide) ?_
    exact ⟨_, rfl, rfl, _, _, ns, gs, rfl, its_t _, its_t _, h1, h2, ne _, fun _ => ⟨rfl, by simp, fin⟩⟩
  · refine it_t (by decide) ?_
    exact ⟨_, rfl, rfl, _, _, ns, gs, rfl, its_t _, its_t _, h1, h2, ne _, fun _ => ⟨rfl, by simp, fin⟩⟩
  · refine it_t (by decide) ?_
    exact ⟨_, rfl, rfl, _, _, ns, gs, rfl, its_t _, its_t _, h1, h2, h3, ne _, fun _ => ⟨rfl, by simp, fin⟩⟩
  · refine it_f (by decide) ?_
    exact ⟨_, rfl, rfl, _, _, _, ns, gs, rfl, its_t _, its_t _, h4, rfl, by simp, fin⟩
  · refine it_f (by decide) ?_
    exact ⟨_, rfl, rfl, _, _, _, ns, gs, rfl, its_t _, its_t _, h4, rfl, by simp, fin⟩
def rg15 (N : Nat) : List Int := ((List.range (N - 1)).map fun i : Nat => 1 + (i : Int)) ++ [0]
def tu15 (N : Nat) : List Int := ((N : Int) - 1) :: (List.range (N - 1)).map fun i : Nat => (i : Int)
def cr15 (N : Nat) : List Int := [2, 3, 1] ++ (rg15 N).drop 3
def pa15 (N : Nat) : List Int := [1, 0, 3, 2] ++ List.replicate (N - 4) 0
def ro15 (N : Nat) : List Int := List.replicate N ((N : Int) - 1)
def bo15 (N : Nat) : List Int := ((N : Int) - 1) :: List.replicate (N - 1) 0
def intsB : List PyData → List Int → Bool
  | [], [] => true
  | .int i :: ds, j :: zs => decide (i = j) && intsB ds zs
  | _, _ => false
theorem intsB_eq : ∀ (ds : List PyData) (zs : List Int), intsB ds zs = true → ds = dI zs
  | [], [], _ => rfl
  | .int i :: ds, j :: zs, h => by
    unfold intsB at h
    rw [Bool.and_eq_true] at h
    rw [of_decide_eq_true h.1, intsB_eq ds zs h.2]
    rfl
  | .none :: _, [], h => by cases h
  | .none :: _, _ :: _, h => by cases h
  | .bool _ :: _, [], h => by cases h
  | .bool _ :: _, _ :: _, h => by cases h
  | .str _ :: _, [], h => by cases h
  | .str _ :: _, _ :: _, h => by cases h
  | .list _ :: _, [], h => by cases h
  | .list _ :: _, _ :: _, h => by cases h
  | .tuple _ :: _, [], h => by cases h
  | .tuple _ :: _, _ :: _, h => by cases h
  | .dict _ :: _, [], h => by cases h
  | .dict _ :: _, _ :: _, h => by cases h
  | .int _ :: _, [], h => by cases h
  | [], _ :: _, h => by cases h
def obsB (v : PyData) (s : Str) (zs : List Int) : Bool := match v with
  | .tuple (.str t :: ds) => decide (t = s) && intsB ds zs
  | _ => false
theorem obsB_eq {v : PyData} {s : Str} {zs : List Int} (h : obsB v s zs = true) : v = .tuple (.str s :: dI zs) := by
  unfold obsB at h
  split at h
  · rw [Bool.and_eq_true] at h
    rw [of_decide_eq_true h.1, intsB_eq _ _ h.2]
  · cases h
def stB15 (ns : List Int) : Bool := ns.all (fun z => decide (0 ≤ z ∧ z < (ns.length : Int))) && decide (ns.length ≤ 1000) && decide (1 ≤ ns.length)
theorem stB15_st {ns : List Int} (h : stB15 ns = true) : Stt ns := by
  unfold stB15 at h
  rw [Bool.and_eq_true, Bool.and_eq_true] at h
  exact ⟨fun z hz => of_decide_eq_true (List.all_eq_true.mp h.1.1 z hz), of_decide_eq_true h.1.2, of_decide_eq_true h.2⟩
def chk15 (N : Nat) : Bool := stB15 (rg15 N) && stB15 (tu15 N) && stB15 (cr15 N) && stB15 (pa15 N) && stB15 (ro15 N) && stB15 (bo15 N)
  && obsB (obsF (rg15 N) (tu15 N)) "order" [0, (N : Int) - 1, (N : Int) - 1 - 1] && obsB (obsF (tu15 N) (rg15 N)) "order" [0, 1, 2]
  && obsB (obsF (rg15 N) (cr15 N)) "order" [0, 2, 1] && obsB (obsF (rg15 N) (pa15 N)) "rings" [0, 2]
  && isN (obsF (rg15 N) (ro15 N)) && isN (obsF (rg15 N) (bo15 N)) && !isN (obsF (ro15 N) (rg15 N)) && isN (obsF (bo15 N) (ro15 N))
  && obsB (obsF (ro15 N) (rg15 N)) "way" [0] && obsB (obsF (bo15 N) (rg15 N)) "way" [0]
def rev15 (N : Nat) : Bool := decide (itr (tu15 N) 1 N = 1) && decide (itrs (tu15 N) 1 N).Nodup && decide (itr (rg15 N) 1 N = 1) && decide (itrs (rg15 N) 1 N).Nodup
  && decide ((0 : Int) ∈ itrs (tu15 N) 1 N) && decide ((2 : Int) ∈ itrs (tu15 N) 1 N) && decide ((0 : Int) ∈ itrs (rg15 N) 1 N) && decide ((2 : Int) ∈ itrs (rg15 N) 1 N)
  && decide ((itrs (tu15 N) 1 N).idxOf 0 < (itrs (tu15 N) 1 N).idxOf 2) && decide ((itrs (rg15 N) 1 N).idxOf 2 < (itrs (rg15 N) 1 N).idxOf 0)
theorem chk15_all : ((List.range 11).all fun i => chk15 (i + 4)) = true := by decide +kernel
theorem rev15_all : ((List.range 11).all fun i => rev15 (i + 4)) = true := by decide +kernel
theorem cross15 : obsB (obsF [2, 3, 0, 1] [0, 1, 2, 3]) "rings" [0, 2] = true := by decide +kernel
/-- _law_ring_right: _law_size, _law_here, _law_last, _law_turned, _law_due, _law_told, _law_crossed, _law_pair, _law_root, _law_both -/
def b_law_ring_right : DTS := (dSeq (dPar 1 false 2 false (dCB φTuple (dCons (dOp φAdd (dListRg2 (dC (.int 1)) (dVar 0)) (dLst (dCons (dC (.int 0)) dNil))) dNil)) (dOp (φI fun i j => i - j) (dVar 0) (dC (.int 1))))
  (dSeq (dSetG false 3 (dCB φTuple (dCons (dOp φAdd (dLst (dCons (dVar 2) dNil)) (dListRg (dVar 2))) dNil)))
  (dSeq (dSetG false 4 (dTup (dCons (dC (.str "order")) (dCons (dC (.int 0)) (dCons (dVar 2) (dCons (dOp (φI fun i j => i - j) (dVar 2) (dC (.int 1))) dNil))))))
  (dSeq (dSetG false 5 (dLst (dCons (dCall p_obstacle (dCons (dVar 1) (dCons (dVar 3) dNil))) (dCons (dCall p_obstacle (dCons (dVar 3) (dCons (dVar 1) dNil))) (dCons (dCall p_is_obstacle (dCons (dVar 1) (dCons (dVar 3) (dCons (dTup (dCons (dC (.str "order")) (dCons (dC (.int 1)) (dCons (dC (.int 0)) (dCons (dC (.int 2)) dNil))))) dNil)))) dNil)))))
  (dSeq (dIfS (dNot (dTruth (dCall (p_law_same_2 3) (dCons (dVar 5) (dCons (dLst (dCons (dVar 4) (dCons (dTup (dCons (dC (.str "order")) (dCons (dC (.int 0)) (dCons (dC (.int 1)) (dCons (dC (.int 2)) dNil))))) (dCons (dC (.bool true)) dNil)))) dNil))))) (dRet (dC (.bool false))) dNext)
  (dSeq (dIfS (dNot (dTruth (dCall (p_law_same_2 3) (dCons (dCall p_obstacle (dCons (dTup (dCons (dC (.int 2)) (dCons (dC (.int 3)) (dCons (dC (.int 0)) (dCons (dC (.int 1)) dNil))))) (dCons (dTup (dCons (dC (.int 0)) (dCons (dC (.int 1)) (dCons (dC (.int 2)) (dCons (dC (.int 3)) dNil))))) dNil))) (dCons (dTup (dCons (dC (.str "rings")) (dCons (dC (.int 0)) (dCons (dC (.int 2)) dNil)))) dNil))))) (dRet (dC (.bool false))) dNext)
  (dSeq (dSetG false 6 (dOp φAdd (dTup (dCons (dC (.int 2)) (dCons (dC (.int 3)) (dCons (dC (.int 1)) dNil)))) (dSl φSl (dVar 1) (dPart (dC (.int 3))) dNoP)))
  (dSeq (dSetG false 7 (dOp φAdd (dTup (dCons (dC (.int 1)) (dCons (dC (.int 0)) (dCons (dC (.int 3)) (dCons (dC (.int 2)) dNil))))) (dOp φMulZ (dTup (dCons (dC (.int 0)) dNil)) (dOp (φI fun i j => i - j) (dVar 0) (dC (.int 4))))))
  (dSeq (dIfS (dNot (dTruth (dCall (p_law_same_2 3) (dCons (dLst (dCons (dCall p_obstacle (dCons (dVar 1) (dCons (dVar 6) dNil))) (dCons (dCall p_obstacle (dCons (dVar 1) (dCons (dVar 7) dNil))) dNil))) (dCons (dLst (dCons (dTup (dCons (dC (.str "order")) (dCons (dC (.int 0)) (dCons (dC (.int 2)) (dCons (dC (.int 1)) dNil))))) (dCons (dTup (dCons (dC (.str "rings")) (dCons (dC (.int 0)) (dCons (dC (.int 2)) dNil)))) dNil))) dNil))))) (dRet (dC (.bool false))) dNext)
  (dSeq (dPar 8 false 9 false (dOp φMulZ (dTup (dCons (dVar 2) dNil)) (dVar 0)) (dOp φAdd (dTup (dCons (dVar 2) dNil)) (dOp φMulZ (dTup (dCons (dC (.int 0)) dNil)) (dVar 2))))
  (dSeq (dSetG false 5 (dLst (dCons (dCall p_leads (dCons (dVar 1) (dCons (dVar 8) dNil))) (dCons (dCall p_leads (dCons (dVar 1) (dCons (dVar 9) dNil))) (dCons (dCall p_leads (dCons (dVar 8) (dCons (dVar 1) dNil))) (dCons (dCall p_leads (dCons (dVar 9) (dCons (dVar 8) dNil))) dNil))))))
  (dSeq (dIfS (dNot (dTruth (dCall (p_law_same_2 3) (dCons (dVar 5) (dCons (dLst (dCons (dC (.bool true)) (dCons (dC (.bool true)) (dCons (dC (.bool false)) (dCons (dC (.bool true)) dNil))))) dNil))))) (dRet (dC (.bool false))) dNext)
  (dRet (dCall (p_law_same_2 3) (dCons (dLst (dCons (dCall p_obstacle (dCons (dVar 8) (dCons (dVar 1) dNil))) (dCons (dCall p_obstacle (dCons (dVar 9) (dCons (dVar 1) dNil))) dNil))) (dCons (dLst (dCons (dTup (dCons (dC (.str "way")) (dCons (dC (.int 0)) dNil))) (dCons (dTup (dCons (dC (.str "way")) (dCons (dC (.int 0)) dNil))) dNil))) dNil))))))))))))))))
abbrev k_law_ring_right : Nat := 9
def p_law_ring_right : DSp := fun args c Q => ∃ (n : Int), args = [.sh (.int n)] ∧ 4 ≤ n ∧ n < 15 ∧ Q (.sh (.bool true)) c
theorem mon_law_ring_right : MonF p_law_ring_right := fun args c A B h ⟨n, ea, h1, h2, q⟩ => ⟨n, ea, h1, h2, h _ _ q⟩
theorem m_law_ring_right : ∀ args c Q, p_law_ring_right args c Q → defF k_law_ring_right b_law_ring_right args c Q := by
  rintro _ c Q ⟨n, rfl, n4, n15, q⟩
  obtain ⟨N, rfl⟩ : ∃ N : Nat, n = (N : Int) := ⟨n.toNat, by omega⟩
  show b_law_ring_right _ ⟨[.sh (.int (N : Int)), .un, .un, .un, .un, .un, .un, .un, .un, .un], c⟩
  unfold b_law_ring_right
  have ck := List.all_eq_true.mp chk15_all (N - 4) (List.mem_range.mpr (by omega))
  have rk := List.all_eq_true.mp rev15_all (N - 4) (List.mem_range.mpr (by omega))
  rw [show N - 4 + 4 = N by omega] at ck rk
  unfold chk15 at ck
  unfold rev15 at rk
  simp only [Bool.and_eq_true, decide_eq_true_eq, Bool.not_eq_true'] at ck rk
  obtain ⟨⟨⟨⟨⟨⟨⟨⟨⟨⟨⟨⟨⟨⟨⟨s1, s2⟩, s3⟩, s4⟩, s5⟩, s6⟩, o1⟩, o2⟩, o3⟩, o4⟩, l1⟩, l2⟩, l3⟩, l4⟩, o5⟩, o6⟩ := ck
  obtain ⟨⟨⟨⟨⟨⟨⟨⟨⟨r1, r2⟩, r3⟩, r4⟩, r5⟩, r6⟩, r7⟩, r8⟩, r9⟩, r10⟩ := rk
  have s1 := stB15_st s1
  have s2 := stB15_st s2
  have s3 := stB15_st s3
  have s4 := stB15_st s4
  have s5 := stB15_st s5
  have s6 := stB15_st s6
  have e1 := obsB_eq o1
  have e2 := obsB_eq o2
  have e3 := obsB_eq o3
  have e4 := obsB_eq o4
  have e5 := obsB_eq o5
  have e6 := obsB_eq o6
  have z1 : (rg15 N).length = N := by unfold rg15; simp; omega
  have z2 : (tu15 N).length = N := by unfold tu15; simp; omega
  have z3 : (cr15 N).length = N := by unfold cr15; simp [z1]; omega
  have z4 : (pa15 N).length = N := by unfold pa15; simp; omega
  have z5 : (ro15 N).length = N := by unfold ro15; simp
  have z6 : (bo15 N).length = N := by unfold bo15; simp; omega
  have t0 : ((N : Int) - 1).toNat = N - 1 := by omega
  have d1 : rgD 1 ((N : Int) - 1).toNat ++ [PyData.int 0] = dI (rg15 N) := by
    rw [t0]
    unfold rg15 dI rgD
    rw [List.map_append, List.map_map]
    rfl
  have d2 : PyData.int ((N : Int) - 1) :: rgD 0 ((N : Int) - 1).toNat = dI (tu15 N) := by
    rw [t0, rg0]
    unfold tu15 dI
    rw [List.map_cons, List.map_map]
    rfl
  have d3 : PyData.int 2 :: PyData.int 3 :: PyData.int 1 :: (dI (rg15 N)).drop 3 = dI (cr15 N) := by
    unfold cr15
    rw [dI_drop]
    rfl
  have d4 : PyData.int 1 :: PyData.int 0 :: PyData.int 3 :: PyData.int 2 :: (List.replicate ((N : Int) - 4).toNat [PyData.int 0]).flatten = dI (pa15 N) := by
    rw [show ((N : Int) - 4).toNat = N - 4 by omega]
    unfold pa15 dI
    simp [List.map_replicate]
  have d5 : (List.replicate ((N : Int)).toNat [PyData.int ((N : Int) - 1)]).flatten = dI (ro15 N) := by
    unfold ro15 dI
    simp [List.map_replicate]
  have d6 : PyData.int ((N : Int) - 1) :: (List.replicate ((N : Int) - 1).toNat [PyData.int 0]).flatten = dI (bo15 N) := by
    rw [t0]
    unfold bo15 dI
    simp [List.map_replicate]
  have lrg : ∀ a k, (rgD a k).length = k := fun a k => by unfold rgD; simp
  refine sq_ ?_
  rfl'
  refine ⟨⟨by decide, by decide, by omega, by omega⟩, by rw [lrg]; show _ + 1 ≤ 16777216; omega, ?_⟩
  rw [d1]
  refine sq_ ?_
  rfl'
  refine ⟨by omega, by omega, by rw [lrg]; show 1 + _ ≤ 16777216; omega, ?_⟩
  rw [d2]
  refine sq_ ?_
  rfl'
  refine sq_ ?_
  rfl'
  refine c_obst (its_t _) (its_t _) s1 s2 (by rw [z1, z2]) ?_
  rw [e1]
  rfl'
  refine c_obst (its_t _) (its_t _) s2 s1 (by rw [z1, z2]) ?_
  rw [e2]
  rfl'
  have p1 : Per (rg15 N) 1 := ⟨by decide, by rw [z1]; omega⟩
  have p0 : Per (rg15 N) 0 := ⟨by decide, by rw [z1]; omega⟩
  have p2 : Per (rg15 N) 2 := ⟨by decide, by rw [z1]; omega⟩
  refine ⟨_, _, _, rg15 N, tu15 N, rfl, its_t _, its_t _, s1, s2, by rw [z1, z2], .order 1 0 2 N N ⟨p1, ⟨by omega, r1, r2⟩, ⟨by omega, r3, r4⟩, r5, r6, r7, r8, r9, r10⟩ p0 p2, ?_⟩
  rfl'
  refine sq_ ?_
  rfl'
  refine ⟨_, _, rfl, rfl, rfl, ?_⟩
  rfl'
  refine if_f rfl ?_
  refine sq_ ?_
  rfl'
  refine c_obst (ns := [2, 3, 0, 1]) (gs := [0, 1, 2, 3]) rfl rfl (stB15_st rfl) (stB15_st rfl) rfl ?_
  rw [obsB_eq cross15]
  rfl'
  refine ⟨_, _, rfl, rfl, rfl, ?_⟩
  rfl'
  refine if_f rfl ?_
  refine sq_ ?_
  rfl'
  rw [cutD_from _ _ (by decide), show (3 : Int).toNat = 3 from rfl]
  refine ⟨by rw [List.length_drop, dI_len, z1]; show 3 + _ ≤ 16777216; omega, ?_⟩
  rw [d3]
  refine sq_ ?_
  rfl'
  refine ⟨⟨by simp, by omega, by omega, by simp⟩, ?_⟩
  rfl'
  refine ⟨by show 4 + _ ≤ 16777216; simp; omega, ?_⟩
  rw [d4]
  refine sq_ ?_
  rfl'
  refine c_obst (its_t _) (its_t _) s1 s3 (by rw [z1, z3]) ?_
  rw [e3]
  rfl'
  refine c_obst (its_t _) (its_t _) s1 s4 (by rw [z1, z4]) ?_
  rw [e4]
  rfl'
  refine ⟨_, _, rfl, rfl, rfl, ?_⟩
  rfl'
  refine if_f rfl ?_
  refine sq_ ?_
  rfl'
  refine ⟨⟨by simp, by omega, by omega, by simp⟩, ?_⟩
  refine ⟨⟨by simp, by omega, by omega, by simp⟩, ?_⟩
  rfl'
  refine ⟨by show 1 + _ ≤ 16777216; simp; omega, ?_⟩
  rw [d5, d6]
  refine sq_ ?_
  rfl'
  refine c_leads (its_t _) (its_t _) s1 s5 (by rw [z1, z5]) ?_
  rw [l1]
  rfl'
  refine c_leads (its_t _) (its_t _) s1 s6 (by rw [z1, z6]) ?_
  rw [l2]
  rfl'
  refine c_leads (its_t _) (its_t _) s5 s1 (by rw [z1, z5]) ?_
  rw [l3]
  rfl'
  refine c_leads (its_t _) (its_t _) s6 s5 (by rw [z5, z6]) ?_
  rw [l4]
  rfl'
  refine sq_ ?_
  rfl'
  refine ⟨_, _, rfl, rfl, rfl, ?_⟩
  rfl'
  refine if_f rfl ?_
  refine c_obst (its_t _) (its_t _) s5 s1 (by rw [z1, z5]) ?_
  rw [e5]
  rfl'
  refine c_obst (its_t _) (its_t _) s6 s1 (by rw [z1, z6]) ?_
  rw [e6]
  rfl'
  exact ⟨_, _, rfl, rfl, rfl, q⟩
structure Tr15 (gs : List Int) : Prop where
  st : Stt gs
  z : gt gs 0 = 0
  lt : ∀ x, 0 < x → x < (gs.length : Int) → 0 ≤ gt gs x ∧ gt gs x < x
theorem Tr15.per0 {gs : List Int} (T : Tr15 gs) : Per gs 0 := ⟨by decide, by have := T.st.ge; omega⟩
theorem Tr15.le {gs : List Int} (T : Tr15 gs) : ∀ (k : Nat) (x : Int), Per gs x → 0 ≤ itr gs x k ∧ itr gs x k ≤ x
  | 0, x, h => ⟨h.1, Int.le_refl _⟩
  | k + 1, x, h => by
    rw [itr_succ]
    have := T.le k (gt gs x) (T.st.gt h)
    by_cases x0 : 0 < x
    · have := T.lt x x0 h.2
      omega
    · have e : x = 0 := by have := h.1; omega
      subst e
      rw [T.z] at this ⊢
      exact this
theorem Tr15.down {gs : List Int} (T : Tr15 gs) {k : Nat} {x : Int} (hx : Per gs x) (hk : 0 < k) (e : x ≤ itr gs x k) : x = 0 := by
  obtain ⟨j, rfl⟩ : ∃ j, k = j + 1 := ⟨k - 1, by omega⟩
  rw [itr_succ] at e
  have := T.le j (gt gs x) (T.st.gt hx)
  by_cases x0 : 0 < x
  · have := T.lt x x0 hx.2
    omega
  · have := hx.1
    omega
theorem Tr15.zero {gs : List Int} (T : Tr15 gs) (k : Nat) : itr gs 0 k = 0 := by
  have := T.le k 0 T.per0
  omega
theorem Tr15.cyc {gs : List Int} (T : Tr15 gs) : Cyc gs 0 1 := ⟨by decide, T.zero 1, by simp [itrs]⟩
theorem Tr15.off {gs : List Int} (T : Tr15 gs) {x z : Int} (hx : Per gs x) (hz : z ∈ routeF gs (gt gs x)) (e : x ≤ z) : x = 0 ∧ z = 0 := by
  obtain ⟨m, m0, rfl⟩ := way_itr T.st hx hz
  have := T.down hx m0 e
  subst this
  exact ⟨rfl, T.zero m⟩
def ln15 (N : Nat) : List Int := 0 :: (List.range (N - 1)).map fun i : Nat => (i : Int)
theorem ln15_len {N : Nat} (h : 1 ≤ N) : (ln15 N).length = N := by unfold ln15; simp; omega
theorem ln15_gt {N : Nat} {x : Nat} (h : x + 1 < N) : gt (ln15 N) ((x + 1 : Nat) : Int) = (x : Int) := by
  have hl : x + 1 < (ln15 N).length := by rw [ln15_len (by omega)]; exact h
  have e : (ln15 N)[x + 1]? = some (x : Int) := by
    unfold ln15
    rw [List.getElem?_cons_succ, List.getElem?_map, List.getElem?_range (by omega)]
    rfl
  obtain ⟨_, e⟩ := List.getElem?_eq_some_iff.mp e
  rw [gt_nat hl, e]
theorem ln15_tr {N : Nat} (h : 1 ≤ N) (h2 : N ≤ 1000) : Tr15 (ln15 N) := by
  have hl := ln15_len h
  refine ⟨⟨fun z hz => ?_, by omega, by omega⟩, by unfold ln15; rfl, fun x x0 x1 => ?_⟩
  · rw [hl]
    unfold ln15 at hz
    rcases List.mem_cons.mp hz with rfl | hz
    · exact ⟨by decide, by omega⟩
    · obtain ⟨i, hi, rfl⟩ := List.mem_map.mp hz
      have := List.mem_range.mp hi
      exact ⟨by omega, by omega⟩
  · rw [hl] at x1
    obtain ⟨k, rfl⟩ : ∃ k : Nat, x = ((k + 1 : Nat) : Int) := ⟨(x - 1).toNat, by omega⟩
    rw [ln15_gt (by omega)]
    omega
theorem ln15_itr {N : Nat} : ∀ (m x : Nat), x < N → m ≤ x → itr (ln15 N) (x : Int) m = ((x - m : Nat) : Int)
  | 0, x, _, _ => rfl
  | m + 1, x, h, hm => by
    obtain ⟨k, rfl⟩ : ∃ k, x = k + 1 := ⟨x - 1, by omega⟩
    rw [itr_succ, ln15_gt h, ln15_itr m k (by omega) (by omega)]
    congr 1
    omega
theorem lead15 {N : Nat} {gs : List Int} (h : 1 ≤ N) (h2 : N ≤ 1000) (T : Tr15 gs) (hl : gs.length = N) : Lead (ln15 N) gs := by
  have L := ln15_tr h h2
  have ll := ln15_len h
  have pg : ∀ {x : Int}, Per (ln15 N) x → Per gs x := fun p => ⟨p.1, by have := p.2; omega⟩
  refine ⟨fun x hx => ?_, fun x y c c' hx hy cx cy _ => ?_, fun x c d hx cx dx => ?_⟩
  · by_cases x0 : 0 < x
    · have g := T.lt x x0 (pg hx).2
      have x1 := hx.2
      refine ⟨(x - gt gs x).toNat, by omega, ?_⟩
      have := ln15_itr (N := N) (x - gt gs x).toNat x.toNat (by omega) (by omega)
      rw [Int.toNat_of_nonneg hx.1] at this
      rw [this]
      omega
    · have e : x = 0 := by have := hx.1; omega
      subst e
      exact ⟨1, by decide, by rw [T.z, L.zero]⟩
  · have e1 := T.down (pg hx) cx.1 (by rw [cx.2.1]; exact Int.le_refl _)
    have e2 := T.down (pg hy) cy.1 (by rw [cy.2.1]; exact Int.le_refl _)
    subst e1
    subst e2
    exact itrs_mem.mpr ⟨0, cx.1, rfl⟩
  · have e1 := T.down (pg hx) cx.1 (by rw [cx.2.1]; exact Int.le_refl _)
    subst e1
    rw [cx.uniq T.cyc, dx.uniq L.cyc]
    exact List.Sublist.refl _
theorem missL_app15 (ns : List Int) : ∀ (l1 l2 : List Int) (i : Nat), missL ns l1 i = none → missL ns (l1 ++ l2) i = missL ns l2 (i + l1.length)
  | [], l2, i, _ => rfl
  | z :: r, l2, i, h => by
    unfold missL at h
    rw [List.cons_append, missL.eq_2]
    by_cases hz : z ∈ routeF ns (gt ns (i : Int))
    · rw [if_pos hz] at h ⊢
      rw [missL_app15 ns r l2 (i + 1) h, List.length_cons, show i + 1 + r.length = i + (r.length + 1) by omega]
    · rw [if_neg hz] at h
      cases h
theorem miss15 {N : Nat} {gs : List Int} (h : 2 ≤ N) (h2 : N ≤ 1000) (T : Tr15 gs) (hl : gs.length = N) : obsF (ln15 N) (gs.take (N - 1) ++ [(N : Int) - 1]) = .tuple [.str "way", .int ((N - 1 : Nat) : Int)] ∧ obsF (ln15 N) (1 :: gs.drop 1) = .tuple [.str "way", .int 0] := by
  have L := ln15_tr (N := N) (by omega) h2
  have ll := ln15_len (N := N) (by omega)
  have f := lead15 (by omega) h2 T hl
  have ow := (ways_iff L.st).mpr f.ways
  have m0 : missL (ln15 N) gs 0 = none := (miss_ways (by rw [hl, ll])).mpr ow
  constructor
  · have e : missL (ln15 N) (gs.take (N - 1)) 0 = none := by
      rw [missL_none] at m0 ⊢
      intro j hj
      rw [List.length_take] at hj
      have := m0 j (by omega)
      rw [List.getElem_take]
      exact this
    have e2 : missL (ln15 N) (gs.take (N - 1) ++ [(N : Int) - 1]) 0 = some (N - 1) := by
      rw [missL_app15 _ _ _ _ e, List.length_take, show min (N - 1) gs.length = N - 1 by omega, Nat.zero_add]
      unfold missL
      rw [if_neg fun z => ?_]
      have := L.off ⟨by omega, by omega⟩ z (by omega)
      omega
    unfold obsF
    rw [e2]
  · have e2 : missL (ln15 N) (1 :: gs.drop 1) 0 = some 0 := by
      unfold missL
      rw [if_neg fun z => ?_]
      have := L.off L.per0 z (by decide)
      omega
    unfold obsF
    rw [e2]
    rfl
theorem cutD_init15 (ds : List PyData) (z : PyData) : cutD (ds ++ [z]) none (some (-1)) = ds := by
  unfold cutD
  rw [HT.sIx_none, List.drop_zero, Nat.sub_zero]
  have e : HT.sIx (ds ++ [z]).length (ds ++ [z]).length (some (-1)) = (-1 + ((ds ++ [z]).length : Int)).toNat := by unfold HT.sIx; exact if_pos (by decide)
  rw [e, List.length_append, List.length_singleton, show (-1 + ((ds.length + 1 : Nat) : Int)).toNat = ds.length by omega, List.take_left]
theorem dep_I15 (k : Nat) : ∀ xs : List Int, (dI xs).all (dep (k + 1)) = true
  | [] => rfl
  | x :: xs => by
    show (true && (dI xs).all (dep (k + 1))) = true
    rw [dep_I15 k xs]
    rfl
/-- _law_line_right: _law_box_here, _law_size, _law_here, _law_there, _law_who, _law_shouts, _law_told, _law_odd -/
def b_law_line_right : DTS := (dSeq (dSetG false 2 (dCB φTuple (dCons (dOp φAdd (dLst (dCons (dC (.int 0)) dNil)) (dListRg (dOp (φI fun i j => i - j) (dVar 1) (dC (.int 1))))) dNil)))
  (dSeq (dSetG false 3 (dCB φTuple (dCons (dOp φAdd (dLst (dCons (dC (.int 0)) dNil)) (dLc (dRng2 (dCons (dC (.int 1)) (dCons (dVar 1) dNil))) (dName 4) dYes (dCall p_law_take (dCons (dVar 0) (dCons (dVar 4) dNil))) [4])) dNil)))
  (dSeq (dSetG false 5 (dCall p_word_to (dCons (dVar 2) (dCons (dVar 3) dNil))))
  (dSeq (dSetG true 6 (dLst (dCons (dCall p_leads (dCons (dVar 2) (dCons (dVar 3) dNil))) (dCons (dCall p_is_word_to (dCons (dVar 2) (dCons (dVar 3) (dCons (dVar 5) dNil)))) (dCons (dCall p_law_shouted (dCons (dVar 2) (dCons (dVar 5) dNil))) dNil)))))
  (dSeq (dIfS (dNot (dTruth (dCall (p_law_same_2 3) (dCons (dVar 6) (dCons (dLst (dCons (dC (.bool true)) (dCons (dC (.bool true)) (dCons (dVar 3) dNil)))) dNil))))) (dRet (dC (.bool false))) dNext)
  (dSeq (dSetG false 7 (dOp φAdd (dSl φSl (dVar 3) dNoP (dPart (dUn φNeg (dC (.int 1))))) (dTup (dCons (dOp (φI fun i j => i - j) (dVar 1) (dC (.int 1))) dNil))))
  (dSeq (dSetG true 6 (dLst (dCons (dCall p_obstacle (dCons (dVar 2) (dCons (dVar 7) dNil))) (dCons (dCall p_obstacle (dCons (dVar 2) (dCons (dOp φAdd (dTup (dCons (dC (.int 1)) dNil)) (dSl φSl (dVar 3) (dPart (dC (.int 1))) dNoP)) dNil))) (dCons (dCall p_obstacle (dCons (dVar 3) (dCons (dVar 3) dNil))) dNil)))))
  (dSeq (dAppend 6 (dCall p_is_word_to (dCons (dVar 2) (dCons (dVar 2) (dCons (dCall p_word_to (dCons (dVar 2) (dCons (dVar 2) dNil))) dNil)))))
  (dRet (dCall (p_law_same_2 3) (dCons (dVar 6) (dCons (dLst (dCons (dTup (dCons (dC (.str "way")) (dCons (dOp (φI fun i j => i - j) (dVar 1) (dC (.int 1))) dNil))) (dCons (dTup (dCons (dC (.str "way")) (dCons (dC (.int 0)) dNil))) (dCons (dC .none) (dCons (dC (.bool true)) dNil))))) dNil))))))))))))
abbrev k_law_line_right : Nat := 6
def p_law_line_right : DSp := fun args c Q => ∃ (n : Int), args = [.bx, .sh (.int n)] ∧ 4 ≤ n ∧ n < 15 ∧ c ≤ 5000000 ∧ ∀ c', c' ≤ c + 45 → Q (.sh (.bool true)) c'
theorem mon_law_line_right : MonF p_law_line_right := fun args c A B h ⟨n, ea, h1, h2, h3, q⟩ => ⟨n, ea, h1, h2, h3, fun c' z => h _ _ (q c' z)⟩
theorem m_law_line_right : ∀ args c Q, p_law_line_right args c Q → defF k_law_line_right b_law_line_right args c Q := by
  rintro _ c Q ⟨n, rfl, n4, n15, hc, q⟩
  obtain ⟨N, rfl⟩ : ∃ N : Nat, n = (N : Int) := ⟨n.toNat, by omega⟩
  show b_law_line_right _ ⟨[.bx, .sh (.int (N : Int)), .un, .un, .un, .un, .un, .un], c⟩
  unfold b_law_line_right
  have t0 : ((N : Int) - 1).toNat = N - 1 := by omega
  have d1 : PyData.int 0 :: rgD 0 ((N : Int) - 1).toNat = dI (ln15 N) := by
    rw [t0, rg0]
    unfold ln15 dI
    rw [List.map_cons, List.map_map]
    rfl
  have lrg : ∀ a k, (rgD a k).length = k := fun a k => by unfold rgD; simp
  have L := ln15_tr (N := N) (by omega) (by omega)
  have ll := ln15_len (N := N) (by omega)
  refine sq_ ?_
  rfl'
  refine ⟨by omega, by omega, by rw [lrg]; show 1 + _ ≤ 16777216; omega, ?_⟩
  rw [d1]
  refine sq_ ?_
  rfl'
  refine ⟨⟨by decide, by decide, by omega, by omega⟩, ?_⟩
  rw [t0]
  refine lc_draw (N := 3) (fun i : Nat => PyData.int (1 + (i : Nat))) PyData.int (fun i y => 0 ≤ y ∧ y ≤ (i : Int)) (List.range (N - 1)) [] c (fun i hi m hm K hK => ?_) (by rw [List.length_range]; show 0 + _ ≤ _; omega) fun ys c1 hys hc1 => ?_
  · rw [List.length_range] at hm
    have hi' := List.mem_range.mp hi
    rfl'
    refine c_take (by omega) (by omega) (by omega) fun v c2 v0 v1 hc2 => ?_
    exact hK _ _ v rfl ⟨v0, by omega⟩ hc2
  have ly := hys.len
  rw [List.length_range] at ly hc1
  have hl : (0 :: ys : List Int).length = N := by rw [List.length_cons]; omega
  have T : Tr15 (0 :: ys) := by
    have g : ∀ x : Int, 0 < x → x < ((0 :: ys : List Int).length : Int) → 0 ≤ gt (0 :: ys) x ∧ gt (0 :: ys) x < x := fun x x0 x1 => by
      obtain ⟨k, rfl⟩ : ∃ k : Nat, x = ((k + 1 : Nat) : Int) := ⟨(x - 1).toNat, by omega⟩
      obtain ⟨y, hy, h1, h2⟩ := hys.get (i := k) (List.getElem?_range (by omega))
      have e : (0 :: ys : List Int)[k + 1]? = some y := by rw [List.getElem?_cons_succ]; exact hy
      obtain ⟨w, e⟩ := List.getElem?_eq_some_iff.mp e
      rw [gt_nat w, e]
      omega
    refine ⟨⟨fun z hz => ?_, by omega, by omega⟩, rfl, g⟩
    obtain ⟨j, hj, rfl⟩ := List.mem_iff_getElem.mp hz
    have := g (j : Int)
    rw [gt_nat hj] at this
    by_cases j0 : j = 0
    · subst j0
      show (0 : Int) ≤ 0 ∧ (0 : Int) < _
      rw [hl]
      omega
    · have := this (by omega) (by omega)
      exact ⟨this.1, by omega⟩
  have f := lead15 (by omega) (by omega) T hl
  have ms := miss15 (by omega) (by omega) T hl
  rw [List.nil_append]
  have d2 : PyData.int 0 :: List.map PyData.int ys = dI (0 :: ys) := rfl
  rfl'
  refine ⟨by rw [List.length_map]; show 1 + _ ≤ 16777216; omega, ?_⟩
  rw [d2]
  generalize (0 :: ys : List Int) = gs at *
  refine sq_ ?_
  rfl'
  refine ⟨_, _, ln15 N, gs, rfl, its_t _, its_t _, L.st, T.st, by rw [hl, ll], by omega, f, fun ws w1 w2 w3 _ => ?_⟩
  rfl'
  refine sqa_ fun D hD => ?_
  rfl'
  have hl2 : gs.length = (ln15 N).length := by rw [hl, ll]
  refine c_leads (its_t _) (its_t _) L.st T.st hl2 ?_
  rw [isN_obs.mpr ((lead_iff L.st T.st hl2).mpr f)]
  rfl'
  refine ⟨_, _, ln15 N, gs, ws, rfl, its_t _, its_t _, L.st, hl2, w1, w3, ?_⟩
  rw [w2, decide_eq_true rfl]
  rfl'
  refine ⟨_, _, ln15 N, ws, rfl, its_t _, its_l _, L.st, w1, ?_⟩
  rw [w2]
  rfl'
  refine hD _ ?_
  rfl'
  refine sq_ ?_
  rfl'
  have dg3 : dep 3 (PyData.list [PyData.bool true, PyData.bool true, PyData.tuple (dI gs)]) = true := by
    have : (decide ((dI gs).length ≤ 1000000) && (dI gs).all (dep 1)) = true := by rw [dep_I15 0, dI_len, Bool.and_true]; exact decide_eq_true (by omega)
    show (decide (3 ≤ 1000000) && (true && (true && ((decide ((dI gs).length ≤ 1000000) && (dI gs).all (dep 1)) && true)))) = true
    rw [this]
    rfl
  refine ⟨_, _, rfl, rfl, dg3, ?_⟩
  rfl'
  refine ⟨rfl, ?_⟩
  refine if_f rfl ?_
  refine sq_ ?_
  rfl'
  have cut : cutD (dI gs) none (some (-1)) = dI (gs.take (N - 1)) := by
    have e : dI gs = dI (gs.take (N - 1)) ++ [PyData.int (gs[N - 1]'(by omega))] := by
      have := List.take_append_getElem (l := gs) (i := N - 1) (by omega)
      have e2 : gs.take (N - 1 + 1) = gs := List.take_of_length_le (by omega)
      rw [e2] at this
      conv => lhs; rw [← this]
      unfold dI
      rw [List.map_append]
      rfl
    rw [e, cutD_init15]
  have gdr : cutD (dI gs) (some 1) none = dI (gs.drop 1) := by rw [cutD_from _ _ (by decide), dI_drop]; rfl
  have sw : Stt (gs.take (N - 1) ++ [(N : Int) - 1]) := by
    have le : (gs.take (N - 1) ++ [(N : Int) - 1]).length = N := by rw [List.length_append, List.length_take, List.length_singleton]; omega
    refine ⟨fun z hz => ?_, by omega, by omega⟩
    rw [le]
    rcases List.mem_append.mp hz with h | h
    · have := T.st.lo z (List.mem_of_mem_take h)
      rw [hl] at this
      exact this
    · rw [List.mem_singleton.mp h]
      omega
  have sv : Stt (1 :: gs.drop 1) := by
    have le : (1 :: gs.drop 1).length = N := by rw [List.length_cons, List.length_drop]; omega
    refine ⟨fun z hz => ?_, by omega, by omega⟩
    rw [le]
    rcases List.mem_cons.mp hz with rfl | h
    · omega
    · have := T.st.lo z (List.mem_of_mem_drop h)
      rw [hl] at this
      exact this
  have lw : (gs.take (N - 1) ++ [(N : Int) - 1]).length = (ln15 N).length := by rw [List.length_append, List.length_take, List.length_singleton, ll]; omega
  have lv : (1 :: gs.drop 1).length = (ln15 N).length := by rw [List.length_cons, List.length_drop, ll]; omega
  have dw : dI (gs.take (N - 1)) ++ [PyData.int ((N : Int) - 1)] = dI (gs.take (N - 1) ++ [(N : Int) - 1]) := by
    unfold dI
    rw [List.map_append]
    rfl
  have dv : PyData.int 1 :: dI (gs.drop 1) = dI (1 :: gs.drop 1) := rfl
  rw [cut, dw]
  refine ⟨by rw [dI_len, List.length_take]; show _ + 1 ≤ 16777216; omega, ?_⟩
  refine sq_ ?_
  rfl'
  refine c_obst (its_t _) (its_t _) L.st sw lw ?_
  rw [ms.1]
  rfl'
  rw [gdr, dv]
  refine ⟨by rw [dI_len, List.length_drop]; show 1 + _ ≤ 16777216; omega, ?_⟩
  refine c_obst (its_t _) (its_t _) L.st sv lv ?_
  rw [ms.2]
  rfl'
  refine c_obst (its_t _) (its_t _) T.st T.st rfl ?_
  rw [(lead_iff T.st T.st rfl).mpr (lead_refl T.st)]
  rfl'
  refine sq_ ?_
  rfl'
  refine ⟨_, _, ln15 N, ln15 N, rfl, its_t _, its_t _, L.st, L.st, rfl, by omega, lead_refl L.st, fun us u1 u2 u3 _ => ?_⟩
  rfl'
  refine ⟨_, _, ln15 N, ln15 N, us, rfl, its_t _, its_t _, L.st, rfl, u1, u3, ?_⟩
  rw [u2, decide_eq_true rfl]
  rfl'
  refine ⟨by show 3 < 16777216; decide, ?_⟩
  rw [show ((N - 1 : Nat) : Int) = (N : Int) - 1 by omega]
  exact ⟨_, _, rfl, rfl, rfl, rfl, q c1 (by omega)⟩
/-- _law_right: _law_box_here, _law_size, _law_here, _law_there, _law_sort -/
def b_k15_law_right : DTS := (dSeq (dSetG false 1 (dOp φAdd (dC (.int 4)) (dCall p_law_take (dCons (dVar 0) (dCons (dC (.int 11)) dNil)))))
  (dSeq (dIfS (dOr (dNot (dTruth (dCall p_law_ring_right (dCons (dVar 1) dNil)))) (dNot (dTruth (dCall p_law_line_right (dCons (dVar 0) (dCons (dVar 1) dNil)))))) (dRet (dC (.bool false))) dNext)
  (dSeq (dPar 2 false 3 false (dOp φMulZ (dTup (dCons (dC (.int 0)) dNil)) (dVar 1)) (dOp φMulZ (dTup (dCons (dC (.int 0)) dNil)) (dCall p_law_pick (dCons (dVar 0) (dCons (dLst (dCons (dC (.int 1)) (dCons (dOp (φI fun i j => i - j) (dVar 1) (dC (.int 1))) (dCons (dOp φAdd (dVar 1) (dC (.int 1))) (dCons (dOp φMul (dC (.int 2)) (dVar 1)) dNil))))) dNil)))))
  (dRet (dCB (φAll false) (dCons (dLc (dRng1 (dCons (dC (.int 5)) dNil)) (dName 4) dYes (dCall p_law_size_right (dCons (dVar 4) (dCons (dVar 2) (dCons (dVar 3) dNil)))) [4]) dNil))))))
abbrev k_k15_law_right : Nat := 4
def p_k15_law_right : DSp := fun args c Q => args = [.bx] ∧ c ≤ 3000000 ∧ ∀ c', c' ≤ c + 1000000 → Q (.sh (.bool true)) c'
theorem m_k15_law_right : ∀ args c Q, p_k15_law_right args c Q → defF k_k15_law_right b_k15_law_right args c Q := by
  rintro _ c Q ⟨rfl, h1, q⟩
  show b_k15_law_right _ ⟨[.bx, .un, .un, .un, .un], c⟩
  unfold b_k15_law_right
  refine sq_ ?_
  rfl'
  refine c_take (by decide) (by decide) (by omega) fun r c1 r0 r1 hc1 => ?_
  rfl'
  refine sq_ ?_
  rfl'
  refine ⟨4 + r, rfl, by omega, by omega, ?_⟩
  rfl'
  refine if_f rfl ?_
  refine ⟨4 + r, rfl, by omega, by omega, by omega, fun c2 hc2 => ?_⟩
  rfl'
  refine if_f rfl ?_
  refine sq_ ?_
  rfl'
  have rep0 : ∀ k : Int, (List.replicate k.toNat [PyData.int 0]).flatten = dI (List.replicate k.toNat 0) := fun k => by
    unfold dI
    simp [List.map_replicate]
  have stR : ∀ k : Int, 1 ≤ k → k ≤ 1000 → Stt (List.replicate k.toNat (0 : Int)) := fun k k1 k2 => by
    refine ⟨fun z hz => ?_, by rw [List.length_replicate]; omega, by rw [List.length_replicate]; omega⟩
    rw [(List.mem_replicate.mp hz).2, List.length_replicate]
    omega
  refine ⟨⟨by simp, by omega, by omega, by simp⟩, ?_⟩
  have cm : CMulW 2 (4 + r) := by
    have a1 := Nat.log2_le_self (2 : Int).natAbs
    have a2 := Nat.log2_le_self (4 + r).natAbs
    show (2 : Int).natAbs.log2 + (4 + r).natAbs.log2 < 1000000
    omega
  refine ⟨cm, ?_⟩
  refine c_pick (ms := [1, 4 + r - 1, 4 + r + 1, 2 * (4 + r)]) rfl (by simp) (by simp) (by omega) fun v c3 hv hc3 => ?_
  simp only [List.mem_cons, List.not_mem_nil, or_false] at hv
  have v1 : 1 ≤ v ∧ v ≤ 28 ∧ v ≠ 4 + r := by omega
  rfl'
  refine ⟨⟨by simp, by omega, by omega, by simp⟩, ?_⟩
  rw [rep0, rep0]
  rfl'
  refine ⟨⟨by decide, by decide⟩, ?_⟩
  simp only [rg0]
  refine lc_all (fun i : Nat => PyData.int (i : Nat)) (fun _ : Nat => PyData.bool true) (List.range (5 : Int).toNat) [] (fun i hi K hK => ?_) (by decide) ?_
  · have hi' := List.mem_range.mp hi
    have hi5 : i < 5 := hi'
    rfl'
    refine ⟨(i : Int), _, _, rfl, by omega, by omega, stR _ (by omega) (by omega), stR _ v1.1 (by omega), by rw [List.length_replicate]; omega, by rw [List.length_replicate, List.length_replicate]; omega, ?_⟩
    exact hK _ _ rfl rfl
  rfl'
  refine φAll_dB (bs := [true, true, true, true, true]) ?_
  exact q c3 (by omega)
end Lp

namespace Lp
open PySem PySem.Spec PyProof.Rows L2
local macro_rules | `(tactic| rfl') => `(tactic| try dsimp only [dVar_, gv_sh, gv_ow, gv_bx, gv_raw, gv_st, dC, dRaw, dOp, dUn, dTest, dTruth, dAnd, dOr, dNot, dYes, dIf, dAndV, dOrV, dNotV, dNotT, dChain, dNil, dCons, dTup, dLst, dats, dCB, dNoP, dPart, dSl, dNext, dBreak, dCont, dNever, dDrop, dRet, dRetN, dIfS, dSetG, dPar, dPar3, dAppend, dAppPop, dSetIx, dExt, dAug, dSet0, dSAdd, dSNotIn, dIter_, gi_l, gi_t, gi_b, dRng1, dRng2, dName, dGNil, dGCons, dGTup, dAsg, dFor, dWhile, dCall, dCallR, dArgs_, ga_f, ga_t, argsOf, dLc, wipeE, dListRg, dIndex, dSortSet, dSortSc, dEnum, dEnA, dZip, dIsi, dIsi2, isaT, φI, φB, φC, φNeg, add_i, add_l, add_t, mul_i, mul_l, φIx, sl_l, sl_t, eq_i, eq_s, eq_l, eq_t, eq_b, eq_n, φIsN, isN_n, isN_b, isN_i, isN_s, isN_l, isN_t, φLen, φList, φTuple, φAbs, φInt, φMax, φIsB, φIsNB, its_l, its_t, rd_sh, rd_nw, rd_br, rp_sh, rp_nw, rp_br, rp_bx, rp_raw, rp_sr, rr_sh, rr_nw, rr_br, ra_sh, ra_br, ra_bx, ra_raw, va_sh, va_nt, va_nf, va_raw, hb_n, hb_sh, hb_bx, hb_raw, hb_br, sh_n, sh_c, tr_n, tr_b, tr_i, tr_l, tr_t, ty_n, ty_b, ty_i, ty_s, ty_l, ty_t, if_ff, if_tt, Env.set, List.getElem?_cons_succ, List.getElem?_cons_zero, List.set_cons_succ, List.set_cons_zero, List.reverse_cons, List.reverse_nil, List.nil_append, List.cons_append, Option.bind_some, ite_true, ite_false])
/-- all but b stand as they stood -/
def Sb (b : Addr) (H H' : Hp) : Prop := ∀ a o, a ≠ b → H a = some o → H' a = some o
theorem Sb.refl (b : Addr) (H : Hp) : Sb b H H := fun _ _ _ h => h
theorem Sb.trans {b : Addr} {H H1 H2 : Hp} (x : Sb b H H1) (y : Sb b H1 H2) : Sb b H H2 := fun a o n h => y a o n (x a o n h)
theorem Sb.upd {b : Addr} {H H1 : Hp} {o : HO} (x : Sb b H H1) : Sb b H (upd H1 b o) := fun a u n h => by
  rw [upd_ne n]; exact x a u n h
theorem same_new {H : Hp} {p : Addr} {o : HO} (h : H p = none) : Same H (upd H p o) := fun a u e => by
  rw [upd_ne (ne_of_none e h)]; exact e
def spTake : Sp := fun vs H Q _ => ∃ (b : Addr) (span : Int) (c : Nat), vs = [.ref b, .int span] ∧ Box H b c ∧ c ≤ 1000000000 ∧ 1 ≤ span ∧ span ≤ 10000000 ∧
  ∀ H' (r : Int), Sb b H H' → Box H' b (c + 1) → 0 ≤ r → r < span → Q (.int r) H'
def spTakeW : Sp := fun vs H Q _ => ∃ (b : Addr) (span : Int) (c : Nat), vs = [.ref b, .int span] ∧ Box H b c ∧ c ≤ 900000000 ∧ 1 ≤ span ∧ span ≤ 10000000000000 ∧
  ∀ H' (r : Int), Sb b H H' → Box H' b (c + 2) → 0 ≤ r → r < span → Q (.int r) H'
def spTakeB : Sp := fun vs H Q _ => ∃ (b : Addr) (span : Int) (c : Nat), vs = [.ref b, .int span] ∧ Box H b c ∧ c ≤ 900000000 ∧ 10000000 < span ∧ span ≤ 10000000000000 ∧
  ∀ H' (r : Int), Sb b H H' → Box H' b (c + 2) → 0 ≤ r → r < span → Q (.int r) H'
theorem take_imp {vs : List V} {H : Hp} {Q : VK} {E : XK} (h : spD 2 p_law_take vs H Q E) : spTakeW vs H Q E := by
  obtain ⟨b, L, c, args, hl, cz, ar, span, rfl, h1, h2, h3, q⟩ := h
  cases ar with
  | cons a0 r0 =>
    cases r0 with
    | cons a1 r1 =>
      cases r1
      obtain ⟨a, rfl, rfl⟩ := a0
      cases a1
      obtain ⟨sl, hb⟩ := cz
      obtain ⟨nl, bx⟩ := hb a rfl
      refine ⟨a, span, c, rfl, bx, h3, h1, h2, fun H' r sb bx' r0 r1 => ?_⟩
      have keep : Same L H' := fun x o e => sb x o (fun z => by rw [z, nl] at e; cases e) (sl x o e)
      refine q r (c + 2) r0 r1 (by omega) (.int r) L H' ⟨keep, fun x e => by cases e; exact ⟨nl, bx'⟩⟩ ⟨Same.refl L, fun x o e n => sb x o (fun z => n (by rw [z])) e, fun x hx => ?_, fun x n _ => n⟩ (.int r)
      by_cases z : x = a
      · rw [z]; exact bx'.there
      · cases e : H x with
        | none => exact absurd e hx
        | some o => rw [sb x o z e]; exact fun z => nomatch z
def spBox (K : PySem.W.Frag) : Sp := fun vs H Q _ => ∃ (a : Addr) (k : Int) (ns : List Int), vs = [.ref a, .int k] ∧ SqL K H a (IL ns) ∧ 0 ≤ k ∧ k ≤ 62 ∧
  ∀ H' p, Same H H' → H p = none → Box H' p 0 → Q (.ref p) H'
def spLaw (K : PySem.W.Frag) : Sp := fun vs H Q _ => ∃ (a : Addr) (ns : List Int), vs = [.ref a] ∧ SqL K H a (IL ns) ∧ ns.length ≤ 63 ∧ ∀ H', Q (.bl true) H'
theorem fn_none {P : Program} {w : World} {K : PySem.W.Frag} {mg : Str → Option Value} {base : Heap} {k : Nat} {f : Addr} {fd : FuncData} {ps : List Str} {sp : Sp} (h : ∀ vs H Q E, ¬ sp vs H Q E) : FnOk P w K mg base CX0 k f fd ps sp :=
  ⟨fun vs H Q E z => absurd z (h vs H Q E), fun A outer s H args us vs Q E hr he hb hv z => absurd z (h vs H Q E)⟩
theorem fn_or {P : Program} {w : World} {K : PySem.W.Frag} {mg : Str → Option Value} {base : Heap} {k : Nat} {f : Addr} {fd : FuncData} {ps : List Str} {s1 s2 : Sp} (F1 : FnOk P w K mg base CX0 k f fd ps s1) (F2 : FnOk P w K mg base CX0 k f fd ps s2) : FnOk P w K mg base CX0 k f fd ps (fun vs H Q E => s1 vs H Q E ∨ s2 vs H Q E) :=
  ⟨fun vs H Q E h => h.elim (F1.len vs H Q E) (F2.len vs H Q E), fun A outer s H args us vs Q E hr he hb hv hs => hs.elim (F1.run A outer s H args us vs Q E hr he hb hv) (F2.run A outer s H args us vs Q E hr he hb hv)⟩
theorem spD_none {n : Nat} {F : DSp} (h : ∀ args c Q, ¬ F args c Q) : ∀ vs H Q E, ¬ spD n F vs H Q E := fun vs H Q E ⟨b, L, c, args, _, _, _, z⟩ => h _ _ _ z
theorem yes_ok {te : TE} {σ : L2.St} {H : Hp} {R : V → Hp → Prop} {S : Hp → Prop} (h : te σ H R) : tYes σ H fun b H3 => if b = true then te σ H3 R else S H3 :=
  iteT (B := S H) h
theorem rep_bl (n : Nat) : (List.replicate n true).map V.bl = List.replicate n (.bl true) := by rw [List.map_replicate]
theorem rep_app (n : Nat) (x : V) : List.replicate n x ++ [x] = List.replicate (n + 1) x := by
  rw [List.replicate_succ']
theorem rep_all (n : Nat) : (List.replicate n true).all id = true := by
  rw [List.all_replicate]; split <;> rfl
/-- a list stands where its object stands -/
theorem SqL.keep {K : PySem.W.Frag} {H H' : Hp} {a : Addr} {xs : List V} (h : SqL K H a xs) (k : ∀ o, H a = some o → H' a = some o) : SqL K H' a xs := by
  rcases h with h | h
  · refine .inl ?_
    rcases h with h | ⟨o, h⟩
    · exact .inl (k _ h)
    · exact .inr ⟨o, k _ h⟩
  · exact .inr h
theorem at_lt {ns : List Int} {i : Int} (h0 : 0 ≤ i) (h1 : i < (ns.length : Int)) : ∃ z, atI (IL ns) i = some (.int z) := by
  refine ⟨gt ns i, ?_⟩
  rw [atI_nat h0 (by rw [List.length_map]; exact h1), List.getElem?_map, gt_get h0 h1]; rfl
def Stay (K : PySem.W.Frag) (D a : Addr) (xs : List V) (H : Hp) : Prop := (∃ o, H a = some o ∧ a ≠ D ∧ ∀ H', H' a = some o → SqL K H' a xs) ∨ ∀ H', SqL K H' a xs
theorem Stay.of {K : PySem.W.Frag} {D a : Addr} {xs : List V} {H : Hp} {u : HO} (h : SqL K H a xs) (n : H D = none) : Stay K D a xs (upd H D u) := by
  rcases h with h | h
  · refine .inl ?_
    rcases h with h | ⟨o, h⟩
    · have z : a ≠ D := ne_of_none h n
      exact ⟨_, by rw [upd_ne z]; exact h, z, fun H' e => .inl (.inl e)⟩
    · have z : a ≠ D := ne_of_none h n
      exact ⟨_, by rw [upd_ne z]; exact h, z, fun H' e => .inl (.inr ⟨o, e⟩)⟩
  · exact .inr fun H' => .inr h
theorem Stay.sq {K : PySem.W.Frag} {D a : Addr} {xs : List V} {H : Hp} (h : Stay K D a xs H) : SqL K H a xs := by
  rcases h with ⟨o, e, _, h⟩ | h
  · exact h H e
  · exact h H
theorem Stay.step {K : PySem.W.Frag} {D a b : Addr} {xs : List V} {H H6 H7 : Hp} {u : HO} (h : Stay K D a xs H) (s : Same H H6) (n : H b = none) (sb : Sb b H6 H7) : Stay K D a xs (upd H7 D u) := by
  rcases h with ⟨o, e, z, h⟩ | h
  · exact .inl ⟨o, by rw [upd_ne z]; exact sb a o (ne_of_none e n) (s a o e), z, h⟩
  · exact .inr h
end Lp

namespace Lp
open PySem PySem.Spec PyProof.Rows L2
local macro_rules | `(tactic| rfl') => `(tactic| try dsimp only [dVar_, gv_sh, gv_ow, gv_bx, gv_raw, gv_st, dC, dRaw, dOp, dUn, dTest, dTruth, dAnd, dOr, dNot, dYes, dIf, dAndV, dOrV, dNotV, dNotT, dChain, dNil, dCons, dTup, dLst, dats, dCB, dNoP, dPart, dSl, dNext, dBreak, dCont, dNever, dDrop, dRet, dRetN, dIfS, dSetG, dPar, dPar3, dAppend, dAppPop, dSetIx, dExt, dAug, dSet0, dSAdd, dSNotIn, dIter_, gi_l, gi_t, gi_b, dRng1, dRng2, dName, dGNil, dGCons, dGTup, dAsg, dFor, dWhile, dCall, dCallR, dArgs_, ga_f, ga_t, argsOf, dLc, wipeE, dListRg, dIndex, dSortSet, dSortSc, dEnum, dEnA, dZip, dIsi, dIsi2, isaT, φI, φB, φC, φNeg, add_i, add_l, add_t, mul_i, mul_l, φIx, sl_l, sl_t, eq_i, eq_s, eq_l, eq_t, eq_b, eq_n, φIsN, isN_n, isN_b, isN_i, isN_s, isN_l, isN_t, φLen, φList, φTuple, φAbs, φInt, φMax, φIsB, φIsNB, its_l, its_t, rd_sh, rd_nw, rd_br, rp_sh, rp_nw, rp_br, rp_bx, rp_raw, rp_sr, rr_sh, rr_nw, rr_br, ra_sh, ra_br, ra_bx, ra_raw, va_sh, va_nt, va_nf, va_raw, hb_n, hb_sh, hb_bx, hb_raw, hb_br, sh_n, sh_c, tr_n, tr_b, tr_i, tr_l, tr_t, ty_n, ty_b, ty_i, ty_s, ty_l, ty_t, if_ff, if_tt, Env.set, List.getElem?_cons_succ, List.getElem?_cons_zero, List.set_cons_succ, List.set_cons_zero, List.reverse_cons, List.reverse_nil, List.nil_append, List.cons_append, Option.bind_some, ite_true, ite_false])
theorem IL_at {es : List Int} {i : Nat} {x : V} (h : (IL es)[i]? = some x) (hi : i < es.length) : x = .int es[i] := by
  rw [IL_get (List.getElem?_eq_getElem hi)] at h
  exact (Option.some.inj h).symm
theorem IL_set (ns : List Int) (i : Nat) (z : Int) : (IL ns).set i (.int z) = IL (ns.set i z) := by
  show (ns.map V.int).set i (V.int z) = (ns.set i z).map V.int
  rw [List.map_set]
theorem dp_ints {K : PySem.W.Frag} {H : Hp} : ∀ ns : List Int, DpAll K H (IL ns) (dI ns)
  | [] => .nil
  | x :: r => .cons (.int x) (dp_ints r)
theorem same_mut {H H' : Hp} {p : Addr} {o : HO} (s : Same H H') (h : H p = none) : Same H (upd H' p o) := fun a u e => by
  rw [upd_ne (ne_of_none e h)]; exact s a u e
theorem cut_IL (ns : List Int) (lo hi : Option Int) : cutV (IL ns) lo hi = IL ((ns.drop (HT.sIx ns.length 0 lo)).take (HT.sIx ns.length ns.length hi - HT.sIx ns.length 0 lo)) := by
  unfold cutV
  show ((ns.map V.int).drop (HT.sIx (ns.map V.int).length 0 lo)).take (HT.sIx (ns.map V.int).length (ns.map V.int).length hi - HT.sIx (ns.map V.int).length 0 lo) = List.map V.int _
  rw [List.length_map, List.map_take, List.map_drop]
def spCells (K : PySem.W.Frag) : Sp := fun vs H Q _ => ∃ (a : Addr) (m : Int) (ns : List Int), vs = [.ref a, .int m] ∧ SqL K H a (IL ns) ∧ 1 ≤ m ∧ m ≤ 60 ∧
  ∀ H' p (ms : List Int), Same H H' → H p = none → H' p = some (.lst (IL ms)) → 1 ≤ ms.length → (ms.length : Int) ≤ m → Q (.ref p) H'
/-- a call of what draws from a box alone and answers True, with a count -/
theorem right_do2 {F : DSp} {H : Hp} {b : Addr} {c N : Nat} {Q : VK} {E : XK} (bx : Box H b c) (h : ∀ Q : R → Nat → Prop, (∀ c', c' ≤ c + N → Q (.sh (.bool true)) c') → F [.bx] c Q) (q : ∀ H', Sb b H H' → Box H' b (c + N) → Q (.bl true) H') : spD 1 F [.ref b] H Q E := by
  refine ⟨some b, fun _ => none, c, [.bx], rfl, ⟨(fun _ _ h => nomatch h), fun a e => by cases e; exact ⟨rfl, bx⟩⟩, .cons ⟨b, rfl, rfl⟩ .nil, h _ fun c' hc v L' H' cz ex vr => ?_⟩
  cases vr
  exact q H' (fun a o n e => ex.hh a o e fun z => n (by cases z; rfl)) ((cz.2 b rfl).2.le hc)
theorem Box.ne {H : Hp} {b D : Addr} {c : Nat} (x : Box H b c) (n : H D = none) : b ≠ D := fun z => x.there (by rw [z]; exact n)
theorem Box.new {H : Hp} {b D : Addr} {c : Nat} {o : HO} (x : Box H b c) (n : H D = none) : Box (upd H D o) b c := x.keep (upd_ne (x.ne n))
theorem Box.put {H : Hp} {b D : Addr} {c : Nat} {o : HO} (x : Box H b c) (n : b ≠ D) : Box (upd H D o) b c := x.keep (upd_ne n)
theorem upd_keep {H : Hp} {a p : Addr} {o u : HO} (h : H a = some o) (n : H p = none) : (upd H p u) a = some o := by rw [upd_ne (ne_of_none h n)]; exact h
end Lp

namespace Lp
open PySem PySem.Spec PyProof.Rows L2
section
variable {X : Cx} {o e : Expr} {es : List Expr} {to te : TE} {ta : TA} {f : Str} {p p' p1 p2 pos : Pos} {B newId initId : String} {bm : List Value}
theorem pe_initValueError {pl : Sem Bool} (hg : Gl X "ValueError") (hm : X.mg "ValueError" = none) (vV : PySem.W.findCls X.K (.type "ValueError") (.type "type") "__init__" = some (.val (.builtin "ValueError.__init__"))) (ha : PA X (e :: es) ta)
    (hc : eval (.Call (.Attribute (.Name "ValueError" p1) "__init__" p2) (e :: es) [] pos) X.env = (do
      let ov ← eval (.Name "ValueError" p1) X.env
      standAt p2.atName
      let (f, first) ← holding [ov] (getMethod ov "__init__" pl)
      callWith pos f first (backTo pos (starEach (e :: es) X.env)) (backToKw pos (keywordEach [] X.env))) := by rfl)
    (he : starEach (e :: es) X.env = (false, eval e X.env) :: starEach es X.env := by rfl) (hpl : (backTo pos (starEach es X.env)).any (·.1) = false := by rfl) :
    PE X (.Call (.Attribute (.Name "ValueError" p1) "__init__" p2) (e :: es) [] pos) (tInitB X.K "ValueError" newId "ValueError.__init__" bm ta) := by
  refine ⟨fun pins s σ H Q I h => ?_⟩
  refine PySem.W.methodCall_KW (ld_blt I hg hm PyProof.Rows.Boot.«ValueError» ?_ (by decide) (by decide)) hc
  obtain ⟨m, fr⟩ := I.fr
  refine PySem.W.method_type fr I.ok.mod.kin (show typeOf (.type "ValueError") = pure (.type "type") by kernel_rfl) (by decide +kernel) vV (by decide +kernel) ?_
  show wpAny _ _ (callWith pos (Value.builtin "ValueError.__init__") [] (backTo pos (starEach (e :: es) X.env)) []) _ _ _
  refine PyProof.Rows.callWith_method1 (thn (ha.run pos pins _ σ H _ (I.tok _) h) fun us s1 ⟨vs, H1, I1, r1, a, C, ws, ev, few, T, ea, q⟩ => ?_) he hpl
  subst ev
  cases r1 with
  | @cons _ u0 _ ur ra rw' =>
    obtain rfl : u0 = Value.ref a := ra
    exact init_B T I1 ea (by rw [← Paired.length rw', sizeLine_eq]; omega) fun s' J => ⟨.non, H1, J, rfl, q⟩
end
end Lp

namespace Lp
open PySem PySem.Spec PyProof.Rows L2
section
variable {X : Cx}
variable {x : Str} {C fI : Addr} {k : Nat} {fd : FuncData} {sp : Sp} {p pos : Pos} {B newId initId : String} {bm : List Value} {CX : CXT}
end
theorem truK {X : Cx} {K : PySem.W.Frag} {a : Expr} {ta : TE} (h : X.K = K) (x : PT X a (fun σ H Q => ta σ H fun x H' => ∃ k, TruV X.K x H' k ∧ Q k H')) : PT X a (fun σ H Q => ta σ H fun x H' => ∃ k, TruV K x H' k ∧ Q k H') := h ▸ x
end Lp

namespace Lp
open PySem PySem.Spec PyProof.Rows L2
def topS (i : Nat) : Stmt := PySem.Challenge.pw_lookpast_k15_known_goals.main.body.getD i (.Pass ⟨0, 0, 0, 0⟩)
section
variable {P : Program} {w : World} {K : PySem.W.Frag} {mg : Str → Option Value} {base : Heap}
abbrev sTake : Stmt := topS 38
theorem scTake : FnScope ["_law_box_here", "_law_span", "_law_found", "_law_once"] ["_law_box_here", "_law_span"] (defScope sTake) := ⟨rfl, rfl, rfl, by decide +kernel, rfl, by decide +kernel, by decide +kernel⟩
theorem ok_take {f : Addr} {fd : FuncData} {k : Nat} (F : Fun K "_law_take" "_law_take" sTake f fd) : FnOk P w K mg base CX0 (k + 1) f fd ["_law_box_here", "_law_span"] spTake := by
  refine F.ok scTake (fun vs H Q E h => ?_) (fun cdv A outer s H vs Q E hr h => ?_)
  · obtain ⟨b, span, c, rfl, _⟩ := h
    rfl
  · obtain ⟨b, span, c, rfl, ⟨x0, x1, x2, hb, h0, h1, h2, h3, h4⟩, hc, hs1, hs2, q⟩ := h
    refine ⟨_, pss_cons (ps_if (pt_cmpR op_gt (pe_ix ix_list (pv 0) pe_int (fun _ _ => rfl)) pe_int (nomark _))
        (pss_cons (ps_set (i := 2) scTake.nd rfl (.inl rfl) (pe_op op_mod (pe_ix ix_list (pv 0) pe_int (fun _ _ => rfl)) (pv 1)))
        (pss_cons (ps_asg (pe_op op_fdiv (pe_ix ix_list (pv 0) pe_int (fun _ _ => rfl)) (pv 1)) (pg_sub (pv 0) pe_int set_list))
        (pss_one (ps_ret (pv 2))))) pss_nil)
      (pss_cons (ps_if (pt_cmpR op_gt (pv 1) (pe_op op_pow pe_int pe_int) (nomark _)) pss_never pss_nil)
      (pss_cons (ps_asg (pe_op op_add (pe_ix ix_list (pv 0) pe_int (fun _ _ => rfl)) pe_int) (pg_sub (pv 0) pe_int set_list))
      (pss_cons (ps_set (i := 3) scTake.nd rfl (.inl rfl) (pe_op op_mod (pe_op op_pow (pe_op op_add (pe_ix ix_list (pv 0) pe_int (fun _ _ => rfl)) (pe_op op_mul pe_int (pe_ix ix_list (pv 0) pe_int (fun _ _ => rfl)))) pe_int) pe_int))
      (pss_one (ps_ret (pe_op op_mod (pe_op op_fdiv (pe_op op_mod (pe_op op_add (pe_op op_mul (pv 3) (pe_op op_add (pe_op op_mod (pv 3) pe_int) pe_int)) (pe_op op_mul (pe_ix ix_list (pv 0) pe_int (fun _ _ => rfl)) pe_int)) pe_int) pe_int) (pv 1))))))), ?_⟩
    have ix : SqL K H b [.int x0, .int x1, .int x2] := SqL.of hb
    refine ⟨.ref b, rfl, b, _, 0, .int x0, rfl, rfl, ix, rfl, x0, 0, rfl, rfl, _, rfl, ite2 (fun e => ?_) (fun e => ?_)⟩
    · have e0 : 0 < x0 := of_decide_eq_true e
      refine ⟨.ref b, rfl, b, _, 0, .int x0, rfl, rfl, ix, rfl, .int span, rfl, x0, span, rfl, rfl, (by show (0 : Int) < span; omega), ?_⟩
      refine ⟨.ref b, rfl, b, _, 0, .int x0, rfl, rfl, ix, rfl, .int span, rfl, x0, span, rfl, rfl, ⟨by omega, by omega⟩, ?_⟩
      refine ⟨.ref b, rfl, b, _, 0, 0, rfl, rfl, hb, rfl, ?_⟩
      refine ⟨.int (x0 % span), rfl, q _ _ (Sb.upd (Sb.refl b H)) ⟨x0 / span, x1, x2, upd_same, ?_, h1, h2, h3, by omega⟩ (Int.emod_nonneg _ (by omega)) (Int.emod_lt_of_pos _ (by omega))⟩
      exact Int.ediv_nonneg h0 (by omega)
    · refine ⟨.int span, rfl, 10, 7, rfl, rfl, ⟨by decide, by decide, by decide⟩, span, _, rfl, rfl, _, rfl, ?_⟩
      have e1 : ¬ ((10 : Int) ^ (7 : Int).toNat < span) := by
        show ¬ ((10000000 : Int) < span)
        omega
      rw [decide_eq_false e1]
      refine iteF ?_
      refine ⟨.ref b, rfl, b, _, 2, .int x2, rfl, rfl, ix, rfl, x2, 1, rfl, rfl, ?_⟩
      refine ⟨.ref b, rfl, b, _, 2, 2, rfl, rfl, hb, rfl, ?_⟩
      have ix2 : SqL K (upd H b (.lst [.int x0, .int x1, .int (x2 + 1)])) b [.int x0, .int x1, .int (x2 + 1)] := SqL.of upd_same
      refine ⟨.ref b, rfl, b, _, 1, .int x1, rfl, rfl, ix2, rfl, .ref b, rfl, b, _, 2, .int (x2 + 1), rfl, rfl, ix2, rfl, 39373, x2 + 1, rfl, rfl, .inl ⟨by decide, by decide⟩, x1, _, rfl, rfl, _, 5, rfl, rfl, ⟨by decide, by decide, by omega⟩, _, 2147483647, rfl, rfl, (by show (0 : Int) < 2147483647; decide), ?_⟩
      dsimp only
      generalize hg : (x1 + 39373 * (x2 + 1)) ^ (5 : Int).toNat % 2147483647 = once
      have o1 : 0 ≤ once := by rw [← hg]; exact Int.emod_nonneg _ (by decide)
      have o2 : once < 2147483647 := by rw [← hg]; exact Int.emod_lt_of_pos _ (by decide)
      refine ⟨.int once, rfl, .int once, rfl, once, 40009, rfl, rfl, (by show (0 : Int) < 40009; decide), _, 7, rfl, rfl, once, _, rfl, rfl, .inl ⟨by omega, by omega⟩, .ref b, rfl, b, _, 2, .int (x2 + 1), rfl, rfl, ix2, rfl, x2 + 1, 7919, rfl, rfl, .inl ⟨by omega, by omega⟩, _, _, rfl, rfl, _, 2147483629, rfl, rfl, (by show (0 : Int) < 2147483629; decide), _, 64, rfl, rfl, ⟨by decide, by decide⟩, .int span, rfl, _, span, rfl, rfl, (by show (0 : Int) < span; omega), ?_⟩
      exact q _ _ (Sb.upd (Sb.refl b H)) ⟨x0, x1, x2 + 1, upd_same, h0, h1, h2, by omega, by omega⟩ (Int.emod_nonneg _ (by omega)) (Int.emod_lt_of_pos _ (by omega))
theorem ok_takeB {f : Addr} {fd : FuncData} {k : Nat} (F : Fun K "_law_take" "_law_take" sTake f fd) (T : Cal P w K mg base "_law_take" (k + 1) ["_law_box_here", "_law_span"] spTake f fd) : FnOk P w K mg base CX0 (k + 2) f fd ["_law_box_here", "_law_span"] spTakeB := by
  refine F.ok scTake (fun vs H Q E h => ?_) (fun cdv A outer s H vs Q E hr h => ?_)
  · obtain ⟨b, span, c, rfl, _⟩ := h
    rfl
  · obtain ⟨b, span, c, rfl, hB, hc, hs1, hs2, q⟩ := h
    obtain ⟨x0, x1, x2, hb, h0, h1, h2, h3, h4⟩ := id hB
    refine ⟨_, pss_cons (ps_if (pt_cmpR op_gt (pe_ix ix_list (pv 0) pe_int (fun _ _ => rfl)) pe_int (nomark _))
        (pss_cons (ps_set (i := 2) scTake.nd rfl (.inl rfl) (pe_op op_mod (pe_ix ix_list (pv 0) pe_int (fun _ _ => rfl)) (pv 1)))
        (pss_cons (ps_asg (pe_op op_fdivW (pe_ix ix_list (pv 0) pe_int (fun _ _ => rfl)) (pv 1)) (pg_sub (pv 0) pe_int set_list))
        (pss_one (ps_ret (pv 2))))) pss_nil)
      (pss_cons (ps_if (pt_cmpR op_gt (pv 1) (pe_op op_pow pe_int pe_int) (nomark _))
        (pss_one (ps_ret (pe_op op_mod (pe_op op_add (pe_call T.ok hr (by rfl) T.g T.kp T.bd .nil pass0 (pa_cons (pv 0) (pa_cons (pe_op op_pow pe_int pe_int) pa_nil))) (pe_op op_mul (pe_op op_pow pe_int pe_int) (pe_call T.ok hr (by rfl) T.g T.kp T.bd .nil pass0 (pa_cons (pv 0) (pa_cons (pe_op op_add (pe_op op_fdiv (pe_op op_sub (pv 1) pe_int) (pe_op op_pow pe_int pe_int)) pe_int) pa_nil))))) (pv 1)))) pss_nil)
      pss_never), ?_⟩
    have ix : SqL K H b [.int x0, .int x1, .int x2] := SqL.of hb
    refine ⟨.ref b, rfl, b, _, 0, .int x0, rfl, rfl, ix, rfl, x0, 0, rfl, rfl, _, rfl, ite2 (fun e => ?_) (fun e => ?_)⟩
    · have e0 : 0 < x0 := of_decide_eq_true e
      refine ⟨.ref b, rfl, b, _, 0, .int x0, rfl, rfl, ix, rfl, .int span, rfl, x0, span, rfl, rfl, (by show (0 : Int) < span; omega), ?_⟩
      refine ⟨.ref b, rfl, b, _, 0, .int x0, rfl, rfl, ix, rfl, .int span, rfl, x0, span, rfl, rfl, wide_div (b := 64) (by omega) (by omega) (by decide) (by decide), ?_⟩
      refine ⟨.ref b, rfl, b, _, 0, 0, rfl, rfl, hb, rfl, ?_⟩
      refine ⟨.int (x0 % span), rfl, q _ _ (Sb.upd (Sb.refl b H)) ⟨x0 / span, x1, x2, upd_same, ?_, h1, h2, h3, by omega⟩ (Int.emod_nonneg _ (by omega)) (Int.emod_lt_of_pos _ (by omega))⟩
      exact Int.ediv_nonneg h0 (by omega)
    · have p7 : (10 : Int) ^ (7 : Int).toNat = 10000000 := by decide
      refine ⟨.int span, rfl, 10, 7, rfl, rfl, ⟨by decide, by decide, by decide⟩, span, _, rfl, rfl, _, rfl, ?_⟩
      have e1 : (10 : Int) ^ (7 : Int).toNat < span := by rw [p7]; omega
      rw [decide_eq_true e1]
      refine iteT ?_
      refine ⟨.ref b, rfl, 10, 7, rfl, rfl, ⟨by decide, by decide, by decide⟩, b, _, c, rfl, hB, by omega, by decide, by decide, fun H1 r1 sb1 hB1 r10 r11 => ?_⟩
      refine ⟨10, 7, rfl, rfl, ⟨by decide, by decide, by decide⟩, .ref b, rfl, .int span, rfl, span, 1, rfl, rfl, 10, 7, rfl, rfl, ⟨by decide, by decide, by decide⟩, _, _, rfl, rfl, ⟨by decide, by decide⟩, _, 1, rfl, rfl, b, _, c + 1, rfl, hB1, by omega, ?_, ?_, fun H2 r2 sb2 hB2 r20 r21 => ?_⟩
      · show 1 ≤ (span - 1) / (10 : Int) ^ (7 : Int).toNat + 1
        rw [p7]; omega
      · show (span - 1) / (10 : Int) ^ (7 : Int).toNat + 1 ≤ 10000000
        rw [p7]; omega
      · refine ⟨_, r2, rfl, rfl, .inl ⟨by decide, by decide⟩, r1, _, rfl, rfl, .int span, rfl, _, span, rfl, rfl, (by show (0 : Int) < span; omega), ?_⟩
        exact q H2 _ (sb1.trans sb2) (hB2.le (by omega)) (Int.emod_nonneg _ (by omega)) (Int.emod_lt_of_pos _ (by omega))
theorem ok_takeW {f : Addr} {fd : FuncData} {k : Nat} (F : Fun K "_law_take" "_law_take" sTake f fd) (T : Cal P w K mg base "_law_take" (k + 1) ["_law_box_here", "_law_span"] spTake f fd) : FnOk P w K mg base CX0 (k + 2) f fd ["_law_box_here", "_law_span"] spTakeW :=
  FnOk.imp (fn_or (ok_take F) (ok_takeB F T)) fun vs H Q E h => by
    obtain ⟨b, span, c, rfl, hB, hc, h1, h2, q⟩ := h
    by_cases hs : span ≤ 10000000
    · exact .inl ⟨b, span, c, rfl, hB, by omega, h1, hs, fun H' r sb hB' => q H' r sb (hB'.le (by omega))⟩
    · exact .inr ⟨b, span, c, rfl, hB, hc, by omega, h2, q⟩
abbrev sBox : Stmt := topS 37
theorem scBox : FnScope ["_law_script", "_law_k", "_law_cell"] ["_law_script", "_law_k"] (defScope sBox) := ⟨rfl, rfl, rfl, by decide +kernel, rfl, by decide +kernel, by decide +kernel⟩
theorem ok_box {f : Addr} {fd : FuncData} {k : Nat} (F : Fun K "_law_box" "_law_box" sBox f fd) (B : Bi mg) : FnOk P w K mg base CX0 (k + 1) f fd ["_law_script", "_law_k"] (spBox K) := by
  refine F.ok scBox (fun vs H Q E h => ?_) (fun cdv A outer s H vs Q E hr h => ?_)
  · obtain ⟨a, k, ns, rfl, _⟩ := h
    rfl
  · obtain ⟨a, k, ns, rfl, hS, h0, h1, q⟩ := h
    refine ⟨_, pss_cons (ps_set (i := 2) scBox.nd rfl (.inl rfl) (pe_ifExp (pt_cmpR op_lt (pv 1) (pe_callB call_len_seq (by rfl) B.len PySem.boot_len (pa_cons (pv 0) pa_nil)) (nomark _)) (pe_ix ix_list (pv 0) (pv 1) (fun _ _ => rfl)) pe_int))
      (pss_one (ps_ret (pe_lst (pa_cons (pe_op op_mul (pe_callB call_abs (by rfl) B.abs (by decide +kernel) (pa_cons (pv 2) pa_nil)) (pe_callTy call_int1 (by rfl) B.int (by decide +kernel) (pa_cons (pe_cmpR op_ge (pe_callB call_abs (by rfl) B.abs (by decide +kernel) (pa_cons (pv 2) pa_nil)) (pe_op op_pow pe_int pe_int) (nomark _)) pa_nil)))
        (pa_cons (pe_op op_add (pe_op op_add (pe_op op_mod (pv 2) pe_int) (pe_op op_mul pe_int (pv 1))) pe_int) (pa_cons pe_int pa_nil)))))), ?_⟩
    have fin : ∀ z : Int, tRet (tLst (tCons (tOp (rI CMul fun i j => .int (i * j)) (tCB (fun xs H Q => ∃ i, xs = [.int i] ∧ Q (.int (if i < 0 then -i else i)) H) (tCons (tVar 2) tNil)) (tCB (fun xs H Q => (∃ i, xs = [.int i] ∧ Q (.int i) H) ∨ ∃ k, xs = [.bl k] ∧ Q (.int (if k then 1 else 0)) H) (tCons (tOp (rI0 fun i j => .bl (decide (j ≤ i))) (tCB (fun xs H Q => ∃ i, xs = [.int i] ∧ Q (.int (if i < 0 then -i else i)) H) (tCons (tVar 2) tNil)) (tOp (rI CPow fun i j => .int (i ^ j.toNat)) (tC (.int 10)) (tC (.int 18)))) tNil)))
        (tCons (tOp (rI0 fun i j => .int (i + j)) (tOp (rI0 fun i j => .int (i + j)) (tOp (rI (fun _ j => 0 < j) fun i j => .int (i % j)) (tVar 2) (tC (.int 2305843009213693951))) (tOp (rI CMul fun i j => .int (i * j)) (tC (.int 7919)) (tVar 1))) (tC (.int 23))) (tCons (tC (.int 0)) tNil)))) { nx := fun _ H' => Q .non H', rt := Q } [some (.ref a), some (.int k), some (.int z)] H := by
      intro z
      refine ⟨.int z, rfl, z, rfl, .int z, rfl, z, rfl, 10, 18, rfl, rfl, ⟨by decide, by decide, by decide⟩, _, _, rfl, rfl, .inr ⟨_, rfl, _, _, rfl, rfl, .inr ?_, ?_⟩⟩
      · split <;> (split <;> exact ⟨by decide, by decide⟩)
      · refine ⟨.int z, rfl, z, _, rfl, rfl, (by show (0 : Int) < 2305843009213693951; decide), .int k, rfl, 7919, k, rfl, rfl, .inl ⟨by decide, by decide⟩, _, _, rfl, rfl, _, 23, rfl, rfl, (by show 3 ≤ sizeLine; decide), fun p hp => ?_⟩
        refine q _ p (same_new hp) hp ⟨_, _, _, upd_same, ?_, ?_, ?_, by decide, by decide⟩
        · have h1 : (0 : Int) ≤ (if z < 0 then -z else z) := by split <;> omega
          refine Int.mul_nonneg h1 ?_
          split <;> (split <;> decide)
        · have := Int.emod_nonneg z (show (2305843009213693951 : Int) ≠ 0 by decide)
          omega
        · have := Int.emod_lt_of_pos z (show (0 : Int) < 2305843009213693951 by decide)
          omega
    refine ⟨.int k, rfl, .ref a, rfl, a, _, rfl, .inl hS, k, _, rfl, rfl, _, rfl, ite2 (fun e => ?_) (fun e => ?_)⟩
    · have e1 : k < ((IL ns).length : Int) := of_decide_eq_true e
      rw [List.length_map] at e1
      obtain ⟨z, hz⟩ := at_lt h0 e1
      refine ⟨.ref a, rfl, .int k, rfl, a, _, k, .int z, rfl, rfl, hS, hz, ?_⟩
      exact fin z
    · exact fin 0
abbrev sCells : Stmt := topS 39
theorem scCells : FnScope ["_law_script", "_law_most", "_law_cells_here", "_law_k", "_law_cell"] ["_law_script", "_law_most"] (defScope sCells) := ⟨rfl, rfl, rfl, by decide +kernel, rfl, by decide +kernel, by decide +kernel⟩
theorem ok_cells {f : Addr} {fd : FuncData} {k : Nat} (F : Fun K "_law_cells" "_law_cells" sCells f fd) (B : Bi mg) : FnOk P w K mg base CX0 (k + 1) f fd ["_law_script", "_law_most"] (spCells K) := by
  refine F.ok scCells (fun vs H Q E h => ?_) (fun cdv A outer s H vs Q E hr h => ?_)
  · obtain ⟨a, m, ns, rfl, _⟩ := h
    rfl
  · obtain ⟨a, m, ns, rfl, hS, m1, m2, q⟩ := h
    refine ⟨_, pss_cons (ps_set (i := 2) scCells.nd rfl (.inl rfl) (pe_callTy call_list_of (by rfl) B.list (by decide +kernel) (pa_cons (pe_slice sl_list (pv 0) po_none (po_some (pv 1))) pa_nil)))
      (pss_cons (ps_for PassesOwn.never rfl (pi_enum (by rfl) B.enumerate (pa_cons (pe_slice sl_list (pv 0) (po_some (pv 1)) (po_some pe_int)) pa_nil))
          (pg_tup rfl (pgs_cons (pg_name (i := 3) scCells.nd rfl (.inl rfl)) (pgs_cons (pg_name (i := 4) scCells.nd rfl (.inl rfl)) pgs_nil)))
        (pss_one (ps_asg (pe_op op_add (pe_ix ix_list (pv 2) (pe_op op_mod (pv 3) (pv 1)) (fun _ _ => rfl)) (pe_op op_mul (pv 4) (pe_op op_add (pv 3) pe_int))) (pg_sub (pv 2) (pe_op op_mod (pv 3) (pv 1)) set_list))))
      (pss_one (ps_ret (pe_ifExp (pt_cmpR (op_neD hr.units) (pv 2) (pe_lst pa_nil) (nomark _)) (pv 2) (pe_lst (pa_cons pe_int pa_nil)))))), ?_⟩
    refine ⟨.ref a, rfl, .int m, rfl, m, rfl, a, _, rfl, hS, fun c nc => ?_⟩
    rw [cut_IL]
    refine ⟨c, _, rfl, .inl (SqL.of upd_same), fun o no => ?_⟩
    have s1 := same_new (o := HO.lst (IL ((ns.drop (HT.sIx ns.length 0 none)).take (HT.sIx ns.length ns.length (some m) - HT.sIx ns.length 0 none)))) nc
    have s2 := s1.trans (same_new (o := HO.lst (IL ((ns.drop (HT.sIx ns.length 0 none)).take (HT.sIx ns.length ns.length (some m) - HT.sIx ns.length 0 none)))) no)
    have n0 : H o = none := s1.free no
    refine ⟨.ref a, rfl, .int m, rfl, m, rfl, 63, rfl, a, _, rfl, s2.seq hS, fun e ne => ?_⟩
    rw [cut_IL]
    generalize hms : (ns.drop (HT.sIx ns.length 0 none)).take (HT.sIx ns.length ns.length (some m) - HT.sIx ns.length 0 none) = ms0
    generalize hes : (ns.drop (HT.sIx ns.length 0 (some m))).take (HT.sIx ns.length ns.length (some 63) - HT.sIx ns.length 0 (some m)) = es
    have hl0 : ms0.length = min m.toNat ns.length := by
      rw [← hms, List.length_take, List.length_drop, HT.sIx_none, sIx_int _ _ _ (by omega)]
      omega
    have hle : 0 < es.length → m.toNat < ns.length := by
      rw [← hes, List.length_take, List.length_drop, sIx_int _ _ m (by omega), sIx_int _ _ 63 (by omega)]
      omega
    have nee : o ≠ e := fun z => by
      rw [← z, upd_same] at ne
      cases ne
    have s3 := s2.trans (same_new (o := HO.lst (IL es)) ne)
    rw [hms] at s3
    refine ⟨e, _, rfl, SqL.of upd_same, ?_⟩
    refine for_it (walk_enum (K := K) (a := e) (xs := IL es)) (fun _ σ H3 => ∃ y3 y4 ms, σ = [some (.ref a), some (.int m), some (.ref o), y3, y4] ∧ Same H H3 ∧ H3 e = some (.lst (IL es)) ∧ H3 o = some (.lst (IL ms)) ∧ ms.length = min m.toNat ns.length) ?_ ?_ ?_ ?_
    · refine ⟨none, none, ms0, rfl, s3, upd_same, ?_, hl0⟩
      rw [upd_ne nee, upd_same]
    · rintro i σ H3 _ ⟨y3, y4, ms, rfl, _, he, _⟩
      exact SqL.of he
    · rintro i x σ H3 H4 hi ⟨y3, y4, ms, rfl, sm, he, ho, hl⟩ ⟨T, x1, x2, rfl, nT, rfl, hx1, hx2⟩
      cases hx1
      have hi' : i < es.length := by rw [List.length_map] at hi; exact hi
      have hx2' : x2 = .int es[i] := IL_at hx2 hi'
      subst hx2'
      have hml : (ms.length : Int) = m := by have := hle (by omega); omega
      have ho' : (upd H3 T (.tup [.int (i : Nat), .int es[i]])) o = some (.lst (IL ms)) := by rw [upd_ne (ne_of_none ho nT)]; exact ho
      have r0 : 0 ≤ (i : Int) % m := Int.emod_nonneg _ (by omega)
      have r1 : (i : Int) % m < (ms.length : Int) := by rw [hml]; exact Int.emod_lt_of_pos _ (by omega)
      obtain ⟨z, hz⟩ := at_lt r0 r1
      refine ⟨T, _, rfl, SqT.of upd_same, rfl, _, _, rfl, _, _, rfl, rfl, ?_⟩
      refine ⟨.ref o, rfl, .int i, rfl, .int m, rfl, i, m, rfl, rfl, (by show (0 : Int) < m; omega), o, _, _, .int z, rfl, rfl, SqL.of ho', hz, .int es[i], rfl, .int i, rfl, i, 2, rfl, rfl, es[i], _, rfl, rfl, .inr ⟨by omega, ?_⟩, z, _, rfl, rfl, ?_⟩
      · show (i : Int) + 2 < 2 ^ 64
        have : (es.length : Int) ≤ 63 := by
          have : es.length ≤ 63 := by rw [← hes, List.length_take, List.length_drop, sIx_int _ _ m (by omega), sIx_int _ _ 63 (by omega)]; omega
          omega
        omega
      · refine ⟨.ref o, rfl, .int i, rfl, .int m, rfl, i, m, rfl, rfl, (by show (0 : Int) < m; omega), o, _, _, ((i : Int) % m).toNat, rfl, rfl, ho', ?_, ?_⟩
        · rw [List.length_map]; exact ixN_ok r0 r1
        · rw [IL_set]
          refine ⟨_, _, _, rfl, ?_, ?_, upd_same, ?_⟩
          · exact same_mut (sm.trans (same_new nT)) n0
          · rw [upd_ne (Ne.symm nee), upd_ne (ne_of_none he nT)]; exact he
          · rw [List.length_set]; exact hl
    · rintro σ H3 ⟨y3, y4, ms, rfl, sm, he, ho, hl⟩
      refine ⟨.ref o, rfl, Nat.zero_le _, fun z nz => ?_⟩
      have ho2 : (upd H3 z (.lst [])) o = some (.lst (IL ms)) := by rw [upd_ne (ne_of_none ho nz)]; exact ho
      refine ⟨.list (dI ms), .list (dI []), .lst (SqL.of ho2) (dp_ints ms), .lst (SqL.of upd_same) (dp_ints []), shL ms, shL [], _, rfl, ?_⟩
      rw [eqvL]
      cases ms with
      | nil =>
        refine iteF ⟨by show 1 ≤ sizeLine; decide, fun p np => ?_⟩
        refine q _ p [0] ?_ ?_ upd_same (by decide) (by show (1 : Int) ≤ m; omega)
        · exact (sm.trans (same_new nz)).trans (same_new np)
        · exact (sm.trans (same_new nz)).free np
      | cons x r =>
        refine iteT ⟨.ref o, rfl, q _ o (x :: r) (sm.trans (same_new nz)) n0 ho2 ?_ ?_⟩
        · show 1 ≤ r.length + 1; omega
        · omega
abbrev s_kept : Stmt := topS 1
abbrev n_kept : List Str := ["value"]
theorem sc_kept : FnScope n_kept ["value"] (defScope s_kept) := ⟨rfl, rfl, rfl, by decide +kernel, rfl, by decide +kernel, by decide +kernel⟩
def spKept : Sp := fun vs H Q _ => ∃ v, vs = [v] ∧ okv H v ∧ Q v H
theorem okX_kept {f : Addr} {fd : FuncData} (F : Fun K "kept" "kept" s_kept f fd) (B : Bi mg) : FnOk P w K mg base CX0 1 f fd ["value"] spKept := by
  refine Fun.ok (k := 0) F sc_kept (fun vs H Q E h => ?_) (fun cdv A outer s H vs Q E hr h => ?_)
  · obtain ⟨v, rfl, _⟩ := h
    rfl
  · obtain ⟨v, rfl, ov, q⟩ := h
    refine ⟨_, (pss_one (ps_ret (pe_ifExp (pt_truth (pe_callB (isiK (K := K) rfl) (by rfl) B.isinstance (by decide +kernel) (pa_cons (pv 0) (pa_cons (pe_bltn (v := .ty "list") (by rfl) B.list (by decide +kernel) rfl) pa_nil))) (by intro _; rfl)) (pe_callTy (tupleK (K := K) rfl) (by rfl) B.tuple (by decide +kernel) (pa_cons (pv 0) pa_nil)) (pv 0)))), ?_⟩
    refine ⟨v, rfl, ?_⟩
    rcases ov with ⟨i, rfl⟩ | ⟨p, xs, rfl, o, _, e⟩
    · exact ⟨.int i, .ty "list", .type "int", .type "list", false, rfl, .ty "list", .inl (.base (.int i)), kit_ty (show kitB "int" "list" = some false by decide +kernel), false, rfl, ⟨.int i, rfl, q⟩⟩
    · exact ⟨.ref p, .ty "list", .type "tuple", .type "list", false, rfl, .ty "list", .inl (.fTuple e), kit_ty (show kitB "tuple" "list" = some false by decide +kernel), false, rfl, ⟨.ref p, rfl, q⟩⟩
abbrev s_init_OtherSize : Stmt := match topS 3 with
  | .ClassDef _ _ _ (b :: _) _ _ _ _ _ _ _ => b
  | _ => .Pass ⟨0, 0, 0, 0⟩
theorem sc_init_OtherSize : FnScope ["self", "size"] ["self", "size"] (defScope s_init_OtherSize) := ⟨rfl, rfl, rfl, by decide +kernel, rfl, by decide +kernel, by decide +kernel⟩
theorem ok_init_OtherSize {f C : Addr} {fd : FuncData} (F : Fun K "__init__" "OtherSize.__init__" s_init_OtherSize f fd) (B : Bi mg) (hR : mg "ValueError" = none) (vR : PySem.W.findCls K (.type "ValueError") (.type "type") "__init__" = some (.val (.builtin "ValueError.__init__")))
    (T : OexB K C "ValueError" "ValueError.__new__" "ValueError.__init__" bm_ValueError) (no : PySem.W.findIn K (.ref C) "size" = some none)  : FnOk P w K mg base CX0 1 f fd ["self", "size"] (spI K C "size") := by
  refine Fun.ok (k := 0) F sc_init_OtherSize (fun vs H Q E h => ?_) (fun cdv A outer s H vs Q E hr h => ?_)
  · obtain ⟨a, v, rfl, _⟩ := h
    rfl
  · obtain ⟨a, v, rfl, ea, ov, q⟩ := h
    refine ⟨_, pss_cons (ps_expr (pe_initValueError (bm := bm_ValueError) (newId := "ValueError.__new__") (by rfl) hR vR (pa_cons (pv 0) (pa_cons pe_str pa_nil))))
      (pss_one (ps_storeB (B := "ValueError") (newId := "ValueError.__new__") (initId := "ValueError.__init__") (bm := bm_ValueError) (pv 0) (pv 1))), ?_⟩
    refine ⟨.ref a, rfl, a, C, [_], rfl, by simp, T, ea, ?_⟩
    refine ⟨v, rfl, ?_⟩
    exact ⟨.ref a, rfl, a, C, rfl, T, no, ea, fun dx n ne => q dx n ne⟩
abbrev s_init_Unreachable : Stmt := match topS 4 with
  | .ClassDef _ _ _ (b :: _) _ _ _ _ _ _ _ => b
  | _ => .Pass ⟨0, 0, 0, 0⟩
theorem sc_init_Unreachable : FnScope ["self", "obstacle"] ["self", "obstacle"] (defScope s_init_Unreachable) := ⟨rfl, rfl, rfl, by decide +kernel, rfl, by decide +kernel, by decide +kernel⟩
theorem ok_init_Unreachable {f C : Addr} {fd : FuncData} (F : Fun K "__init__" "Unreachable.__init__" s_init_Unreachable f fd) (B : Bi mg) (hR : mg "RuntimeError" = none) (vR : PySem.W.findCls K (.type "RuntimeError") (.type "type") "__init__" = some (.val (.builtin "RuntimeError.__init__")))
    (T : OexB K C "RuntimeError" "RuntimeError.__new__" "RuntimeError.__init__" bm_RuntimeError) (no : PySem.W.findIn K (.ref C) "obstacle" = some none) {fk : Addr} {ek : FuncData} (c_kept : Cal P w K mg base "kept" 1 ["value"] spKept fk ek) : FnOk P w K mg base CX0 2 f fd ["self", "obstacle"] (spI K C "obstacle") := by
  refine Fun.ok (k := 1) F sc_init_Unreachable (fun vs H Q E h => ?_) (fun cdv A outer s H vs Q E hr h => ?_)
  · obtain ⟨a, v, rfl, _⟩ := h
    rfl
  · obtain ⟨a, v, rfl, ea, ov, q⟩ := h
    refine ⟨_, pss_cons (ps_expr (pe_initR (bm := bm_RuntimeError) (newId := "RuntimeError.__new__") (by rfl) hR vR (pa_cons (pv 0) (pa_cons pe_str pa_nil))))
      (pss_one (ps_storeB (B := "RuntimeError") (newId := "RuntimeError.__new__") (initId := "RuntimeError.__init__") (bm := bm_RuntimeError) (pv 0) (pe_call c_kept.ok hr (by rfl) c_kept.g c_kept.kp c_kept.bd .nil pass0 (pa_cons (pv 1) pa_nil)))), ?_⟩
    refine ⟨.ref a, rfl, a, C, [_], rfl, by simp, T, ea, ?_⟩
    refine ⟨v, rfl, v, rfl, ov, ?_⟩
    exact ⟨.ref a, rfl, a, C, rfl, T, no, ea, fun dx n ne => q dx n ne⟩
abbrev s_is_person : Stmt := topS 6
abbrev n_is_person : List Str := ["value", "size"]
theorem sc_is_person : FnScope n_is_person ["value", "size"] (defScope s_is_person) := ⟨rfl, rfl, rfl, by decide +kernel, rfl, by decide +kernel, by decide +kernel⟩
theorem ok_is_person {f : Addr} {fd : FuncData} (F : Fun K "is_person" "is_person" s_is_person f fd) (B : Bi mg)     : FnOk P w K mg base CX0 1 f fd ["value", "size"] (spD 2 p_is_person) := by
  refine okD (k := 0) F sc_is_person rfl (fun cdv A outer s H E hr => ?_) m_is_person
  exact ⟨_, (pss_one (ps_ret (pe_and (pe_callB (isiK (K := K) rfl) (by rfl) B.isinstance (by decide +kernel) (pa_cons (pv 0) (pa_cons (pe_bltn (v := .ty "int") (by rfl) B.int (by decide +kernel) rfl) pa_nil))) (pe_and (pe_not (pe_callB (isiK (K := K) rfl) (by rfl) B.isinstance (by decide +kernel) (pa_cons (pv 0) (pa_cons (pe_bltn (v := .ty "bool") (by rfl) B.bool (by decide +kernel) rfl) pa_nil)))) (pe_one (pe_chain op_le op_lt pe_int (pv 0) (pv 1))))))),
    (ss_ret (se_andV (se_isi (.inl rfl) se_var) (se_andV (se_notV (se_isi (.inr (.inl rfl)) se_var)) (se_chain r2_B r2_B se_int se_var se_var))))⟩
abbrev s_check_person : Stmt := topS 7
abbrev n_check_person : List Str := ["state", "person"]
theorem sc_check_person : FnScope n_check_person ["state", "person"] (defScope s_check_person) := ⟨rfl, rfl, rfl, by decide +kernel, rfl, by decide +kernel, by decide +kernel⟩
theorem ok_check_person {f : Addr} {fd : FuncData} (F : Fun K "check_person" "check_person" s_check_person f fd) (B : Bi mg)     : FnOk P w K mg base CX0 1 f fd ["state", "person"] (spD 2 p_check_person) := by
  refine okD (k := 0) F sc_check_person rfl (fun cdv A outer s H E hr => ?_) m_check_person
  exact ⟨_, (pss_one (ps_if (pt_not (pt_chain op_le op_lt pe_int (pv 1) (pe_callB (lenK (K := K) rfl) (by rfl) B.len (by decide +kernel) (pa_cons (pv 0) pa_nil)))) pss_never pss_nil)),
    (ss_if (st_not (st_test (se_chain r2_B r2_B se_int se_var (se_cb rc_len (sa_cons se_var sa_nil))))) ss_never ss_next)⟩
abbrev s_route_from : Stmt := topS 8
abbrev n_route_from : List Str := ["pointers", "person", "route", "seen", "at"]
theorem sc_route_from : FnScope n_route_from ["pointers", "person"] (defScope s_route_from) := ⟨rfl, rfl, rfl, by decide +kernel, rfl, by decide +kernel, by decide +kernel⟩
theorem ok_route_from {f : Addr} {fd : FuncData} (F : Fun K "route_from" "route_from" s_route_from f fd) (B : Bi mg)     : FnOk P w K mg base CX0 1 f fd ["pointers", "person"] (spD 2 p_route_from) := by
  refine okD (k := 0) F sc_route_from rfl (fun cdv A outer s H E hr => ?_) m_route_from
  exact ⟨_, (pss_cons (ps_set (i := 2) sc_route_from.nd rfl (by first | exact Or.inl rfl | exact Or.inr rfl) (pe_lst pa_nil))
      (pss_cons (ps_set (i := 3) sc_route_from.nd rfl (by first | exact Or.inl rfl | exact Or.inr rfl) (pe_callTy0 (set0K (w := w) rfl) (by rfl) B.set (by decide +kernel)))
      (pss_cons (ps_set (i := 4) sc_route_from.nd rfl (by first | exact Or.inl rfl | exact Or.inr rfl) (pv 1))
      (pss_cons (ps_while PassesOwn.never (PW.pt (pw_and (pt_cmpR op_notN (pv 4) pe_non (nomark _)) (pw_and1 (pt_cmpR (snotinK (w := w) rfl) (pv 4) (pv 3) (by rfl))))) (pss_cons (ps_expr (saddK (w := w) rfl (pe_sadd (pv 3) (pa_cons (pv 4) pa_nil))))
      (pss_cons (ps_expr (bmK (K := K) rfl (pe_bm PySem.F.plainAttrs_list PySem.F.slot_list_append PySem.F.type_list_append mt_append (pv 2) (pa_cons (pv 4) pa_nil))))
      (pss_one (ps_set (i := 4) sc_route_from.nd rfl (by first | exact Or.inl rfl | exact Or.inr rfl) (pe_ix (ixK (K := K) rfl) (pv 0) (pv 4) (fun _ _ => rfl)))))))
      (pss_one (ps_ret (pv 2))))))),
    (ss_seq (ss_set true (se_lst sa_nil))
      (ss_seq ss_set0
      (ss_seq (ss_set false se_var)
      (ss_seq (ss_while (st_and (st_test (se_op r2_notN se_var se_non)) (st_test (se_snotin se_var se_var))) (ss_seq (ss_sadd se_var)
      (ss_seq (ss_append se_var)
      (ss_set false (se_op r2_ix se_var se_var)))))
      (ss_ret se_var)))))⟩
abbrev s_turned : Stmt := topS 9
abbrev n_turned : List Str := ["members", "first", "at"]
theorem sc_turned : FnScope n_turned ["members", "first"] (defScope s_turned) := ⟨rfl, rfl, rfl, by decide +kernel, rfl, by decide +kernel, by decide +kernel⟩
theorem ok_turned {f : Addr} {fd : FuncData} (F : Fun K "turned" "turned" s_turned f fd) (B : Bi mg)     : FnOk P w K mg base CX0 1 f fd ["members", "first"] (spD 2 p_turned) := by
  refine okD (k := 0) F sc_turned rfl (fun cdv A outer s H E hr => ?_) m_turned
  exact ⟨_, (pss_cons (ps_set (i := 2) sc_turned.nd rfl (by first | exact Or.inl rfl | exact Or.inr rfl) (indexK (K := K) rfl (pe_index (pv 0) (pa_cons (pv 1) pa_nil))))
      (pss_one (ps_ret (pe_op (addK (K := K) rfl) (pe_slice (slK (K := K) rfl) (pv 0) (po_some (pv 2)) po_none) (pe_slice (slK (K := K) rfl) (pv 0) po_none (po_some (pv 2))))))),
    (ss_seq (ss_set false (se_index se_var se_var))
      (ss_ret (se_op r2_add (se_sl rs_sl se_var (so_some se_var) so_none) (se_sl rs_sl se_var so_none (so_some se_var)))))⟩
abbrev s_ring_begin : Stmt := topS 10
abbrev n_ring_begin : List Str := ["state", "route"]
theorem sc_ring_begin : FnScope n_ring_begin ["state", "route"] (defScope s_ring_begin) := ⟨rfl, rfl, rfl, by decide +kernel, rfl, by decide +kernel, by decide +kernel⟩
theorem ok_ring_begin {f : Addr} {fd : FuncData} (F : Fun K "ring_begin" "ring_begin" s_ring_begin f fd) (B : Bi mg)     : FnOk P w K mg base CX0 1 f fd ["state", "route"] (spD 2 p_ring_begin) := by
  refine okD (k := 0) F sc_ring_begin rfl (fun cdv A outer s H E hr => ?_) m_ring_begin
  exact ⟨_, (pss_one (ps_ret (indexK (K := K) rfl (pe_index (pv 1) (pa_cons (pe_ix (ixK (K := K) rfl) (pv 0) (pe_ix (ixK (K := K) rfl) (pv 1) (pe_un un_neg pe_int) (fun _ _ => rfl)) (fun _ _ => rfl)) pa_nil))))),
    (ss_ret (se_index se_var (se_op r2_ix se_var (se_op r2_ix se_var (se_un ru_neg se_int)))))⟩
abbrev s_way : Stmt := topS 11
abbrev n_way : List Str := ["state", "person"]
theorem sc_way : FnScope n_way ["state", "person"] (defScope s_way) := ⟨rfl, rfl, rfl, by decide +kernel, rfl, by decide +kernel, by decide +kernel⟩
theorem ok_way {f : Addr} {fd : FuncData} (F : Fun K "way" "way" s_way f fd) (B : Bi mg) {f_check_person : Addr} {e_check_person : FuncData} (c_check_person : Cal P w K mg base "check_person" 1 ["state", "person"] (spD 2 p_check_person) f_check_person e_check_person) {f_route_from : Addr} {e_route_from : FuncData} (c_route_from : Cal P w K mg base "route_from" 1 ["pointers", "person"] (spD 2 p_route_from) f_route_from e_route_from)    : FnOk P w K mg base CX0 2 f fd ["state", "person"] (spD 2 p_way) := by
  refine okD (k := 1) F sc_way rfl (fun cdv A outer s H E hr => ?_) m_way
  exact ⟨_, (pss_cons (ps_expr (pe_call c_check_person.ok (hr.mono (by decide)) (by rfl) c_check_person.g c_check_person.kp c_check_person.bd .nil pass0 (pa_cons (pv 0) (pa_cons (pv 1) pa_nil))))
      (pss_one (ps_ret (pe_call c_route_from.ok (hr.mono (by decide)) (by rfl) c_route_from.g c_route_from.kp c_route_from.bd .nil pass0 (pa_cons (pv 0) (pa_cons (pe_ix (ixK (K := K) rfl) (pv 0) (pv 1) (fun _ _ => rfl)) pa_nil)))))),
    (ss_seq (ss_drop (se_call mon_check_person (sa_cons se_var (sa_cons se_var sa_nil))))
      (ss_ret (se_call mon_route_from (sa_cons se_var (sa_cons (se_op r2_ix se_var se_var) sa_nil)))))⟩
abbrev s_ring_of : Stmt := topS 12
abbrev n_ring_of : List Str := ["state", "person", "route", "members"]
theorem sc_ring_of : FnScope n_ring_of ["state", "person"] (defScope s_ring_of) := ⟨rfl, rfl, rfl, by decide +kernel, rfl, by decide +kernel, by decide +kernel⟩
theorem ok_ring_of {f : Addr} {fd : FuncData} (F : Fun K "ring_of" "ring_of" s_ring_of f fd) (B : Bi mg) {f_check_person : Addr} {e_check_person : FuncData} (c_check_person : Cal P w K mg base "check_person" 1 ["state", "person"] (spD 2 p_check_person) f_check_person e_check_person) {f_route_from : Addr} {e_route_from : FuncData} (c_route_from : Cal P w K mg base "route_from" 1 ["pointers", "person"] (spD 2 p_route_from) f_route_from e_route_from) {f_ring_begin : Addr} {e_ring_begin : FuncData} (c_ring_begin : Cal P w K mg base "ring_begin" 1 ["state", "route"] (spD 2 p_ring_begin) f_ring_begin e_ring_begin) {f_turned : Addr} {e_turned : FuncData} (c_turned : Cal P w K mg base "turned" 1 ["members", "first"] (spD 2 p_turned) f_turned e_turned)    : FnOk P w K mg base CX0 2 f fd ["state", "person"] (spD 2 p_ring_of) := by
  refine okD (k := 1) F sc_ring_of rfl (fun cdv A outer s H E hr => ?_) m_ring_of
  exact ⟨_, (pss_cons (ps_expr (pe_call c_check_person.ok (hr.mono (by decide)) (by rfl) c_check_person.g c_check_person.kp c_check_person.bd .nil pass0 (pa_cons (pv 0) (pa_cons (pv 1) pa_nil))))
      (pss_cons (ps_set (i := 2) sc_ring_of.nd rfl (by first | exact Or.inl rfl | exact Or.inr rfl) (pe_call c_route_from.ok (hr.mono (by decide)) (by rfl) c_route_from.g c_route_from.kp c_route_from.bd .nil pass0 (pa_cons (pv 0) (pa_cons (pv 1) pa_nil))))
      (pss_cons (ps_set (i := 3) sc_ring_of.nd rfl (by first | exact Or.inl rfl | exact Or.inr rfl) (pe_slice (slK (K := K) rfl) (pv 2) (po_some (pe_call c_ring_begin.ok (hr.mono (by decide)) (by rfl) c_ring_begin.g c_ring_begin.kp c_ring_begin.bd .nil pass0 (pa_cons (pv 0) (pa_cons (pv 2) pa_nil)))) po_none))
      (pss_one (ps_ret (pe_callTy (tupleK (K := K) rfl) (by rfl) B.tuple (by decide +kernel) (pa_cons (pe_call c_turned.ok (hr.mono (by decide)) (by rfl) c_turned.g c_turned.kp c_turned.bd .nil pass0 (pa_cons (pv 3) (pa_cons (pe_callB (minK (K := K) rfl rfl) (by rfl) B.min (by decide +kernel) (pa_cons (pv 3) pa_nil)) pa_nil))) pa_nil))))))),
    (ss_seq (ss_drop (se_call mon_check_person (sa_cons se_var (sa_cons se_var sa_nil))))
      (ss_seq (ss_set false (se_call mon_route_from (sa_cons se_var (sa_cons se_var sa_nil))))
      (ss_seq (ss_set false (se_sl rs_sl se_var (so_some (se_call mon_ring_begin (sa_cons se_var (sa_cons se_var sa_nil)))) so_none))
      (ss_ret (se_cb rc_tuple (sa_cons (se_call mon_turned (sa_cons se_var (sa_cons (se_cb rc_min (sa_cons se_var sa_nil)) sa_nil))) sa_nil))))))⟩
abbrev s_rings : Stmt := topS 13
abbrev n_rings : List Str := ["state", "person"]
theorem sc_rings : FnScope n_rings ["state"] (defScope s_rings) := ⟨rfl, rfl, rfl, by decide +kernel, rfl, by decide +kernel, by decide +kernel⟩
theorem ok_rings {f : Addr} {fd : FuncData} (F : Fun K "rings" "rings" s_rings f fd) (B : Bi mg) {f_ring_of : Addr} {e_ring_of : FuncData} (c_ring_of : Cal P w K mg base "ring_of" 2 ["state", "person"] (spD 2 p_ring_of) f_ring_of e_ring_of)    : FnOk P w K mg base CX0 3 f fd ["state"] (spD 1 p_rings) := by
  refine okD (k := 2) F sc_rings rfl (fun cdv A outer s H E hr => ?_) m_rings
  exact ⟨_, (pss_one (ps_ret (pe_callB (sortSK (K := K) (P := P) (w := w) rfl rfl rfl rfl) (by rfl) B.sorted (by decide +kernel) (pa_cons (scTK (K := K) (P := P) (w := w) rfl rfl rfl (pe_scT (own := [("person", 1)]) (by rfl) (Nat.lt_of_le_of_lt (Nat.add_le_add_left (by decide) _) hr.units) sc_rings.nd (pi_range1 (by rfl) B.range (pa_cons (pe_callB (lenK (K := K) rfl) (by rfl) B.len (by decide +kernel) (pa_cons (pv 0) pa_nil)) pa_nil)) (blkOk_by (own := [("person", 1)]) (N := n_rings) (sc := (defScope s_rings)) (by decide +kernel)) (fun _ _ _ _ _ => (pg_name (i := 1) sc_rings.nd rfl (by first | exact Or.inl rfl | exact Or.inr rfl))) (fun _ _ _ _ _ => (pe_call c_ring_of.ok (hr.mono (by decide)) (by rfl) c_ring_of.g c_ring_of.kp c_ring_of.bd .nil pass0 (pa_cons (pv 0) (pa_cons (pv 1) pa_nil)))))) pa_nil)))),
    (ss_ret (se_sortSc (si_rng1 (sa_cons (se_cb rc_len (sa_cons se_var sa_nil)) sa_nil)) sg_name (se_call mon_ring_of (sa_cons se_var (sa_cons se_var sa_nil)))))⟩
abbrev s_height : Stmt := topS 14
abbrev n_height : List Str := ["state", "person"]
theorem sc_height : FnScope n_height ["state", "person"] (defScope s_height) := ⟨rfl, rfl, rfl, by decide +kernel, rfl, by decide +kernel, by decide +kernel⟩
theorem ok_height {f : Addr} {fd : FuncData} (F : Fun K "height" "height" s_height f fd) (B : Bi mg) {f_check_person : Addr} {e_check_person : FuncData} (c_check_person : Cal P w K mg base "check_person" 1 ["state", "person"] (spD 2 p_check_person) f_check_person e_check_person) {f_ring_begin : Addr} {e_ring_begin : FuncData} (c_ring_begin : Cal P w K mg base "ring_begin" 1 ["state", "route"] (spD 2 p_ring_begin) f_ring_begin e_ring_begin) {f_route_from : Addr} {e_route_from : FuncData} (c_route_from : Cal P w K mg base "route_from" 1 ["pointers", "person"] (spD 2 p_route_from) f_route_from e_route_from)    : FnOk P w K mg base CX0 2 f fd ["state", "person"] (spD 2 p_height) := by
  refine okD (k := 1) F sc_height rfl (fun cdv A outer s H E hr => ?_) m_height
  exact ⟨_, (pss_cons (ps_expr (pe_call c_check_person.ok (hr.mono (by decide)) (by rfl) c_check_person.g c_check_person.kp c_check_person.bd .nil pass0 (pa_cons (pv 0) (pa_cons (pv 1) pa_nil))))
      (pss_one (ps_ret (pe_call c_ring_begin.ok (hr.mono (by decide)) (by rfl) c_ring_begin.g c_ring_begin.kp c_ring_begin.bd .nil pass0 (pa_cons (pv 0) (pa_cons (pe_call c_route_from.ok (hr.mono (by decide)) (by rfl) c_route_from.g c_route_from.kp c_route_from.bd .nil pass0 (pa_cons (pv 0) (pa_cons (pv 1) pa_nil))) pa_nil)))))),
    (ss_seq (ss_drop (se_call mon_check_person (sa_cons se_var (sa_cons se_var sa_nil))))
      (ss_ret (se_call mon_ring_begin (sa_cons se_var (sa_cons (se_call mon_route_from (sa_cons se_var (sa_cons se_var sa_nil))) sa_nil)))))⟩
abbrev s_check_word : Stmt := topS 16
abbrev n_check_word : List Str := ["state", "word", "person"]
theorem sc_check_word : FnScope n_check_word ["state", "word"] (defScope s_check_word) := ⟨rfl, rfl, rfl, by decide +kernel, rfl, by decide +kernel, by decide +kernel⟩
theorem ok_check_word {f : Addr} {fd : FuncData} (F : Fun K "check_word" "check_word" s_check_word f fd) (B : Bi mg) {f_check_person : Addr} {e_check_person : FuncData} (c_check_person : Cal P w K mg base "check_person" 1 ["state", "person"] (spD 2 p_check_person) f_check_person e_check_person)    : FnOk P w K mg base CX0 2 f fd ["state", "word"] (spD 2 p_check_word) := by
  refine okD (k := 1) F sc_check_word rfl (fun cdv A outer s H E hr => ?_) m_check_word
  exact ⟨_, (pss_one (ps_for PassesOwn.never rfl (seqK (K := K) rfl (pv 1)) (pg_name (i := 2) sc_check_word.nd rfl (by first | exact Or.inl rfl | exact Or.inr rfl)) (pss_one (ps_expr (pe_call c_check_person.ok (hr.mono (by decide)) (by rfl) c_check_person.g c_check_person.kp c_check_person.bd .nil pass0 (pa_cons (pv 0) (pa_cons (pv 2) pa_nil))))))),
    (ss_for (si_seq se_var) sg_name (ss_drop (se_call mon_check_person (sa_cons se_var (sa_cons se_var sa_nil)))))⟩
abbrev s_called_all : Stmt := topS 17
abbrev n_called_all : List Str := ["state", "word", "pointers", "person"]
theorem sc_called_all : FnScope n_called_all ["state", "word"] (defScope s_called_all) := ⟨rfl, rfl, rfl, by decide +kernel, rfl, by decide +kernel, by decide +kernel⟩
theorem ok_called_all {f : Addr} {fd : FuncData} (F : Fun K "called_all" "called_all" s_called_all f fd) (B : Bi mg) {f_check_word : Addr} {e_check_word : FuncData} (c_check_word : Cal P w K mg base "check_word" 2 ["state", "word"] (spD 2 p_check_word) f_check_word e_check_word)    : FnOk P w K mg base CX0 3 f fd ["state", "word"] (spD 2 p_called_all) := by
  refine okD (k := 2) F sc_called_all rfl (fun cdv A outer s H E hr => ?_) m_called_all
  exact ⟨_, (pss_cons (ps_expr (pe_call c_check_word.ok (hr.mono (by decide)) (by rfl) c_check_word.g c_check_word.kp c_check_word.bd .nil pass0 (pa_cons (pv 0) (pa_cons (pv 1) pa_nil))))
      (pss_cons (ps_set (i := 2) sc_called_all.nd rfl (by first | exact Or.inl rfl | exact Or.inr rfl) (pe_callTy (listK (K := K) rfl) (by rfl) B.list (by decide +kernel) (pa_cons (pv 0) pa_nil)))
      (pss_cons (ps_for PassesOwn.never rfl (seqK (K := K) rfl (pv 1)) (pg_name (i := 3) sc_called_all.nd rfl (by first | exact Or.inl rfl | exact Or.inr rfl)) (pss_one (ps_asg (pe_ix (ixK (K := K) rfl) (pv 2) (pe_ix (ixK (K := K) rfl) (pv 2) (pv 3) (fun _ _ => rfl)) (fun _ _ => rfl)) (pg_sub (pv 2) (pv 3) set_list))))
      (pss_one (ps_ret (pe_callTy (tupleK (K := K) rfl) (by rfl) B.tuple (by decide +kernel) (pa_cons (pv 2) pa_nil))))))),
    (ss_seq (ss_drop (se_call mon_check_word (sa_cons se_var (sa_cons se_var sa_nil))))
      (ss_seq (ss_set true (se_cb rc_list (sa_cons se_var sa_nil)))
      (ss_seq (ss_for (si_seq se_var) sg_name (ss_setIx (se_op r2_ix se_var (se_op r2_ix se_var se_var)) se_var))
      (ss_ret (se_cb rc_tuple (sa_cons se_var sa_nil))))))⟩
abbrev s_check_size : Stmt := topS 19
abbrev n_check_size : List Str := ["state", "other"]
theorem sc_check_size : FnScope n_check_size ["state", "other"] (defScope s_check_size) := ⟨rfl, rfl, rfl, by decide +kernel, rfl, by decide +kernel, by decide +kernel⟩
theorem ok_check_size {f : Addr} {fd : FuncData} (F : Fun K "check_size" "check_size" s_check_size f fd) (B : Bi mg)     : FnOk P w K mg base CX0 1 f fd ["state", "other"] (spD 2 p_check_size) := by
  refine okD (k := 0) F sc_check_size rfl (fun cdv A outer s H E hr => ?_) m_check_size
  exact ⟨_, (pss_one (ps_if (pt_cmpR (neK (K := K) rfl hr.units) (pe_callB (lenK (K := K) rfl) (by rfl) B.len (by decide +kernel) (pa_cons (pv 1) pa_nil)) (pe_callB (lenK (K := K) rfl) (by rfl) B.len (by decide +kernel) (pa_cons (pv 0) pa_nil)) (nomark _)) pss_never pss_nil)),
    (ss_if (st_test (se_op r2_ne (se_cb rc_len (sa_cons se_var sa_nil)) (se_cb rc_len (sa_cons se_var sa_nil)))) ss_never ss_next)⟩
abbrev s_closed_rings : Stmt := topS 21
abbrev n_closed_rings : List Str := ["pointers", "found", "person", "route"]
theorem sc_closed_rings : FnScope n_closed_rings ["pointers"] (defScope s_closed_rings) := ⟨rfl, rfl, rfl, by decide +kernel, rfl, by decide +kernel, by decide +kernel⟩
theorem ok_closed_rings {f : Addr} {fd : FuncData} (F : Fun K "closed_rings" "closed_rings" s_closed_rings f fd) (B : Bi mg) {f_route_from : Addr} {e_route_from : FuncData} (c_route_from : Cal P w K mg base "route_from" 1 ["pointers", "person"] (spD 2 p_route_from) f_route_from e_route_from)    : FnOk P w K mg base CX0 2 f fd ["pointers"] (spD 1 p_closed_rings) := by
  refine okD (k := 1) F sc_closed_rings rfl (fun cdv A outer s H E hr => ?_) m_closed_rings
  exact ⟨_, (pss_cons (ps_set (i := 1) sc_closed_rings.nd rfl (by first | exact Or.inl rfl | exact Or.inr rfl) (pe_lst pa_nil))
      (pss_cons (ps_for PassesOwn.never rfl (pi_range1 (by rfl) B.range (pa_cons (pe_callB (lenK (K := K) rfl) (by rfl) B.len (by decide +kernel) (pa_cons (pv 0) pa_nil)) pa_nil)) (pg_name (i := 2) sc_closed_rings.nd rfl (by first | exact Or.inl rfl | exact Or.inr rfl)) (pss_cons (ps_set (i := 3) sc_closed_rings.nd rfl (by first | exact Or.inl rfl | exact Or.inr rfl) (pe_call c_route_from.ok (hr.mono (by decide)) (by rfl) c_route_from.g c_route_from.kp c_route_from.bd .nil pass0 (pa_cons (pv 0) (pa_cons (pv 2) pa_nil))))
      (pss_one (ps_if (PW.pt (pw_and (pt_cmpR (eqK (K := K) rfl hr.units) (pe_ix (ixK (K := K) rfl) (pv 0) (pe_ix (ixK (K := K) rfl) (pv 3) (pe_un un_neg pe_int) (fun _ _ => rfl)) (fun _ _ => rfl)) (pv 2) (nomark _)) (pw_and1 (pt_cmpR (eqK (K := K) rfl hr.units) (pe_callB (minK (K := K) rfl rfl) (by rfl) B.min (by decide +kernel) (pa_cons (pv 3) pa_nil)) (pv 2) (nomark _))))) (pss_one (ps_expr (bmK (K := K) rfl (pe_bm PySem.F.plainAttrs_list PySem.F.slot_list_append PySem.F.type_list_append mt_append (pv 1) (pa_cons (pe_callTy (tupleK (K := K) rfl) (by rfl) B.tuple (by decide +kernel) (pa_cons (pv 3) pa_nil)) pa_nil))))) pss_nil))))
      (pss_one (ps_ret (pv 1))))),
    (ss_seq (ss_set true (se_lst sa_nil))
      (ss_seq (ss_for (si_rng1 (sa_cons (se_cb rc_len (sa_cons se_var sa_nil)) sa_nil)) sg_name (ss_seq (ss_set false (se_call mon_route_from (sa_cons se_var (sa_cons se_var sa_nil))))
      (ss_if (st_and (st_test (se_op r2_eq (se_op r2_ix se_var (se_op r2_ix se_var (se_un ru_neg se_int))) se_var)) (st_test (se_op r2_eq (se_cb rc_min (sa_cons se_var sa_nil)) se_var))) (ss_append (se_cb rc_tuple (sa_cons se_var sa_nil))) ss_next)))
      (ss_ret se_var)))⟩
abbrev s_missed_way : Stmt := topS 22
abbrev n_missed_way : List Str := ["state", "pointers", "person", "target"]
theorem sc_missed_way : FnScope n_missed_way ["state", "pointers"] (defScope s_missed_way) := ⟨rfl, rfl, rfl, by decide +kernel, rfl, by decide +kernel, by decide +kernel⟩
theorem ok_missed_way {f : Addr} {fd : FuncData} (F : Fun K "missed_way" "missed_way" s_missed_way f fd) (B : Bi mg) {f_way : Addr} {e_way : FuncData} (c_way : Cal P w K mg base "way" 2 ["state", "person"] (spD 2 p_way) f_way e_way)    : FnOk P w K mg base CX0 3 f fd ["state", "pointers"] (spD 2 p_missed_way) := by
  refine okD (k := 2) F sc_missed_way rfl (fun cdv A outer s H E hr => ?_) m_missed_way
  exact ⟨_, (pss_cons (ps_for PassesOwn.never rfl (enumA2 (K := K) rfl (by rfl) B.enumerate (pa_cons (pv 1) pa_nil)) (gtupK (K := K) rfl (pg_tup rfl (pgs_cons (pg_name (i := 2) sc_missed_way.nd rfl (by first | exact Or.inl rfl | exact Or.inr rfl)) (pgs_cons (pg_name (i := 3) sc_missed_way.nd rfl (by first | exact Or.inl rfl | exact Or.inr rfl)) pgs_nil)))) (pss_one (ps_if (PW.pt (pw_and (pt_cmpR op_notN (pv 3) pe_non (nomark _)) (pw_and1 (pt_cmpR (notInK (K := K) rfl (hu65 hr)) (pv 3) (pe_call c_way.ok (hr.mono (by decide)) (by rfl) c_way.g c_way.kp c_way.bd .nil pass0 (pa_cons (pv 0) (pa_cons (pv 2) pa_nil))) (by rfl))))) (pss_one (ps_ret (pe_tupS (pa_cons pe_str (pa_cons (pv 2) pa_nil))))) pss_nil)))
      (pss_one (ps_ret pe_non))),
    (ss_seq (ss_for (si_enA (sa_cons se_var sa_nil)) (sg_tup (sgs_cons sg_name (sgs_cons sg_name sgs_nil))) (ss_if (st_and (st_test (se_op r2_notN se_var se_non)) (st_test (se_op r2_notIn se_var (se_call mon_way (sa_cons se_var (sa_cons se_var sa_nil)))))) (ss_ret (se_tup (sa_cons se_str (sa_cons se_var sa_nil)))) ss_next))
      (ss_ret se_non))⟩
abbrev s_second_ring : Stmt := topS 23
abbrev n_second_ring : List Str := ["state", "closed", "ends", "ring", "at", "end", "later"]
theorem sc_second_ring : FnScope n_second_ring ["state", "closed"] (defScope s_second_ring) := ⟨rfl, rfl, rfl, by decide +kernel, rfl, by decide +kernel, by decide +kernel⟩
theorem ok_second_ring {f : Addr} {fd : FuncData} (F : Fun K "second_ring" "second_ring" s_second_ring f fd) (B : Bi mg) {f_ring_of : Addr} {e_ring_of : FuncData} (c_ring_of : Cal P w K mg base "ring_of" 2 ["state", "person"] (spD 2 p_ring_of) f_ring_of e_ring_of)    : FnOk P w K mg base CX0 3 f fd ["state", "closed"] (spD 2 p_second_ring) := by
  refine okD (k := 2) F sc_second_ring rfl (fun cdv A outer s H E hr => ?_) m_second_ring
  exact ⟨_, (pss_cons (ps_setLc (i := 2) (own := [("ring", 3)]) (by rfl) sc_second_ring.nd rfl rfl (sw_true rfl rfl rfl (by decide +kernel)) (seqK (K := K) rfl (pv 1)) (blkOk_by (own := [("ring", 3)]) (N := n_second_ring) (sc := (defScope s_second_ring)) (by decide +kernel)) (fun _ _ _ _ _ => (pg_name (i := 3) sc_second_ring.nd rfl (by first | exact Or.inl rfl | exact Or.inr rfl))) (fun _ _ _ _ _ => pts_nil) (fun _ _ _ _ _ => (pe_call c_ring_of.ok (hr.mono (by decide)) (by rfl) c_ring_of.g c_ring_of.kp c_ring_of.bd .nil pass0 (pa_cons (pv 0) (pa_cons (pe_ix (ixK (K := K) rfl) (pv 3) pe_int (fun _ _ => rfl)) pa_nil)))))
      (pss_cons (ps_for PassesOwn.never rfl (enumA2 (K := K) rfl (by rfl) B.enumerate (pa_cons (pv 2) pa_nil)) (gtupK (K := K) rfl (pg_tup rfl (pgs_cons (pg_name (i := 4) sc_second_ring.nd rfl (by first | exact Or.inl rfl | exact Or.inr rfl)) (pgs_cons (pg_name (i := 5) sc_second_ring.nd rfl (by first | exact Or.inl rfl | exact Or.inr rfl)) pgs_nil)))) (pss_one (ps_for PassesOwn.never rfl (pi_range2 (by rfl) B.range (pa_cons (pe_op (addK (K := K) rfl) (pv 4) pe_int) (pa_cons (pe_callB (lenK (K := K) rfl) (by rfl) B.len (by decide +kernel) (pa_cons (pv 2) pa_nil)) pa_nil))) (pg_name (i := 6) sc_second_ring.nd rfl (by first | exact Or.inl rfl | exact Or.inr rfl)) (pss_one (ps_if (pt_cmpR (eqK (K := K) rfl hr.units) (pe_ix (ixK (K := K) rfl) (pv 2) (pv 6) (fun _ _ => rfl)) (pv 5) (nomark _)) (pss_one (ps_ret (pe_tupS (pa_cons pe_str (pa_cons (pe_ix (ixK (K := K) rfl) (pe_ix (ixK (K := K) rfl) (pv 1) (pv 4) (fun _ _ => rfl)) pe_int (fun _ _ => rfl)) (pa_cons (pe_ix (ixK (K := K) rfl) (pe_ix (ixK (K := K) rfl) (pv 1) (pv 6) (fun _ _ => rfl)) pe_int (fun _ _ => rfl)) pa_nil)))))) pss_nil)))))
      (pss_one (ps_ret pe_non)))),
    (ss_seq (ss_set false (se_lc (si_seq se_var) sg_name st_yes (se_call mon_ring_of (sa_cons se_var (sa_cons (se_op r2_ix se_var se_int) sa_nil)))))
      (ss_seq (ss_for (si_enA (sa_cons se_var sa_nil)) (sg_tup (sgs_cons sg_name (sgs_cons sg_name sgs_nil))) (ss_for (si_rng2 (sa_cons (se_op r2_add se_var se_int) (sa_cons (se_cb rc_len (sa_cons se_var sa_nil)) sa_nil))) sg_name (ss_if (st_test (se_op r2_eq (se_op r2_ix se_var se_var) se_var)) (ss_ret (se_tup (sa_cons se_str (sa_cons (se_op r2_ix (se_op r2_ix se_var se_var) se_int) (sa_cons (se_op r2_ix (se_op r2_ix se_var se_var) se_int) sa_nil))))) ss_next)))
      (ss_ret se_non)))⟩
abbrev s_meets_first : Stmt := topS 24
abbrev n_meets_first : List Str := ["ring", "start", "early", "late", "order"]
theorem sc_meets_first : FnScope n_meets_first ["ring", "start", "early", "late"] (defScope s_meets_first) := ⟨rfl, rfl, rfl, by decide +kernel, rfl, by decide +kernel, by decide +kernel⟩
theorem ok_meets_first {f : Addr} {fd : FuncData} (F : Fun K "meets_first" "meets_first" s_meets_first f fd) (B : Bi mg) {f_turned : Addr} {e_turned : FuncData} (c_turned : Cal P w K mg base "turned" 1 ["members", "first"] (spD 2 p_turned) f_turned e_turned)    : FnOk P w K mg base CX0 2 f fd ["ring", "start", "early", "late"] (spD 4 p_meets_first) := by
  refine okD (k := 1) F sc_meets_first rfl (fun cdv A outer s H E hr => ?_) m_meets_first
  exact ⟨_, (pss_cons (ps_set (i := 4) sc_meets_first.nd rfl (by first | exact Or.inl rfl | exact Or.inr rfl) (pe_call c_turned.ok (hr.mono (by decide)) (by rfl) c_turned.g c_turned.kp c_turned.bd .nil pass0 (pa_cons (pv 0) (pa_cons (pv 1) pa_nil))))
      (pss_one (ps_ret (pe_cmpR op_lt (indexK (K := K) rfl (pe_index (pv 4) (pa_cons (pv 2) pa_nil))) (indexK (K := K) rfl (pe_index (pv 4) (pa_cons (pv 3) pa_nil))) (nomark _))))),
    (ss_seq (ss_set false (se_call mon_turned (sa_cons se_var (sa_cons se_var sa_nil))))
      (ss_ret (se_op r2_B (se_index se_var se_var) (se_index se_var se_var))))⟩
abbrev s_order_broken : Stmt := topS 25
abbrev n_order_broken : List Str := ["members", "ring", "early", "late"]
theorem sc_order_broken : FnScope n_order_broken ["members", "ring"] (defScope s_order_broken) := ⟨rfl, rfl, rfl, by decide +kernel, rfl, by decide +kernel, by decide +kernel⟩
theorem ok_order_broken {f : Addr} {fd : FuncData} (F : Fun K "order_broken" "order_broken" s_order_broken f fd) (B : Bi mg) {f_meets_first : Addr} {e_meets_first : FuncData} (c_meets_first : Cal P w K mg base "meets_first" 2 ["ring", "start", "early", "late"] (spD 4 p_meets_first) f_meets_first e_meets_first)    : FnOk P w K mg base CX0 3 f fd ["members", "ring"] (spD 2 p_order_broken) := by
  refine okD (k := 2) F sc_order_broken rfl (fun cdv A outer s H E hr => ?_) m_order_broken
  exact ⟨_, (pss_cons (ps_for PassesOwn.never rfl (zipA (K := K) rfl (by rfl) B.zip (pa_cons (pe_slice (slK (K := K) rfl) (pv 0) (po_some pe_int) po_none) (pa_cons (pe_slice (slK (K := K) rfl) (pv 0) (po_some pe_int) po_none) pa_nil))) (gtupK (K := K) rfl (pg_tup rfl (pgs_cons (pg_name (i := 2) sc_order_broken.nd rfl (by first | exact Or.inl rfl | exact Or.inr rfl)) (pgs_cons (pg_name (i := 3) sc_order_broken.nd rfl (by first | exact Or.inl rfl | exact Or.inr rfl)) pgs_nil)))) (pss_one (ps_if (pt_truth (pe_call c_meets_first.ok (hr.mono (by decide)) (by rfl) c_meets_first.g c_meets_first.kp c_meets_first.bd .nil pass0 (pa_cons (pv 1) (pa_cons (pe_ix (ixK (K := K) rfl) (pv 0) pe_int (fun _ _ => rfl)) (pa_cons (pv 3) (pa_cons (pv 2) pa_nil))))) (by intro _; rfl)) (pss_one (ps_ret (pe_tupS (pa_cons pe_str (pa_cons (pe_ix (ixK (K := K) rfl) (pv 0) pe_int (fun _ _ => rfl)) (pa_cons (pv 2) (pa_cons (pv 3) pa_nil))))))) pss_nil)))
      (pss_one (ps_ret pe_non))),
    (ss_seq (ss_for (si_zip (sa_cons (se_sl rs_sl se_var (so_some se_int) so_none) (sa_cons (se_sl rs_sl se_var (so_some se_int) so_none) sa_nil))) (sg_tup (sgs_cons sg_name (sgs_cons sg_name sgs_nil))) (ss_if (st_truth (se_call mon_meets_first (sa_cons se_var (sa_cons (se_op r2_ix se_var se_int) (sa_cons se_var (sa_cons se_var sa_nil)))))) (ss_ret (se_tup (sa_cons se_str (sa_cons (se_op r2_ix se_var se_int) (sa_cons se_var (sa_cons se_var sa_nil)))))) ss_next))
      (ss_ret se_non))⟩
abbrev s_first_obstacle : Stmt := topS 26
abbrev n_first_obstacle : List Str := ["state", "pointers", "missed", "closed", "second", "ring", "broken"]
theorem sc_first_obstacle : FnScope n_first_obstacle ["state", "pointers"] (defScope s_first_obstacle) := ⟨rfl, rfl, rfl, by decide +kernel, rfl, by decide +kernel, by decide +kernel⟩
theorem ok_first_obstacle {f : Addr} {fd : FuncData} (F : Fun K "first_obstacle" "first_obstacle" s_first_obstacle f fd) (B : Bi mg) {f_missed_way : Addr} {e_missed_way : FuncData} (c_missed_way : Cal P w K mg base "missed_way" 3 ["state", "pointers"] (spD 2 p_missed_way) f_missed_way e_missed_way) {f_closed_rings : Addr} {e_closed_rings : FuncData} (c_closed_rings : Cal P w K mg base "closed_rings" 2 ["pointers"] (spD 1 p_closed_rings) f_closed_rings e_closed_rings) {f_second_ring : Addr} {e_second_ring : FuncData} (c_second_ring : Cal P w K mg base "second_ring" 3 ["state", "closed"] (spD 2 p_second_ring) f_second_ring e_second_ring) {f_order_broken : Addr} {e_order_broken : FuncData} (c_order_broken : Cal P w K mg base "order_broken" 3 ["members", "ring"] (spD 2 p_order_broken) f_order_broken e_order_broken) {f_ring_of : Addr} {e_ring_of : FuncData} (c_ring_of : Cal P w K mg base "ring_of" 2 ["state", "person"] (spD 2 p_ring_of) f_ring_of e_ring_of)    : FnOk P w K mg base CX0 4 f fd ["state", "pointers"] (spD 2 p_first_obstacle) := by
  refine okD (k := 3) F sc_first_obstacle rfl (fun cdv A outer s H E hr => ?_) m_first_obstacle
  exact ⟨_, (pss_cons (ps_set (i := 2) sc_first_obstacle.nd rfl (by first | exact Or.inl rfl | exact Or.inr rfl) (pe_call c_missed_way.ok (hr.mono (by decide)) (by rfl) c_missed_way.g c_missed_way.kp c_missed_way.bd .nil pass0 (pa_cons (pv 0) (pa_cons (pv 1) pa_nil))))
      (pss_cons (ps_if (pt_cmpR op_notN (pv 2) pe_non (nomark _)) (pss_one (ps_ret (pv 2))) pss_nil)
      (pss_cons (ps_set (i := 3) sc_first_obstacle.nd rfl (by first | exact Or.inl rfl | exact Or.inr rfl) (pe_call c_closed_rings.ok (hr.mono (by decide)) (by rfl) c_closed_rings.g c_closed_rings.kp c_closed_rings.bd .nil pass0 (pa_cons (pv 1) pa_nil)))
      (pss_cons (ps_set (i := 4) sc_first_obstacle.nd rfl (by first | exact Or.inl rfl | exact Or.inr rfl) (pe_call c_second_ring.ok (hr.mono (by decide)) (by rfl) c_second_ring.g c_second_ring.kp c_second_ring.bd .nil pass0 (pa_cons (pv 0) (pa_cons (pv 3) pa_nil))))
      (pss_cons (ps_if (pt_cmpR op_notN (pv 4) pe_non (nomark _)) (pss_one (ps_ret (pv 4))) pss_nil)
      (pss_cons (ps_for PassesOwn.never rfl (seqK (K := K) rfl (pv 3)) (pg_name (i := 5) sc_first_obstacle.nd rfl (by first | exact Or.inl rfl | exact Or.inr rfl)) (pss_cons (ps_set (i := 6) sc_first_obstacle.nd rfl (by first | exact Or.inl rfl | exact Or.inr rfl) (pe_call c_order_broken.ok (hr.mono (by decide)) (by rfl) c_order_broken.g c_order_broken.kp c_order_broken.bd .nil pass0 (pa_cons (pv 5) (pa_cons (pe_call c_ring_of.ok (hr.mono (by decide)) (by rfl) c_ring_of.g c_ring_of.kp c_ring_of.bd .nil pass0 (pa_cons (pv 0) (pa_cons (pe_ix (ixK (K := K) rfl) (pv 5) pe_int (fun _ _ => rfl)) pa_nil))) pa_nil))))
      (pss_one (ps_if (pt_cmpR op_notN (pv 6) pe_non (nomark _)) (pss_one (ps_ret (pv 6))) pss_nil))))
      (pss_one (ps_ret pe_non)))))))),
    (ss_seq (ss_set false (se_call mon_missed_way (sa_cons se_var (sa_cons se_var sa_nil))))
      (ss_seq (ss_if (st_test (se_op r2_notN se_var se_non)) (ss_ret se_var) ss_next)
      (ss_seq (ss_set false (se_call mon_closed_rings (sa_cons se_var sa_nil)))
      (ss_seq (ss_set false (se_call mon_second_ring (sa_cons se_var (sa_cons se_var sa_nil))))
      (ss_seq (ss_if (st_test (se_op r2_notN se_var se_non)) (ss_ret se_var) ss_next)
      (ss_seq (ss_for (si_seq se_var) sg_name (ss_seq (ss_set false (se_call mon_order_broken (sa_cons se_var (sa_cons (se_call mon_ring_of (sa_cons se_var (sa_cons (se_op r2_ix se_var se_int) sa_nil))) sa_nil))))
      (ss_if (st_test (se_op r2_notN se_var se_non)) (ss_ret se_var) ss_next)))
      (ss_ret se_non)))))))⟩
abbrev s_obstacle : Stmt := topS 27
abbrev n_obstacle : List Str := ["state", "goal"]
theorem sc_obstacle : FnScope n_obstacle ["state", "goal"] (defScope s_obstacle) := ⟨rfl, rfl, rfl, by decide +kernel, rfl, by decide +kernel, by decide +kernel⟩
theorem ok_obstacle {f : Addr} {fd : FuncData} (F : Fun K "obstacle" "obstacle" s_obstacle f fd) (B : Bi mg) {f_check_size : Addr} {e_check_size : FuncData} (c_check_size : Cal P w K mg base "check_size" 1 ["state", "other"] (spD 2 p_check_size) f_check_size e_check_size) {f_first_obstacle : Addr} {e_first_obstacle : FuncData} (c_first_obstacle : Cal P w K mg base "first_obstacle" 4 ["state", "pointers"] (spD 2 p_first_obstacle) f_first_obstacle e_first_obstacle)    : FnOk P w K mg base CX0 5 f fd ["state", "goal"] (spD 2 p_obstacle) := by
  refine okD (k := 4) F sc_obstacle rfl (fun cdv A outer s H E hr => ?_) m_obstacle
  exact ⟨_, (pss_cons (ps_expr (pe_call c_check_size.ok (hr.mono (by decide)) (by rfl) c_check_size.g c_check_size.kp c_check_size.bd .nil pass0 (pa_cons (pv 0) (pa_cons (pv 1) pa_nil))))
      (pss_one (ps_ret (pe_call c_first_obstacle.ok (hr.mono (by decide)) (by rfl) c_first_obstacle.g c_first_obstacle.kp c_first_obstacle.bd .nil pass0 (pa_cons (pv 0) (pa_cons (pv 1) pa_nil)))))),
    (ss_seq (ss_drop (se_call mon_check_size (sa_cons se_var (sa_cons se_var sa_nil))))
      (ss_ret (se_call mon_first_obstacle (sa_cons se_var (sa_cons se_var sa_nil)))))⟩
abbrev s_check_future : Stmt := topS 20
abbrev n_check_future : List Str := ["state", "goal", "found"]
theorem sc_check_future : FnScope n_check_future ["state", "goal"] (defScope s_check_future) := ⟨rfl, rfl, rfl, by decide +kernel, rfl, by decide +kernel, by decide +kernel⟩
theorem ok_check_future {f : Addr} {fd : FuncData} (F : Fun K "check_future" "check_future" s_check_future f fd) (B : Bi mg) {f_obstacle : Addr} {e_obstacle : FuncData} (c_obstacle : Cal P w K mg base "obstacle" 5 ["state", "goal"] (spD 2 p_obstacle) f_obstacle e_obstacle)    : FnOk P w K mg base CX0 6 f fd ["state", "goal"] (spD 2 p_check_future) := by
  refine okD (k := 5) F sc_check_future rfl (fun cdv A outer s H E hr => ?_) m_check_future
  exact ⟨_, (pss_cons (ps_set (i := 2) sc_check_future.nd rfl (by first | exact Or.inl rfl | exact Or.inr rfl) (pe_call c_obstacle.ok (hr.mono (by decide)) (by rfl) c_obstacle.g c_obstacle.kp c_obstacle.bd .nil pass0 (pa_cons (pv 0) (pa_cons (pv 1) pa_nil))))
      (pss_one (ps_if (pt_cmpR op_notN (pv 2) pe_non (nomark _)) pss_never pss_nil))),
    (ss_seq (ss_set false (se_call mon_obstacle (sa_cons se_var (sa_cons se_var sa_nil))))
      (ss_if (st_test (se_op r2_notN se_var se_non)) ss_never ss_next))⟩
abbrev s_leads : Stmt := topS 28
abbrev n_leads : List Str := ["state", "goal"]
theorem sc_leads : FnScope n_leads ["state", "goal"] (defScope s_leads) := ⟨rfl, rfl, rfl, by decide +kernel, rfl, by decide +kernel, by decide +kernel⟩
theorem ok_leads {f : Addr} {fd : FuncData} (F : Fun K "leads" "leads" s_leads f fd) (B : Bi mg) {f_obstacle : Addr} {e_obstacle : FuncData} (c_obstacle : Cal P w K mg base "obstacle" 5 ["state", "goal"] (spD 2 p_obstacle) f_obstacle e_obstacle)    : FnOk P w K mg base CX0 6 f fd ["state", "goal"] (spD 2 p_leads) := by
  refine okD (k := 5) F sc_leads rfl (fun cdv A outer s H E hr => ?_) m_leads
  exact ⟨_, (pss_one (ps_ret (pe_cmpR op_isN (pe_call c_obstacle.ok (hr.mono (by decide)) (by rfl) c_obstacle.g c_obstacle.kp c_obstacle.bd .nil pass0 (pa_cons (pv 0) (pa_cons (pv 1) pa_nil))) pe_non (nomark _)))),
    (ss_ret (se_op r2_isN (se_call mon_obstacle (sa_cons se_var (sa_cons se_var sa_nil))) se_non))⟩
abbrev s_are_apart : Stmt := topS 29
abbrev n_are_apart : List Str := ["state", "goal", "low", "high", "low_ring", "high_ring"]
theorem sc_are_apart : FnScope n_are_apart ["state", "goal", "low", "high"] (defScope s_are_apart) := ⟨rfl, rfl, rfl, by decide +kernel, rfl, by decide +kernel, by decide +kernel⟩
theorem ok_are_apart {f : Addr} {fd : FuncData} (F : Fun K "are_apart" "are_apart" s_are_apart f fd) (B : Bi mg) {f_ring_of : Addr} {e_ring_of : FuncData} (c_ring_of : Cal P w K mg base "ring_of" 2 ["state", "person"] (spD 2 p_ring_of) f_ring_of e_ring_of)    : FnOk P w K mg base CX0 3 f fd ["state", "goal", "low", "high"] (spD 4 p_are_apart) := by
  refine okD (k := 2) F sc_are_apart rfl (fun cdv A outer s H E hr => ?_) m_are_apart
  exact ⟨_, (pss_cons (ps_set (i := 4) sc_are_apart.nd rfl (by first | exact Or.inl rfl | exact Or.inr rfl) (pe_call c_ring_of.ok (hr.mono (by decide)) (by rfl) c_ring_of.g c_ring_of.kp c_ring_of.bd .nil pass0 (pa_cons (pv 1) (pa_cons (pv 2) pa_nil))))
      (pss_cons (ps_set (i := 5) sc_are_apart.nd rfl (by first | exact Or.inl rfl | exact Or.inr rfl) (pe_call c_ring_of.ok (hr.mono (by decide)) (by rfl) c_ring_of.g c_ring_of.kp c_ring_of.bd .nil pass0 (pa_cons (pv 1) (pa_cons (pv 3) pa_nil))))
      (pss_cons (ps_if (PW.pt (pw_or (pt_cmpR (notInK (K := K) rfl (hu65 hr)) (pv 2) (pv 4) (by rfl)) (pw_or (pt_cmpR (notInK (K := K) rfl (hu65 hr)) (pv 3) (pv 5) (by rfl)) (pw_or1 (pt_cmpR (eqK (K := K) rfl hr.units) (pv 4) (pv 5) (nomark _)))))) (pss_one (ps_ret pe_bl)) pss_nil)
      (pss_one (ps_ret (pe_and (pe_cmpR op_lt (pv 2) (pv 3) (nomark _)) (pe_one (pe_cmpR (eqK (K := K) rfl hr.units) (pe_call c_ring_of.ok (hr.mono (by decide)) (by rfl) c_ring_of.g c_ring_of.kp c_ring_of.bd .nil pass0 (pa_cons (pv 0) (pa_cons (pv 2) pa_nil))) (pe_call c_ring_of.ok (hr.mono (by decide)) (by rfl) c_ring_of.g c_ring_of.kp c_ring_of.bd .nil pass0 (pa_cons (pv 0) (pa_cons (pv 3) pa_nil))) (nomark _))))))))),
    (ss_seq (ss_set false (se_call mon_ring_of (sa_cons se_var (sa_cons se_var sa_nil))))
      (ss_seq (ss_set false (se_call mon_ring_of (sa_cons se_var (sa_cons se_var sa_nil))))
      (ss_seq (ss_if (st_or (st_test (se_op r2_notIn se_var se_var)) (st_or (st_test (se_op r2_notIn se_var se_var)) (st_test (se_op r2_eq se_var se_var)))) (ss_ret se_bl) ss_next)
      (ss_ret (se_andV (se_op r2_B se_var se_var) (se_op r2_eq (se_call mon_ring_of (sa_cons se_var (sa_cons se_var sa_nil))) (se_call mon_ring_of (sa_cons se_var (sa_cons se_var sa_nil)))))))))⟩
abbrev s_are_reversed : Stmt := topS 30
abbrev n_are_reversed : List Str := ["state", "goal", "people", "start", "early", "late", "old_ring", "new_ring", "person"]
theorem sc_are_reversed : FnScope n_are_reversed ["state", "goal", "people"] (defScope s_are_reversed) := ⟨rfl, rfl, rfl, by decide +kernel, rfl, by decide +kernel, by decide +kernel⟩
theorem ok_are_reversed {f : Addr} {fd : FuncData} (F : Fun K "are_reversed" "are_reversed" s_are_reversed f fd) (B : Bi mg) {f_ring_of : Addr} {e_ring_of : FuncData} (c_ring_of : Cal P w K mg base "ring_of" 2 ["state", "person"] (spD 2 p_ring_of) f_ring_of e_ring_of) {f_meets_first : Addr} {e_meets_first : FuncData} (c_meets_first : Cal P w K mg base "meets_first" 2 ["ring", "start", "early", "late"] (spD 4 p_meets_first) f_meets_first e_meets_first)    : FnOk P w K mg base CX0 3 f fd ["state", "goal", "people"] (spD 3 p_are_reversed) := by
  refine okD (k := 2) F sc_are_reversed rfl (fun cdv A outer s H E hr => ?_) m_are_reversed
  exact ⟨_, (pss_cons (ps_asg (pv 2) (gtupK (K := K) rfl (pg_tup rfl (pgs_cons (pg_name (i := 3) sc_are_reversed.nd rfl (by first | exact Or.inl rfl | exact Or.inr rfl)) (pgs_cons (pg_name (i := 4) sc_are_reversed.nd rfl (by first | exact Or.inl rfl | exact Or.inr rfl)) (pgs_cons (pg_name (i := 5) sc_are_reversed.nd rfl (by first | exact Or.inl rfl | exact Or.inr rfl)) pgs_nil))))))
      (pss_cons (ps_set (i := 6) sc_are_reversed.nd rfl (by first | exact Or.inl rfl | exact Or.inr rfl) (pe_call c_ring_of.ok (hr.mono (by decide)) (by rfl) c_ring_of.g c_ring_of.kp c_ring_of.bd .nil pass0 (pa_cons (pv 0) (pa_cons (pv 3) pa_nil))))
      (pss_cons (ps_set (i := 7) sc_are_reversed.nd rfl (by first | exact Or.inl rfl | exact Or.inr rfl) (pe_call c_ring_of.ok (hr.mono (by decide)) (by rfl) c_ring_of.g c_ring_of.kp c_ring_of.bd .nil pass0 (pa_cons (pv 1) (pa_cons (pv 3) pa_nil))))
      (pss_cons (ps_if (pt_not (pt_truth (pe_callB (allK (K := K) rfl rfl) (by rfl) B.all (by decide +kernel) (pa_cons (pe_lc (own := [("person", 8)]) (by rfl) sc_are_reversed.nd (seqK (K := K) rfl (pv 2)) (blkOk_by (own := [("person", 8)]) (N := n_are_reversed) (sc := (defScope s_are_reversed)) (by decide +kernel)) (fun _ _ _ _ _ => (pg_name (i := 8) sc_are_reversed.nd rfl (by first | exact Or.inl rfl | exact Or.inr rfl))) (fun _ _ _ _ _ => pts_nil) (fun _ _ _ _ _ => (pe_and (pe_cmpR (inK (K := K) rfl (hu65 hr)) (pv 8) (pv 6) (by rfl)) (pe_one (pe_cmpR (inK (K := K) rfl (hu65 hr)) (pv 8) (pv 7) (by rfl)))))) pa_nil)) (by intro _; rfl))) (pss_one (ps_ret pe_bl)) pss_nil)
      (pss_one (ps_ret (pe_and (pe_call c_meets_first.ok (hr.mono (by decide)) (by rfl) c_meets_first.g c_meets_first.kp c_meets_first.bd .nil pass0 (pa_cons (pv 7) (pa_cons (pv 3) (pa_cons (pv 4) (pa_cons (pv 5) pa_nil))))) (pe_one (pe_call c_meets_first.ok (hr.mono (by decide)) (by rfl) c_meets_first.g c_meets_first.kp c_meets_first.bd .nil pass0 (pa_cons (pv 6) (pa_cons (pv 3) (pa_cons (pv 5) (pa_cons (pv 4) pa_nil))))))))))))),
    (ss_seq (ss_asg se_var (sg_tup (sgs_cons sg_name (sgs_cons sg_name (sgs_cons sg_name sgs_nil)))))
      (ss_seq (ss_set false (se_call mon_ring_of (sa_cons se_var (sa_cons se_var sa_nil))))
      (ss_seq (ss_set false (se_call mon_ring_of (sa_cons se_var (sa_cons se_var sa_nil))))
      (ss_seq (ss_if (st_not (st_truth (se_cb rc_all (sa_cons (se_lc (si_seq se_var) sg_name st_yes (se_andV (se_op r2_in se_var se_var) (se_op r2_in se_var se_var))) sa_nil)))) (ss_ret se_bl) ss_next)
      (ss_ret (se_andV (se_call mon_meets_first (sa_cons se_var (sa_cons se_var (sa_cons se_var (sa_cons se_var sa_nil))))) (se_call mon_meets_first (sa_cons se_var (sa_cons se_var (sa_cons se_var (sa_cons se_var sa_nil)))))))))))⟩
abbrev s_is_obstacle : Stmt := topS 31
abbrev n_is_obstacle : List Str := ["state", "goal", "value", "kind", "people", "item"]
theorem sc_is_obstacle : FnScope n_is_obstacle ["state", "goal", "value"] (defScope s_is_obstacle) := ⟨rfl, rfl, rfl, by decide +kernel, rfl, by decide +kernel, by decide +kernel⟩
theorem ok_is_obstacle {f : Addr} {fd : FuncData} (F : Fun K "is_obstacle" "is_obstacle" s_is_obstacle f fd) (B : Bi mg) {f_check_size : Addr} {e_check_size : FuncData} (c_check_size : Cal P w K mg base "check_size" 1 ["state", "other"] (spD 2 p_check_size) f_check_size e_check_size) {f_is_person : Addr} {e_is_person : FuncData} (c_is_person : Cal P w K mg base "is_person" 1 ["value", "size"] (spD 2 p_is_person) f_is_person e_is_person) {f_way : Addr} {e_way : FuncData} (c_way : Cal P w K mg base "way" 2 ["state", "person"] (spD 2 p_way) f_way e_way) {f_are_apart : Addr} {e_are_apart : FuncData} (c_are_apart : Cal P w K mg base "are_apart" 3 ["state", "goal", "low", "high"] (spD 4 p_are_apart) f_are_apart e_are_apart) {f_are_reversed : Addr} {e_are_reversed : FuncData} (c_are_reversed : Cal P w K mg base "are_reversed" 3 ["state", "goal", "people"] (spD 3 p_are_reversed) f_are_reversed e_are_reversed)    : FnOk P w K mg base CX0 4 f fd ["state", "goal", "value"] (spD 3 p_is_obstacle) := by
  refine okD (k := 3) F sc_is_obstacle rfl (fun cdv A outer s H E hr => ?_) m_is_obstacle
  exact ⟨_, (pss_cons (ps_expr (pe_call c_check_size.ok (hr.mono (by decide)) (by rfl) c_check_size.g c_check_size.kp c_check_size.bd .nil pass0 (pa_cons (pv 0) (pa_cons (pv 1) pa_nil))))
      (pss_cons (ps_if (PW.pt (pw_or (pt_not (pt_truth (pe_callB (isiK (K := K) rfl) (by rfl) B.isinstance (by decide +kernel) (pa_cons (pv 2) (pa_cons (pe_bltn (v := .ty "tuple") (by rfl) B.tuple (by decide +kernel) rfl) pa_nil))) (by intro _; rfl))) (pw_or1 (pt_not (pt_chain op_le op_le pe_int (pe_callB (lenK (K := K) rfl) (by rfl) B.len (by decide +kernel) (pa_cons (pv 2) pa_nil)) pe_int))))) (pss_one (ps_ret pe_bl)) pss_nil)
      (pss_cons (ps_set (i := 3) sc_is_obstacle.nd rfl (by first | exact Or.inl rfl | exact Or.inr rfl) (pe_ix (ixK (K := K) rfl) (pv 2) pe_int (fun _ _ => rfl)))
      (pss_cons (ps_set (i := 4) sc_is_obstacle.nd rfl (by first | exact Or.inl rfl | exact Or.inr rfl) (pe_slice (slK (K := K) rfl) (pv 2) (po_some pe_int) po_none))
      (pss_cons (ps_if (pt_not (pt_truth (pe_callB (allK (K := K) rfl rfl) (by rfl) B.all (by decide +kernel) (pa_cons (pe_lc (own := [("item", 5)]) (by rfl) sc_is_obstacle.nd (seqK (K := K) rfl (pv 4)) (blkOk_by (own := [("item", 5)]) (N := n_is_obstacle) (sc := (defScope s_is_obstacle)) (by decide +kernel)) (fun _ _ _ _ _ => (pg_name (i := 5) sc_is_obstacle.nd rfl (by first | exact Or.inl rfl | exact Or.inr rfl))) (fun _ _ _ _ _ => pts_nil) (fun _ _ _ _ _ => (pe_call c_is_person.ok (hr.mono (by decide)) (by rfl) c_is_person.g c_is_person.kp c_is_person.bd .nil pass0 (pa_cons (pv 5) (pa_cons (pe_callB (lenK (K := K) rfl) (by rfl) B.len (by decide +kernel) (pa_cons (pv 0) pa_nil)) pa_nil))))) pa_nil)) (by intro _; rfl))) (pss_one (ps_ret pe_bl)) pss_nil)
      (pss_cons (ps_if (PW.pt (pw_and (pt_cmpR (eqK (K := K) rfl hr.units) (pv 3) pe_str (nomark _)) (pw_and1 (pt_cmpR (eqK (K := K) rfl hr.units) (pe_callB (lenK (K := K) rfl) (by rfl) B.len (by decide +kernel) (pa_cons (pv 4) pa_nil)) pe_int (nomark _))))) (pss_one (ps_ret (pe_cmpR (notInK (K := K) rfl (hu65 hr)) (pe_ix (ixK (K := K) rfl) (pv 1) (pe_ix (ixK (K := K) rfl) (pv 4) pe_int (fun _ _ => rfl)) (fun _ _ => rfl)) (pe_call c_way.ok (hr.mono (by decide)) (by rfl) c_way.g c_way.kp c_way.bd .nil pass0 (pa_cons (pv 0) (pa_cons (pe_ix (ixK (K := K) rfl) (pv 4) pe_int (fun _ _ => rfl)) pa_nil))) (by rfl)))) pss_nil)
      (pss_cons (ps_if (PW.pt (pw_and (pt_cmpR (eqK (K := K) rfl hr.units) (pv 3) pe_str (nomark _)) (pw_and1 (pt_cmpR (eqK (K := K) rfl hr.units) (pe_callB (lenK (K := K) rfl) (by rfl) B.len (by decide +kernel) (pa_cons (pv 4) pa_nil)) pe_int (nomark _))))) (pss_one (ps_ret (pe_call c_are_apart.ok (hr.mono (by decide)) (by rfl) c_are_apart.g c_are_apart.kp c_are_apart.bd .nil pass0 (pa_cons (pv 0) (pa_cons (pv 1) (pa_cons (pe_ix (ixK (K := K) rfl) (pv 4) pe_int (fun _ _ => rfl)) (pa_cons (pe_ix (ixK (K := K) rfl) (pv 4) pe_int (fun _ _ => rfl)) pa_nil))))))) pss_nil)
      (pss_cons (ps_if (PW.pt (pw_and (pt_cmpR (eqK (K := K) rfl hr.units) (pv 3) pe_str (nomark _)) (pw_and1 (pt_cmpR (eqK (K := K) rfl hr.units) (pe_callB (lenK (K := K) rfl) (by rfl) B.len (by decide +kernel) (pa_cons (pv 4) pa_nil)) pe_int (nomark _))))) (pss_one (ps_ret (pe_call c_are_reversed.ok (hr.mono (by decide)) (by rfl) c_are_reversed.g c_are_reversed.kp c_are_reversed.bd .nil pass0 (pa_cons (pv 0) (pa_cons (pv 1) (pa_cons (pv 4) pa_nil)))))) pss_nil)
      (pss_one (ps_ret pe_bl)))))))))),
    (ss_seq (ss_drop (se_call mon_check_size (sa_cons se_var (sa_cons se_var sa_nil))))
      (ss_seq (ss_if (st_or (st_not (st_truth (se_isi (.inr (.inr (.inr (.inr rfl)))) se_var))) (st_not (st_test (se_chain r2_B r2_B se_int (se_cb rc_len (sa_cons se_var sa_nil)) se_int)))) (ss_ret se_bl) ss_next)
      (ss_seq (ss_set false (se_op r2_ix se_var se_int))
      (ss_seq (ss_set false (se_sl rs_sl se_var (so_some se_int) so_none))
      (ss_seq (ss_if (st_not (st_truth (se_cb rc_all (sa_cons (se_lc (si_seq se_var) sg_name st_yes (se_call mon_is_person (sa_cons se_var (sa_cons (se_cb rc_len (sa_cons se_var sa_nil)) sa_nil)))) sa_nil)))) (ss_ret se_bl) ss_next)
      (ss_seq (ss_if (st_and (st_test (se_op r2_eq se_var se_str)) (st_test (se_op r2_eq (se_cb rc_len (sa_cons se_var sa_nil)) se_int))) (ss_ret (se_op r2_notIn (se_op r2_ix se_var (se_op r2_ix se_var se_int)) (se_call mon_way (sa_cons se_var (sa_cons (se_op r2_ix se_var se_int) sa_nil))))) ss_next)
      (ss_seq (ss_if (st_and (st_test (se_op r2_eq se_var se_str)) (st_test (se_op r2_eq (se_cb rc_len (sa_cons se_var sa_nil)) se_int))) (ss_ret (se_call mon_are_apart (sa_cons se_var (sa_cons se_var (sa_cons (se_op r2_ix se_var se_int) (sa_cons (se_op r2_ix se_var se_int) sa_nil)))))) ss_next)
      (ss_seq (ss_if (st_and (st_test (se_op r2_eq se_var se_str)) (st_test (se_op r2_eq (se_cb rc_len (sa_cons se_var sa_nil)) se_int))) (ss_ret (se_call mon_are_reversed (sa_cons se_var (sa_cons se_var (sa_cons se_var sa_nil))))) ss_next)
      (ss_ret se_bl)))))))))⟩
abbrev s_outside_calls : Stmt := topS 32
abbrev n_outside_calls : List Str := ["state", "goal", "outside", "person", "word", "unused"]
theorem sc_outside_calls : FnScope n_outside_calls ["state", "goal"] (defScope s_outside_calls) := ⟨rfl, rfl, rfl, by decide +kernel, rfl, by decide +kernel, by decide +kernel⟩
theorem ok_outside_calls {f : Addr} {fd : FuncData} (F : Fun K "outside_calls" "outside_calls" s_outside_calls f fd) (B : Bi mg) {f_height : Addr} {e_height : FuncData} (c_height : Cal P w K mg base "height" 2 ["state", "person"] (spD 2 p_height) f_height e_height) {f_way : Addr} {e_way : FuncData} (c_way : Cal P w K mg base "way" 2 ["state", "person"] (spD 2 p_way) f_way e_way)    : FnOk P w K mg base CX0 3 f fd ["state", "goal"] (spD 2 p_outside_calls) := by
  refine okD (k := 2) F sc_outside_calls rfl (fun cdv A outer s H E hr => ?_) m_outside_calls
  exact ⟨_, (pss_cons (ps_setLc (i := 2) (own := [("person", 3)]) (by rfl) sc_outside_calls.nd rfl rfl (sw_true rfl rfl rfl (by decide +kernel)) (pi_range1 (by rfl) B.range (pa_cons (pe_callB (lenK (K := K) rfl) (by rfl) B.len (by decide +kernel) (pa_cons (pv 0) pa_nil)) pa_nil)) (blkOk_by (own := [("person", 3)]) (N := n_outside_calls) (sc := (defScope s_outside_calls)) (by decide +kernel)) (fun _ _ _ _ _ => (pg_name (i := 3) sc_outside_calls.nd rfl (by first | exact Or.inl rfl | exact Or.inr rfl))) (fun _ _ _ _ _ => (pts_one (pt_cmpR op_gt (pe_call c_height.ok (hr.mono (by decide)) (by rfl) c_height.g c_height.kp c_height.bd .nil pass0 (pa_cons (pv 0) (pa_cons (pv 3) pa_nil))) pe_int (nomark _)))) (fun _ _ _ _ _ => (pe_tupS (pa_cons (pe_un un_neg (pe_call c_height.ok (hr.mono (by decide)) (by rfl) c_height.g c_height.kp c_height.bd .nil pass0 (pa_cons (pv 0) (pa_cons (pv 3) pa_nil)))) (pa_cons (pv 3) pa_nil)))))
      (pss_cons (ps_set (i := 4) sc_outside_calls.nd rfl (by first | exact Or.inl rfl | exact Or.inr rfl) (pe_lst pa_nil))
      (pss_cons (ps_for PassesOwn.never rfl (seqK (K := K) rfl (pe_callB (sortK (K := K) rfl) (by rfl) B.sorted (by decide +kernel) (pa_cons (pv 2) pa_nil))) (gtupK (K := K) rfl (pg_tup rfl (pgs_cons (pg_name (i := 5) sc_outside_calls.nd rfl (by first | exact Or.inl rfl | exact Or.inr rfl)) (pgs_cons (pg_name (i := 3) sc_outside_calls.nd rfl (by first | exact Or.inl rfl | exact Or.inr rfl)) pgs_nil)))) (pss_one (ps_aug (i := 4) sc_outside_calls.nd rfl (by first | exact Or.inl rfl | exact Or.inr rfl) (pe_op op_mulA (pe_lst (pa_cons (pv 3) pa_nil)) (indexK (K := K) rfl (pe_index (pe_call c_way.ok (hr.mono (by decide)) (by rfl) c_way.g c_way.kp c_way.bd .nil pass0 (pa_cons (pv 0) (pa_cons (pv 3) pa_nil))) (pa_cons (pe_ix (ixK (K := K) rfl) (pv 1) (pv 3) (fun _ _ => rfl)) pa_nil)))) (ipR iop_ext))))
      (pss_one (ps_ret (pv 4)))))),
    (ss_seq (ss_set false (se_lc (si_rng1 (sa_cons (se_cb rc_len (sa_cons se_var sa_nil)) sa_nil)) sg_name (st_test (se_op r2_B (se_call mon_height (sa_cons se_var (sa_cons se_var sa_nil))) se_int)) (se_tup (sa_cons (se_un ru_neg (se_call mon_height (sa_cons se_var (sa_cons se_var sa_nil)))) (sa_cons se_var sa_nil)))))
      (ss_seq (ss_set true (se_lst sa_nil))
      (ss_seq (ss_for (si_seq (se_cb rc_sorted (sa_cons se_var sa_nil))) (sg_tup (sgs_cons sg_name (sgs_cons sg_name sgs_nil))) (ss_ext (se_op r2_mul (se_lst (sa_cons se_var sa_nil)) (se_index (se_call mon_way (sa_cons se_var (sa_cons se_var sa_nil))) (se_op r2_ix se_var se_var)))))
      (ss_ret se_var))))⟩
abbrev s_ring_calls : Stmt := topS 33
abbrev n_ring_calls : List Str := ["ring", "goal", "leaving", "person", "members", "word", "unused"]
theorem sc_ring_calls : FnScope n_ring_calls ["ring", "goal"] (defScope s_ring_calls) := ⟨rfl, rfl, rfl, by decide +kernel, rfl, by decide +kernel, by decide +kernel⟩
theorem ok_ring_calls {f : Addr} {fd : FuncData} (F : Fun K "ring_calls" "ring_calls" s_ring_calls f fd) (B : Bi mg) {f_height : Addr} {e_height : FuncData} (c_height : Cal P w K mg base "height" 2 ["state", "person"] (spD 2 p_height) f_height e_height) {f_turned : Addr} {e_turned : FuncData} (c_turned : Cal P w K mg base "turned" 1 ["members", "first"] (spD 2 p_turned) f_turned e_turned)    : FnOk P w K mg base CX0 3 f fd ["ring", "goal"] (spD 2 p_ring_calls) := by
  refine okD (k := 2) F sc_ring_calls rfl (fun cdv A outer s H E hr => ?_) m_ring_calls
  exact ⟨_, (pss_cons (ps_setLc (i := 2) (own := [("person", 3)]) (by rfl) sc_ring_calls.nd rfl rfl (sw_true rfl rfl rfl (by decide +kernel)) (seqK (K := K) rfl (pv 0)) (blkOk_by (own := [("person", 3)]) (N := n_ring_calls) (sc := (defScope s_ring_calls)) (by decide +kernel)) (fun _ _ _ _ _ => (pg_name (i := 3) sc_ring_calls.nd rfl (by first | exact Or.inl rfl | exact Or.inr rfl))) (fun _ _ _ _ _ => (pts_one (pt_cmpR op_gt (pe_call c_height.ok (hr.mono (by decide)) (by rfl) c_height.g c_height.kp c_height.bd .nil pass0 (pa_cons (pv 1) (pa_cons (pv 3) pa_nil))) pe_int (nomark _)))) (fun _ _ _ _ _ => (pe_tupS (pa_cons (pe_un un_neg (pe_call c_height.ok (hr.mono (by decide)) (by rfl) c_height.g c_height.kp c_height.bd .nil pass0 (pa_cons (pv 1) (pa_cons (pv 3) pa_nil)))) (pa_cons (pv 3) pa_nil)))))
      (pss_cons (ps_set (i := 4) sc_ring_calls.nd rfl (by first | exact Or.inl rfl | exact Or.inr rfl) (pe_callTy (listK (K := K) rfl) (by rfl) B.list (by decide +kernel) (pa_cons (pv 0) pa_nil)))
      (pss_cons (ps_set (i := 5) sc_ring_calls.nd rfl (by first | exact Or.inl rfl | exact Or.inr rfl) (pe_lst pa_nil))
      (pss_cons (ps_for PassesOwn.never rfl (seqK (K := K) rfl (pe_callB (sortK (K := K) rfl) (by rfl) B.sorted (by decide +kernel) (pa_cons (pv 2) pa_nil))) (gtupK (K := K) rfl (pg_tup rfl (pgs_cons (pg_name (i := 6) sc_ring_calls.nd rfl (by first | exact Or.inl rfl | exact Or.inr rfl)) (pgs_cons (pg_name (i := 3) sc_ring_calls.nd rfl (by first | exact Or.inl rfl | exact Or.inr rfl)) pgs_nil)))) (pss_cons (ps_set (i := 4) sc_ring_calls.nd rfl (by first | exact Or.inl rfl | exact Or.inr rfl) (pe_slice (slK (K := K) rfl) (pe_call c_turned.ok (hr.mono (by decide)) (by rfl) c_turned.g c_turned.kp c_turned.bd .nil pass0 (pa_cons (pv 4) (pa_cons (pv 3) pa_nil))) (po_some pe_int) po_none))
      (pss_cons (ps_expr (bmK (K := K) rfl (pe_bm PySem.F.plainAttrs_list PySem.F.slot_list_append PySem.F.type_list_append mt_append (pv 5) (pa_cons (pe_ix (ixK (K := K) rfl) (pv 4) (pe_un un_neg pe_int) (fun _ _ => rfl)) pa_nil))))
      (pss_one (ps_aug (i := 5) sc_ring_calls.nd rfl (by first | exact Or.inl rfl | exact Or.inr rfl) (pe_op op_mulA (pe_lst (pa_cons (pv 3) pa_nil)) (indexK (K := K) rfl (pe_index (pv 4) (pa_cons (pe_ix (ixK (K := K) rfl) (pv 1) (pv 3) (fun _ _ => rfl)) pa_nil)))) (ipR iop_ext))))))
      (pss_one (ps_ret (pv 5))))))),
    (ss_seq (ss_set false (se_lc (si_seq se_var) sg_name (st_test (se_op r2_B (se_call mon_height (sa_cons se_var (sa_cons se_var sa_nil))) se_int)) (se_tup (sa_cons (se_un ru_neg (se_call mon_height (sa_cons se_var (sa_cons se_var sa_nil)))) (sa_cons se_var sa_nil)))))
      (ss_seq (ss_set false (se_cb rc_list (sa_cons se_var sa_nil)))
      (ss_seq (ss_set true (se_lst sa_nil))
      (ss_seq (ss_for (si_seq (se_cb rc_sorted (sa_cons se_var sa_nil))) (sg_tup (sgs_cons sg_name (sgs_cons sg_name sgs_nil))) (ss_seq (ss_set false (se_sl rs_sl (se_call mon_turned (sa_cons se_var (sa_cons se_var sa_nil))) (so_some se_int) so_none))
      (ss_seq (ss_append (se_op r2_ix se_var (se_un ru_neg se_int)))
      (ss_ext (se_op r2_mul (se_lst (sa_cons se_var sa_nil)) (se_index se_var (se_op r2_ix se_var se_var)))))))
      (ss_ret se_var)))))⟩
abbrev s_word_to : Stmt := topS 34
abbrev n_word_to : List Str := ["state", "goal", "word", "ring"]
theorem sc_word_to : FnScope n_word_to ["state", "goal"] (defScope s_word_to) := ⟨rfl, rfl, rfl, by decide +kernel, rfl, by decide +kernel, by decide +kernel⟩
theorem ok_word_to {f : Addr} {fd : FuncData} (F : Fun K "word_to" "word_to" s_word_to f fd) (B : Bi mg) {f_check_future : Addr} {e_check_future : FuncData} (c_check_future : Cal P w K mg base "check_future" 6 ["state", "goal"] (spD 2 p_check_future) f_check_future e_check_future) {f_outside_calls : Addr} {e_outside_calls : FuncData} (c_outside_calls : Cal P w K mg base "outside_calls" 3 ["state", "goal"] (spD 2 p_outside_calls) f_outside_calls e_outside_calls) {f_rings : Addr} {e_rings : FuncData} (c_rings : Cal P w K mg base "rings" 3 ["state"] (spD 1 p_rings) f_rings e_rings) {f_ring_calls : Addr} {e_ring_calls : FuncData} (c_ring_calls : Cal P w K mg base "ring_calls" 3 ["ring", "goal"] (spD 2 p_ring_calls) f_ring_calls e_ring_calls)    : FnOk P w K mg base CX0 7 f fd ["state", "goal"] (spD 2 p_word_to) := by
  refine okD (k := 6) F sc_word_to rfl (fun cdv A outer s H E hr => ?_) m_word_to
  exact ⟨_, (pss_cons (ps_expr (pe_call c_check_future.ok (hr.mono (by decide)) (by rfl) c_check_future.g c_check_future.kp c_check_future.bd .nil pass0 (pa_cons (pv 0) (pa_cons (pv 1) pa_nil))))
      (pss_cons (ps_set (i := 2) sc_word_to.nd rfl (by first | exact Or.inl rfl | exact Or.inr rfl) (pe_call c_outside_calls.ok (hr.mono (by decide)) (by rfl) c_outside_calls.g c_outside_calls.kp c_outside_calls.bd .nil pass0 (pa_cons (pv 0) (pa_cons (pv 1) pa_nil))))
      (pss_cons (ps_for PassesOwn.never rfl (seqK (K := K) rfl (pe_call c_rings.ok (hr.mono (by decide)) (by rfl) c_rings.g c_rings.kp c_rings.bd .nil pass0 (pa_cons (pv 0) pa_nil))) (pg_name (i := 3) sc_word_to.nd rfl (by first | exact Or.inl rfl | exact Or.inr rfl)) (pss_one (ps_aug (i := 2) sc_word_to.nd rfl (by first | exact Or.inl rfl | exact Or.inr rfl) (pe_call c_ring_calls.ok (hr.mono (by decide)) (by rfl) c_ring_calls.g c_ring_calls.kp c_ring_calls.bd .nil pass0 (pa_cons (pv 3) (pa_cons (pv 1) pa_nil))) (ipR iop_ext))))
      (pss_one (ps_ret (pv 2)))))),
    (ss_seq (ss_drop (se_call mon_check_future (sa_cons se_var (sa_cons se_var sa_nil))))
      (ss_seq (ss_set true (se_call mon_outside_calls (sa_cons se_var (sa_cons se_var sa_nil))))
      (ss_seq (ss_for (si_seq (se_call mon_rings (sa_cons se_var sa_nil))) sg_name (ss_ext (se_call mon_ring_calls (sa_cons se_var (sa_cons se_var sa_nil)))))
      (ss_ret se_var))))⟩
abbrev s_is_word_to : Stmt := topS 35
abbrev n_is_word_to : List Str := ["state", "goal", "value", "item"]
theorem sc_is_word_to : FnScope n_is_word_to ["state", "goal", "value"] (defScope s_is_word_to) := ⟨rfl, rfl, rfl, by decide +kernel, rfl, by decide +kernel, by decide +kernel⟩
theorem ok_is_word_to {f : Addr} {fd : FuncData} (F : Fun K "is_word_to" "is_word_to" s_is_word_to f fd) (B : Bi mg) {f_check_size : Addr} {e_check_size : FuncData} (c_check_size : Cal P w K mg base "check_size" 1 ["state", "other"] (spD 2 p_check_size) f_check_size e_check_size) {f_is_person : Addr} {e_is_person : FuncData} (c_is_person : Cal P w K mg base "is_person" 1 ["value", "size"] (spD 2 p_is_person) f_is_person e_is_person) {f_called_all : Addr} {e_called_all : FuncData} (c_called_all : Cal P w K mg base "called_all" 3 ["state", "word"] (spD 2 p_called_all) f_called_all e_called_all)    : FnOk P w K mg base CX0 4 f fd ["state", "goal", "value"] (spD 3 p_is_word_to) := by
  refine okD (k := 3) F sc_is_word_to rfl (fun cdv A outer s H E hr => ?_) m_is_word_to
  exact ⟨_, (pss_cons (ps_expr (pe_call c_check_size.ok (hr.mono (by decide)) (by rfl) c_check_size.g c_check_size.kp c_check_size.bd .nil pass0 (pa_cons (pv 0) (pa_cons (pv 1) pa_nil))))
      (pss_cons (ps_if (pt_not (pt_truth (pe_callB (isiK (K := K) rfl) (by rfl) B.isinstance (by decide +kernel) (pa_cons (pv 2) (pa_cons (pe_bltn (v := .ty "list") (by rfl) B.list (by decide +kernel) rfl) pa_nil))) (by intro _; rfl))) (pss_one (ps_ret pe_bl)) pss_nil)
      (pss_cons (ps_if (pt_not (pt_truth (pe_callB (allK (K := K) rfl rfl) (by rfl) B.all (by decide +kernel) (pa_cons (pe_lc (own := [("item", 3)]) (by rfl) sc_is_word_to.nd (seqK (K := K) rfl (pv 2)) (blkOk_by (own := [("item", 3)]) (N := n_is_word_to) (sc := (defScope s_is_word_to)) (by decide +kernel)) (fun _ _ _ _ _ => (pg_name (i := 3) sc_is_word_to.nd rfl (by first | exact Or.inl rfl | exact Or.inr rfl))) (fun _ _ _ _ _ => pts_nil) (fun _ _ _ _ _ => (pe_call c_is_person.ok (hr.mono (by decide)) (by rfl) c_is_person.g c_is_person.kp c_is_person.bd .nil pass0 (pa_cons (pv 3) (pa_cons (pe_callB (lenK (K := K) rfl) (by rfl) B.len (by decide +kernel) (pa_cons (pv 0) pa_nil)) pa_nil))))) pa_nil)) (by intro _; rfl))) (pss_one (ps_ret pe_bl)) pss_nil)
      (pss_one (ps_ret (pe_cmpR (eqK (K := K) rfl hr.units) (pe_call c_called_all.ok (hr.mono (by decide)) (by rfl) c_called_all.g c_called_all.kp c_called_all.bd .nil pass0 (pa_cons (pv 0) (pa_cons (pv 2) pa_nil))) (pe_callTy (tupleK (K := K) rfl) (by rfl) B.tuple (by decide +kernel) (pa_cons (pv 1) pa_nil)) (nomark _))))))),
    (ss_seq (ss_drop (se_call mon_check_size (sa_cons se_var (sa_cons se_var sa_nil))))
      (ss_seq (ss_if (st_not (st_truth (se_isi (.inr (.inr (.inr (.inl rfl)))) se_var))) (ss_ret se_bl) ss_next)
      (ss_seq (ss_if (st_not (st_truth (se_cb rc_all (sa_cons (se_lc (si_seq se_var) sg_name st_yes (se_call mon_is_person (sa_cons se_var (sa_cons (se_cb rc_len (sa_cons se_var sa_nil)) sa_nil)))) sa_nil)))) (ss_ret se_bl) ss_next)
      (ss_ret (se_op r2_eq (se_call mon_called_all (sa_cons se_var (sa_cons se_var sa_nil))) (se_cb rc_tuple (sa_cons se_var sa_nil)))))))⟩
abbrev s_law_of : Stmt := topS 40
abbrev n_law_of : List Str := ["_law_box_here", "_law_some"]
theorem sc_law_of : FnScope n_law_of ["_law_box_here", "_law_some"] (defScope s_law_of) := ⟨rfl, rfl, rfl, by decide +kernel, rfl, by decide +kernel, by decide +kernel⟩
theorem ok_law_of {f : Addr} {fd : FuncData} (F : Fun K "_law_of" "_law_of" s_law_of f fd) (B : Bi mg) {f_law_take : Addr} {e_law_take : FuncData} (c_law_take : Cal P w K mg base "_law_take" 2 ["_law_box_here", "_law_span"] (spD 2 p_law_take) f_law_take e_law_take)    : FnOk P w K mg base CX0 3 f fd ["_law_box_here", "_law_some"] (spD 2 p_law_pick) := by
  refine okD (k := 2) F sc_law_of rfl (fun cdv A outer s H E hr => ?_) m_law_pick
  exact ⟨_, (pss_one (ps_ret (pe_ix (ixK (K := K) rfl) (pv 1) (pe_call c_law_take.ok (hr.mono (by decide)) (by rfl) c_law_take.g c_law_take.kp c_law_take.bd .nil pass0 (pa_cons (pv 0) (pa_cons (pe_callB (lenK (K := K) rfl) (by rfl) B.len (by decide +kernel) (pa_cons (pv 1) pa_nil)) pa_nil))) (fun _ _ => rfl)))),
    (ss_ret (se_op r2_ix se_var (se_call mon_law_take (sa_cons se_var (sa_cons (se_cb rc_len (sa_cons se_var sa_nil)) sa_nil)))))⟩
abbrev s_law_same : Stmt := topS 41
abbrev n_law_same : List Str := ["_law_found", "_law_due", "_law_one", "_law_two"]
theorem sc_law_same : FnScope n_law_same ["_law_found", "_law_due"] (defScope s_law_same) := ⟨rfl, rfl, rfl, by decide +kernel, rfl, by decide +kernel, by decide +kernel⟩
theorem ok_law_same {f : Addr} {fd : FuncData} (F : Fun K "_law_same" "_law_same" s_law_same f fd) (B : Bi mg) (g : mg "_law_same" = some (.ref f)) (bd : Binds K fd ["_law_found", "_law_due"] []) : ∀ d, FnOk P w K mg base CX0 (d + 1) f fd ["_law_found", "_law_due"] (spD 2 (p_law_same_2 d))
  | 0 => fn_none (spD_none fun args c Q ⟨a, b, _, _, h, _⟩ => by unfold dep at h; cases h)
  | d + 1 => by
    have c_law_same : Cal P w K mg base "_law_same" (d + 1) ["_law_found", "_law_due"] (spD 2 (p_law_same_2 d)) f fd := ⟨ok_law_same F B g bd d, g, F.kp, bd⟩
    refine okD (k := d + 1) F sc_law_same rfl (fun cdv A outer s H E hr => ?_) m_law_same_2
    exact ⟨_, (pss_cons (ps_if (pt_truth (pe_callB (isiTK (K := K) rfl) (by rfl) B.isinstance (by decide +kernel) (pa_cons (pv 1) (pa_cons (pe_tup (pa_cons (pe_bltn (v := .ty "list") (by rfl) B.list (by decide +kernel) rfl) (pa_cons (pe_bltn (v := .ty "tuple") (by rfl) B.tuple (by decide +kernel) rfl) pa_nil))) pa_nil))) (by intro _; rfl)) (pss_cons (ps_if (PW.pt (pw_or (pt_cmpR (neK (K := K) rfl hr.units) (pe_callB (isiK (K := K) rfl) (by rfl) B.isinstance (by decide +kernel) (pa_cons (pv 0) (pa_cons (pe_bltn (v := .ty "list") (by rfl) B.list (by decide +kernel) rfl) pa_nil))) (pe_callB (isiK (K := K) rfl) (by rfl) B.isinstance (by decide +kernel) (pa_cons (pv 1) (pa_cons (pe_bltn (v := .ty "list") (by rfl) B.list (by decide +kernel) rfl) pa_nil))) (nomark _)) (pw_or1 (pt_cmpR (neK (K := K) rfl hr.units) (pe_callB (isiK (K := K) rfl) (by rfl) B.isinstance (by decide +kernel) (pa_cons (pv 0) (pa_cons (pe_bltn (v := .ty "tuple") (by rfl) B.tuple (by decide +kernel) rfl) pa_nil))) (pe_callB (isiK (K := K) rfl) (by rfl) B.isinstance (by decide +kernel) (pa_cons (pv 1) (pa_cons (pe_bltn (v := .ty "tuple") (by rfl) B.tuple (by decide +kernel) rfl) pa_nil))) (nomark _))))) (pss_one (ps_ret pe_bl)) pss_nil)
      (pss_one (ps_ret (pe_and (pe_cmpR (eqK (K := K) rfl hr.units) (pe_callB (lenK (K := K) rfl) (by rfl) B.len (by decide +kernel) (pa_cons (pv 0) pa_nil)) (pe_callB (lenK (K := K) rfl) (by rfl) B.len (by decide +kernel) (pa_cons (pv 1) pa_nil)) (nomark _)) (pe_one (pe_callB (allK (K := K) rfl rfl) (by rfl) B.all (by decide +kernel) (pa_cons (pe_lc (own := [("_law_one", 2), ("_law_two", 3)]) (by rfl) sc_law_same.nd (zipA (K := K) rfl (by rfl) B.zip (pa_cons (pv 0) (pa_cons (pv 1) pa_nil))) (blkOk_by (own := [("_law_one", 2), ("_law_two", 3)]) (N := n_law_same) (sc := (defScope s_law_same)) (by decide +kernel)) (fun _ _ _ _ _ => (gtupK (K := K) rfl (pg_tup rfl (pgs_cons (pg_name (i := 2) sc_law_same.nd rfl (by first | exact Or.inl rfl | exact Or.inr rfl)) (pgs_cons (pg_name (i := 3) sc_law_same.nd rfl (by first | exact Or.inl rfl | exact Or.inr rfl)) pgs_nil))))) (fun _ _ _ _ _ => pts_nil) (fun _ _ _ _ _ => (pe_call c_law_same.ok hr (by rfl) c_law_same.g c_law_same.kp c_law_same.bd .nil pass0 (pa_cons (pv 2) (pa_cons (pv 3) pa_nil))))) pa_nil))))))) pss_nil)
      (pss_cons (ps_if (PW.pt (pw_or (pt_cmpR op_isN (pv 1) pe_non (nomark _)) (pw_or1 (pt_truth (pe_callB (isiTK (K := K) rfl) (by rfl) B.isinstance (by decide +kernel) (pa_cons (pv 1) (pa_cons (pe_tup (pa_cons (pe_bltn (v := .ty "str") (by rfl) B.str (by decide +kernel) rfl) (pa_cons (pe_bltn (v := .ty "bool") (by rfl) B.bool (by decide +kernel) rfl) pa_nil))) pa_nil))) (by intro _; rfl))))) (pss_one (ps_ret (pe_and (pe_cmpR (eqK (K := K) rfl hr.units) (pv 0) (pv 1) (nomark _)) (pe_and (pe_cmpR (eqK (K := K) rfl hr.units) (pe_callB (isiK (K := K) rfl) (by rfl) B.isinstance (by decide +kernel) (pa_cons (pv 0) (pa_cons (pe_bltn (v := .ty "bool") (by rfl) B.bool (by decide +kernel) rfl) pa_nil))) (pe_callB (isiK (K := K) rfl) (by rfl) B.isinstance (by decide +kernel) (pa_cons (pv 1) (pa_cons (pe_bltn (v := .ty "bool") (by rfl) B.bool (by decide +kernel) rfl) pa_nil))) (nomark _)) (pe_one (pe_cmpR (eqK (K := K) rfl hr.units) (pe_cmpR op_isN (pv 0) pe_non (nomark _)) (pe_cmpR op_isN (pv 1) pe_non (nomark _)) (nomark _))))))) pss_nil)
      (pss_one (ps_ret (pe_and (pe_callB (isiK (K := K) rfl) (by rfl) B.isinstance (by decide +kernel) (pa_cons (pv 0) (pa_cons (pe_bltn (v := .ty "int") (by rfl) B.int (by decide +kernel) rfl) pa_nil))) (pe_and (pe_not (pe_callB (isiK (K := K) rfl) (by rfl) B.isinstance (by decide +kernel) (pa_cons (pv 0) (pa_cons (pe_bltn (v := .ty "bool") (by rfl) B.bool (by decide +kernel) rfl) pa_nil)))) (pe_one (pe_cmpR (eqK (K := K) rfl hr.units) (pv 0) (pv 1) (nomark _))))))))),
      (ss_seq (ss_if (st_truth (se_isi2 (.inr (.inr (.inr (.inl rfl)))) (.inr (.inr (.inr (.inr rfl)))) se_var)) (ss_seq (ss_if (st_or (st_test (se_op r2_ne (se_isi (.inr (.inr (.inr (.inl rfl)))) se_var) (se_isi (.inr (.inr (.inr (.inl rfl)))) se_var))) (st_test (se_op r2_ne (se_isi (.inr (.inr (.inr (.inr rfl)))) se_var) (se_isi (.inr (.inr (.inr (.inr rfl)))) se_var)))) (ss_ret se_bl) ss_next)
      (ss_ret (se_andV (se_op r2_eq (se_cb rc_len (sa_cons se_var sa_nil)) (se_cb rc_len (sa_cons se_var sa_nil))) (se_cb rc_all (sa_cons (se_lc (si_zip (sa_cons se_var (sa_cons se_var sa_nil))) (sg_tup (sgs_cons sg_name (sgs_cons sg_name sgs_nil))) st_yes (se_call (mon_law_same_2 d) (sa_cons se_var (sa_cons se_var sa_nil)))) sa_nil))))) ss_next)
      (ss_seq (ss_if (st_or (st_test (se_op r2_isN se_var se_non)) (st_truth (se_isi2 (.inr (.inr (.inl rfl))) (.inr (.inl rfl)) se_var))) (ss_ret (se_andV (se_op r2_eq se_var se_var) (se_andV (se_op r2_eq (se_isi (.inr (.inl rfl)) se_var) (se_isi (.inr (.inl rfl)) se_var)) (se_op r2_eq (se_op r2_isN se_var se_non) (se_op r2_isN se_var se_non))))) ss_next)
      (ss_ret (se_andV (se_isi (.inl rfl) se_var) (se_andV (se_notV (se_isi (.inr (.inl rfl)) se_var)) (se_op r2_eq se_var se_var))))))⟩
abbrev s_law_shouted : Stmt := topS 42
abbrev n_law_shouted : List Str := ["_law_here", "_law_shouts", "_law_found", "_law_who"]
theorem sc_law_shouted : FnScope n_law_shouted ["_law_here", "_law_shouts"] (defScope s_law_shouted) := ⟨rfl, rfl, rfl, by decide +kernel, rfl, by decide +kernel, by decide +kernel⟩
theorem ok_law_shouted {f : Addr} {fd : FuncData} (F : Fun K "_law_shouted" "_law_shouted" s_law_shouted f fd) (B : Bi mg)     : FnOk P w K mg base CX0 1 f fd ["_law_here", "_law_shouts"] (spD 2 p_law_shouted) := by
  refine okD (k := 0) F sc_law_shouted rfl (fun cdv A outer s H E hr => ?_) m_law_shouted
  exact ⟨_, (pss_cons (ps_set (i := 2) sc_law_shouted.nd rfl (by first | exact Or.inl rfl | exact Or.inr rfl) (pe_callTy (listK (K := K) rfl) (by rfl) B.list (by decide +kernel) (pa_cons (pv 0) pa_nil)))
      (pss_cons (ps_for PassesOwn.never rfl (seqK (K := K) rfl (pv 1)) (pg_name (i := 3) sc_law_shouted.nd rfl (by first | exact Or.inl rfl | exact Or.inr rfl)) (pss_one (ps_asg (pe_ix (ixK (K := K) rfl) (pv 2) (pe_ix (ixK (K := K) rfl) (pv 2) (pv 3) (fun _ _ => rfl)) (fun _ _ => rfl)) (pg_sub (pv 2) (pv 3) set_list))))
      (pss_one (ps_ret (pe_callTy (tupleK (K := K) rfl) (by rfl) B.tuple (by decide +kernel) (pa_cons (pv 2) pa_nil)))))),
    (ss_seq (ss_set true (se_cb rc_list (sa_cons se_var sa_nil)))
      (ss_seq (ss_for (si_seq se_var) sg_name (ss_setIx (se_op r2_ix se_var (se_op r2_ix se_var se_var)) se_var))
      (ss_ret (se_cb rc_tuple (sa_cons se_var sa_nil)))))⟩
abbrev s_law_ring_right : Stmt := topS 43
abbrev n_law_ring_right : List Str := ["_law_size", "_law_here", "_law_last", "_law_turned", "_law_due", "_law_told", "_law_crossed", "_law_pair", "_law_root", "_law_both"]
theorem sc_law_ring_right : FnScope n_law_ring_right ["_law_size"] (defScope s_law_ring_right) := ⟨rfl, rfl, rfl, by decide +kernel, rfl, by decide +kernel, by decide +kernel⟩
theorem ok_law_ring_right {f : Addr} {fd : FuncData} (F : Fun K "_law_ring_right" "_law_ring_right" s_law_ring_right f fd) (B : Bi mg) {f_is_obstacle : Addr} {e_is_obstacle : FuncData} (c_is_obstacle : Cal P w K mg base "is_obstacle" 4 ["state", "goal", "value"] (spD 3 p_is_obstacle) f_is_obstacle e_is_obstacle) {f_obstacle : Addr} {e_obstacle : FuncData} (c_obstacle : Cal P w K mg base "obstacle" 5 ["state", "goal"] (spD 2 p_obstacle) f_obstacle e_obstacle) {f_law_same : Addr} {e_law_same : FuncData} (c_law_same : Cal P w K mg base "_law_same" 4 ["_law_found", "_law_due"] (spD 2 (p_law_same_2 3)) f_law_same e_law_same) {f_leads : Addr} {e_leads : FuncData} (c_leads : Cal P w K mg base "leads" 6 ["state", "goal"] (spD 2 p_leads) f_leads e_leads)    : FnOk P w K mg base CX0 7 f fd ["_law_size"] (spD 1 p_law_ring_right) := by
  refine okD (k := 6) F sc_law_ring_right rfl (fun cdv A outer s H E hr => ?_) m_law_ring_right
  exact ⟨_, (pss_cons (ps_par (i := 1) (j := 2) (by rfl) sc_law_ring_right.nd rfl rfl (by decide) rfl rfl (pa_cons (pe_callTy (tupleK (K := K) rfl) (by rfl) B.tuple (by decide +kernel) (pa_cons (pe_op (addK (K := K) rfl) (pe_listRg rfl (by rfl) B.list (prg_2 (by rfl) B.range pe_int (pv 0))) (pe_lst (pa_cons pe_int pa_nil))) pa_nil)) (pa_cons (pe_op op_sub (pv 0) pe_int) pa_nil)) (by rfl))
      (pss_cons (ps_set (i := 3) sc_law_ring_right.nd rfl (by first | exact Or.inl rfl | exact Or.inr rfl) (pe_callTy (tupleK (K := K) rfl) (by rfl) B.tuple (by decide +kernel) (pa_cons (pe_op (addK (K := K) rfl) (pe_lst (pa_cons (pv 2) pa_nil)) (pe_listRg rfl (by rfl) B.list (prg_1 (by rfl) B.range (pv 2)))) pa_nil)))
      (pss_cons (ps_set (i := 4) sc_law_ring_right.nd rfl (by first | exact Or.inl rfl | exact Or.inr rfl) (pe_tupS (pa_cons pe_str (pa_cons pe_int (pa_cons (pv 2) (pa_cons (pe_op op_sub (pv 2) pe_int) pa_nil))))))
      (pss_cons (ps_set (i := 5) sc_law_ring_right.nd rfl (by first | exact Or.inl rfl | exact Or.inr rfl) (pe_lst (pa_cons (pe_call c_obstacle.ok (hr.mono (by decide)) (by rfl) c_obstacle.g c_obstacle.kp c_obstacle.bd .nil pass0 (pa_cons (pv 1) (pa_cons (pv 3) pa_nil))) (pa_cons (pe_call c_obstacle.ok (hr.mono (by decide)) (by rfl) c_obstacle.g c_obstacle.kp c_obstacle.bd .nil pass0 (pa_cons (pv 3) (pa_cons (pv 1) pa_nil))) (pa_cons (pe_call c_is_obstacle.ok (hr.mono (by decide)) (by rfl) c_is_obstacle.g c_is_obstacle.kp c_is_obstacle.bd .nil pass0 (pa_cons (pv 1) (pa_cons (pv 3) (pa_cons (pe_tupS (pa_cons pe_str (pa_cons pe_int (pa_cons pe_int (pa_cons pe_int pa_nil))))) pa_nil)))) pa_nil)))))
      (pss_cons (ps_if (pt_not (pt_truth (pe_call c_law_same.ok (hr.mono (by decide)) (by rfl) c_law_same.g c_law_same.kp c_law_same.bd .nil pass0 (pa_cons (pv 5) (pa_cons (pe_lst (pa_cons (pv 4) (pa_cons (pe_tupS (pa_cons pe_str (pa_cons pe_int (pa_cons pe_int (pa_cons pe_int pa_nil))))) (pa_cons pe_bl pa_nil)))) pa_nil))) (by intro _; rfl))) (pss_one (ps_ret pe_bl)) pss_nil)
      (pss_cons (ps_if (pt_not (pt_truth (pe_call c_law_same.ok (hr.mono (by decide)) (by rfl) c_law_same.g c_law_same.kp c_law_same.bd .nil pass0 (pa_cons (pe_call c_obstacle.ok (hr.mono (by decide)) (by rfl) c_obstacle.g c_obstacle.kp c_obstacle.bd .nil pass0 (pa_cons (pe_tupS (pa_cons pe_int (pa_cons pe_int (pa_cons pe_int (pa_cons pe_int pa_nil))))) (pa_cons (pe_tupS (pa_cons pe_int (pa_cons pe_int (pa_cons pe_int (pa_cons pe_int pa_nil))))) pa_nil))) (pa_cons (pe_tupS (pa_cons pe_str (pa_cons pe_int (pa_cons pe_int pa_nil)))) pa_nil))) (by intro _; rfl))) (pss_one (ps_ret pe_bl)) pss_nil)
      (pss_cons (ps_set (i := 6) sc_law_ring_right.nd rfl (by first | exact Or.inl rfl | exact Or.inr rfl) (pe_op (addK (K := K) rfl) (pe_tupS (pa_cons pe_int (pa_cons pe_int (pa_cons pe_int pa_nil)))) (pe_slice (slK (K := K) rfl) (pv 1) (po_some pe_int) po_none)))
      (pss_cons (ps_set (i := 7) sc_law_ring_right.nd rfl (by first | exact Or.inl rfl | exact Or.inr rfl) (pe_op (addK (K := K) rfl) (pe_tupS (pa_cons pe_int (pa_cons pe_int (pa_cons pe_int (pa_cons pe_int pa_nil))))) (pe_op (mulZK (K := K) rfl) (pe_tupS (pa_cons pe_int pa_nil)) (pe_op op_sub (pv 0) pe_int))))
      (pss_cons (ps_if (pt_not (pt_truth (pe_call c_law_same.ok (hr.mono (by decide)) (by rfl) c_law_same.g c_law_same.kp c_law_same.bd .nil pass0 (pa_cons (pe_lst (pa_cons (pe_call c_obstacle.ok (hr.mono (by decide)) (by rfl) c_obstacle.g c_obstacle.kp c_obstacle.bd .nil pass0 (pa_cons (pv 1) (pa_cons (pv 6) pa_nil))) (pa_cons (pe_call c_obstacle.ok (hr.mono (by decide)) (by rfl) c_obstacle.g c_obstacle.kp c_obstacle.bd .nil pass0 (pa_cons (pv 1) (pa_cons (pv 7) pa_nil))) pa_nil))) (pa_cons (pe_lst (pa_cons (pe_tupS (pa_cons pe_str (pa_cons pe_int (pa_cons pe_int (pa_cons pe_int pa_nil))))) (pa_cons (pe_tupS (pa_cons pe_str (pa_cons pe_int (pa_cons pe_int pa_nil)))) pa_nil))) pa_nil))) (by intro _; rfl))) (pss_one (ps_ret pe_bl)) pss_nil)
      (pss_cons (ps_par (i := 8) (j := 9) (by rfl) sc_law_ring_right.nd rfl rfl (by decide) rfl rfl (pa_cons (pe_op (mulZK (K := K) rfl) (pe_tupS (pa_cons (pv 2) pa_nil)) (pv 0)) (pa_cons (pe_op (addK (K := K) rfl) (pe_tupS (pa_cons (pv 2) pa_nil)) (pe_op (mulZK (K := K) rfl) (pe_tupS (pa_cons pe_int pa_nil)) (pv 2))) pa_nil)) (by rfl))
      (pss_cons (ps_set (i := 5) sc_law_ring_right.nd rfl (by first | exact Or.inl rfl | exact Or.inr rfl) (pe_lst (pa_cons (pe_call c_leads.ok (hr.mono (by decide)) (by rfl) c_leads.g c_leads.kp c_leads.bd .nil pass0 (pa_cons (pv 1) (pa_cons (pv 8) pa_nil))) (pa_cons (pe_call c_leads.ok (hr.mono (by decide)) (by rfl) c_leads.g c_leads.kp c_leads.bd .nil pass0 (pa_cons (pv 1) (pa_cons (pv 9) pa_nil))) (pa_cons (pe_call c_leads.ok (hr.mono (by decide)) (by rfl) c_leads.g c_leads.kp c_leads.bd .nil pass0 (pa_cons (pv 8) (pa_cons (pv 1) pa_nil))) (pa_cons (pe_call c_leads.ok (hr.mono (by decide)) (by rfl) c_leads.g c_leads.kp c_leads.bd .nil pass0 (pa_cons (pv 9) (pa_cons (pv 8) pa_nil))) pa_nil))))))
      (pss_cons (ps_if (pt_not (pt_truth (pe_call c_law_same.ok (hr.mono (by decide)) (by rfl) c_law_same.g c_law_same.kp c_law_same.bd .nil pass0 (pa_cons (pv 5) (pa_cons (pe_lst (pa_cons pe_bl (pa_cons pe_bl (pa_cons pe_bl (pa_cons pe_bl pa_nil))))) pa_nil))) (by intro _; rfl))) (pss_one (ps_ret pe_bl)) pss_nil)
      (pss_one (ps_ret (pe_call c_law_same.ok (hr.mono (by decide)) (by rfl) c_law_same.g c_law_same.kp c_law_same.bd .nil pass0 (pa_cons (pe_lst (pa_cons (pe_call c_obstacle.ok (hr.mono (by decide)) (by rfl) c_obstacle.g c_obstacle.kp c_obstacle.bd .nil pass0 (pa_cons (pv 8) (pa_cons (pv 1) pa_nil))) (pa_cons (pe_call c_obstacle.ok (hr.mono (by decide)) (by rfl) c_obstacle.g c_obstacle.kp c_obstacle.bd .nil pass0 (pa_cons (pv 9) (pa_cons (pv 1) pa_nil))) pa_nil))) (pa_cons (pe_lst (pa_cons (pe_tupS (pa_cons pe_str (pa_cons pe_int pa_nil))) (pa_cons (pe_tupS (pa_cons pe_str (pa_cons pe_int pa_nil))) pa_nil))) pa_nil))))))))))))))))),
    (ss_seq (ss_par (se_cb rc_tuple (sa_cons (se_op r2_add (se_listRg2 se_int se_var) (se_lst (sa_cons se_int sa_nil))) sa_nil)) (se_op r2_I se_var se_int))
      (ss_seq (ss_set false (se_cb rc_tuple (sa_cons (se_op r2_add (se_lst (sa_cons se_var sa_nil)) (se_listRg se_var)) sa_nil)))
      (ss_seq (ss_set false (se_tup (sa_cons se_str (sa_cons se_int (sa_cons se_var (sa_cons (se_op r2_I se_var se_int) sa_nil))))))
      (ss_seq (ss_set false (se_lst (sa_cons (se_call mon_obstacle (sa_cons se_var (sa_cons se_var sa_nil))) (sa_cons (se_call mon_obstacle (sa_cons se_var (sa_cons se_var sa_nil))) (sa_cons (se_call mon_is_obstacle (sa_cons se_var (sa_cons se_var (sa_cons (se_tup (sa_cons se_str (sa_cons se_int (sa_cons se_int (sa_cons se_int sa_nil))))) sa_nil)))) sa_nil)))))
      (ss_seq (ss_if (st_not (st_truth (se_call (mon_law_same_2 3) (sa_cons se_var (sa_cons (se_lst (sa_cons se_var (sa_cons (se_tup (sa_cons se_str (sa_cons se_int (sa_cons se_int (sa_cons se_int sa_nil))))) (sa_cons se_bl sa_nil)))) sa_nil))))) (ss_ret se_bl) ss_next)
      (ss_seq (ss_if (st_not (st_truth (se_call (mon_law_same_2 3) (sa_cons (se_call mon_obstacle (sa_cons (se_tup (sa_cons se_int (sa_cons se_int (sa_cons se_int (sa_cons se_int sa_nil))))) (sa_cons (se_tup (sa_cons se_int (sa_cons se_int (sa_cons se_int (sa_cons se_int sa_nil))))) sa_nil))) (sa_cons (se_tup (sa_cons se_str (sa_cons se_int (sa_cons se_int sa_nil)))) sa_nil))))) (ss_ret se_bl) ss_next)
      (ss_seq (ss_set false (se_op r2_add (se_tup (sa_cons se_int (sa_cons se_int (sa_cons se_int sa_nil)))) (se_sl rs_sl se_var (so_some se_int) so_none)))
      (ss_seq (ss_set false (se_op r2_add (se_tup (sa_cons se_int (sa_cons se_int (sa_cons se_int (sa_cons se_int sa_nil))))) (se_op r2_mulZ (se_tup (sa_cons se_int sa_nil)) (se_op r2_I se_var se_int))))
      (ss_seq (ss_if (st_not (st_truth (se_call (mon_law_same_2 3) (sa_cons (se_lst (sa_cons (se_call mon_obstacle (sa_cons se_var (sa_cons se_var sa_nil))) (sa_cons (se_call mon_obstacle (sa_cons se_var (sa_cons se_var sa_nil))) sa_nil))) (sa_cons (se_lst (sa_cons (se_tup (sa_cons se_str (sa_cons se_int (sa_cons se_int (sa_cons se_int sa_nil))))) (sa_cons (se_tup (sa_cons se_str (sa_cons se_int (sa_cons se_int sa_nil)))) sa_nil))) sa_nil))))) (ss_ret se_bl) ss_next)
      (ss_seq (ss_par (se_op r2_mulZ (se_tup (sa_cons se_var sa_nil)) se_var) (se_op r2_add (se_tup (sa_cons se_var sa_nil)) (se_op r2_mulZ (se_tup (sa_cons se_int sa_nil)) se_var)))
      (ss_seq (ss_set false (se_lst (sa_cons (se_call mon_leads (sa_cons se_var (sa_cons se_var sa_nil))) (sa_cons (se_call mon_leads (sa_cons se_var (sa_cons se_var sa_nil))) (sa_cons (se_call mon_leads (sa_cons se_var (sa_cons se_var sa_nil))) (sa_cons (se_call mon_leads (sa_cons se_var (sa_cons se_var sa_nil))) sa_nil))))))
      (ss_seq (ss_if (st_not (st_truth (se_call (mon_law_same_2 3) (sa_cons se_var (sa_cons (se_lst (sa_cons se_bl (sa_cons se_bl (sa_cons se_bl (sa_cons se_bl sa_nil))))) sa_nil))))) (ss_ret se_bl) ss_next)
      (ss_ret (se_call (mon_law_same_2 3) (sa_cons (se_lst (sa_cons (se_call mon_obstacle (sa_cons se_var (sa_cons se_var sa_nil))) (sa_cons (se_call mon_obstacle (sa_cons se_var (sa_cons se_var sa_nil))) sa_nil))) (sa_cons (se_lst (sa_cons (se_tup (sa_cons se_str (sa_cons se_int sa_nil))) (sa_cons (se_tup (sa_cons se_str (sa_cons se_int sa_nil))) sa_nil))) sa_nil))))))))))))))))⟩
abbrev s_law_line_right : Stmt := topS 44
abbrev n_law_line_right : List Str := ["_law_box_here", "_law_size", "_law_here", "_law_there", "_law_who", "_law_shouts", "_law_told", "_law_odd"]
theorem sc_law_line_right : FnScope n_law_line_right ["_law_box_here", "_law_size"] (defScope s_law_line_right) := ⟨rfl, rfl, rfl, by decide +kernel, rfl, by decide +kernel, by decide +kernel⟩
theorem ok_law_line_right {f : Addr} {fd : FuncData} (F : Fun K "_law_line_right" "_law_line_right" s_law_line_right f fd) (B : Bi mg) {f_law_take : Addr} {e_law_take : FuncData} (c_law_take : Cal P w K mg base "_law_take" 2 ["_law_box_here", "_law_span"] (spD 2 p_law_take) f_law_take e_law_take) {f_word_to : Addr} {e_word_to : FuncData} (c_word_to : Cal P w K mg base "word_to" 7 ["state", "goal"] (spD 2 p_word_to) f_word_to e_word_to) {f_law_shouted : Addr} {e_law_shouted : FuncData} (c_law_shouted : Cal P w K mg base "_law_shouted" 1 ["_law_here", "_law_shouts"] (spD 2 p_law_shouted) f_law_shouted e_law_shouted) {f_is_word_to : Addr} {e_is_word_to : FuncData} (c_is_word_to : Cal P w K mg base "is_word_to" 4 ["state", "goal", "value"] (spD 3 p_is_word_to) f_is_word_to e_is_word_to) {f_leads : Addr} {e_leads : FuncData} (c_leads : Cal P w K mg base "leads" 6 ["state", "goal"] (spD 2 p_leads) f_leads e_leads) {f_law_same : Addr} {e_law_same : FuncData} (c_law_same : Cal P w K mg base "_law_same" 4 ["_law_found", "_law_due"] (spD 2 (p_law_same_2 3)) f_law_same e_law_same) {f_obstacle : Addr} {e_obstacle : FuncData} (c_obstacle : Cal P w K mg base "obstacle" 5 ["state", "goal"] (spD 2 p_obstacle) f_obstacle e_obstacle)    : FnOk P w K mg base CX0 8 f fd ["_law_box_here", "_law_size"] (spD 2 p_law_line_right) := by
  refine okD (k := 7) F sc_law_line_right rfl (fun cdv A outer s H E hr => ?_) m_law_line_right
  exact ⟨_, (pss_cons (ps_set (i := 2) sc_law_line_right.nd rfl (by first | exact Or.inl rfl | exact Or.inr rfl) (pe_callTy (tupleK (K := K) rfl) (by rfl) B.tuple (by decide +kernel) (pa_cons (pe_op (addK (K := K) rfl) (pe_lst (pa_cons pe_int pa_nil)) (pe_listRg rfl (by rfl) B.list (prg_1 (by rfl) B.range (pe_op op_sub (pv 1) pe_int)))) pa_nil)))
      (pss_cons (ps_set (i := 3) sc_law_line_right.nd rfl (by first | exact Or.inl rfl | exact Or.inr rfl) (pe_callTy (tupleK (K := K) rfl) (by rfl) B.tuple (by decide +kernel) (pa_cons (pe_op (addK (K := K) rfl) (pe_lst (pa_cons pe_int pa_nil)) (pe_lc (own := [("_law_who", 4)]) (by rfl) sc_law_line_right.nd (pi_range2 (by rfl) B.range (pa_cons pe_int (pa_cons (pv 1) pa_nil))) (blkOk_by (own := [("_law_who", 4)]) (N := n_law_line_right) (sc := (defScope s_law_line_right)) (by decide +kernel)) (fun _ _ _ _ _ => (pg_name (i := 4) sc_law_line_right.nd rfl (by first | exact Or.inl rfl | exact Or.inr rfl))) (fun _ _ _ _ _ => pts_nil) (fun _ _ _ _ _ => (pe_call c_law_take.ok (hr.mono (by decide)) (by rfl) c_law_take.g c_law_take.kp c_law_take.bd .nil pass0 (pa_cons (pv 0) (pa_cons (pv 4) pa_nil)))))) pa_nil)))
      (pss_cons (ps_set (i := 5) sc_law_line_right.nd rfl (by first | exact Or.inl rfl | exact Or.inr rfl) (pe_call c_word_to.ok (hr.mono (by decide)) (by rfl) c_word_to.g c_word_to.kp c_word_to.bd .nil pass0 (pa_cons (pv 2) (pa_cons (pv 3) pa_nil))))
      (pss_cons (ps_set (i := 6) sc_law_line_right.nd rfl (by first | exact Or.inl rfl | exact Or.inr rfl) (pe_lst (pa_cons (pe_call c_leads.ok (hr.mono (by decide)) (by rfl) c_leads.g c_leads.kp c_leads.bd .nil pass0 (pa_cons (pv 2) (pa_cons (pv 3) pa_nil))) (pa_cons (pe_call c_is_word_to.ok (hr.mono (by decide)) (by rfl) c_is_word_to.g c_is_word_to.kp c_is_word_to.bd .nil pass0 (pa_cons (pv 2) (pa_cons (pv 3) (pa_cons (pv 5) pa_nil)))) (pa_cons (pe_call c_law_shouted.ok (hr.mono (by decide)) (by rfl) c_law_shouted.g c_law_shouted.kp c_law_shouted.bd .nil pass0 (pa_cons (pv 2) (pa_cons (pv 5) pa_nil))) pa_nil)))))
      (pss_cons (ps_if (pt_not (pt_truth (pe_call c_law_same.ok (hr.mono (by decide)) (by rfl) c_law_same.g c_law_same.kp c_law_same.bd .nil pass0 (pa_cons (pv 6) (pa_cons (pe_lst (pa_cons pe_bl (pa_cons pe_bl (pa_cons (pv 3) pa_nil)))) pa_nil))) (by intro _; rfl))) (pss_one (ps_ret pe_bl)) pss_nil)
      (pss_cons (ps_set (i := 7) sc_law_line_right.nd rfl (by first | exact Or.inl rfl | exact Or.inr rfl) (pe_op (addK (K := K) rfl) (pe_slice (slK (K := K) rfl) (pv 3) po_none (po_some (pe_un un_neg pe_int))) (pe_tupS (pa_cons (pe_op op_sub (pv 1) pe_int) pa_nil))))
      (pss_cons (ps_set (i := 6) sc_law_line_right.nd rfl (by first | exact Or.inl rfl | exact Or.inr rfl) (pe_lst (pa_cons (pe_call c_obstacle.ok (hr.mono (by decide)) (by rfl) c_obstacle.g c_obstacle.kp c_obstacle.bd .nil pass0 (pa_cons (pv 2) (pa_cons (pv 7) pa_nil))) (pa_cons (pe_call c_obstacle.ok (hr.mono (by decide)) (by rfl) c_obstacle.g c_obstacle.kp c_obstacle.bd .nil pass0 (pa_cons (pv 2) (pa_cons (pe_op (addK (K := K) rfl) (pe_tupS (pa_cons pe_int pa_nil)) (pe_slice (slK (K := K) rfl) (pv 3) (po_some pe_int) po_none)) pa_nil))) (pa_cons (pe_call c_obstacle.ok (hr.mono (by decide)) (by rfl) c_obstacle.g c_obstacle.kp c_obstacle.bd .nil pass0 (pa_cons (pv 3) (pa_cons (pv 3) pa_nil))) pa_nil)))))
      (pss_cons (ps_expr (bmK (K := K) rfl (pe_bm PySem.F.plainAttrs_list PySem.F.slot_list_append PySem.F.type_list_append mt_append (pv 6) (pa_cons (pe_call c_is_word_to.ok (hr.mono (by decide)) (by rfl) c_is_word_to.g c_is_word_to.kp c_is_word_to.bd .nil pass0 (pa_cons (pv 2) (pa_cons (pv 2) (pa_cons (pe_call c_word_to.ok (hr.mono (by decide)) (by rfl) c_word_to.g c_word_to.kp c_word_to.bd .nil pass0 (pa_cons (pv 2) (pa_cons (pv 2) pa_nil))) pa_nil)))) pa_nil))))
      (pss_one (ps_ret (pe_call c_law_same.ok (hr.mono (by decide)) (by rfl) c_law_same.g c_law_same.kp c_law_same.bd .nil pass0 (pa_cons (pv 6) (pa_cons (pe_lst (pa_cons (pe_tupS (pa_cons pe_str (pa_cons (pe_op op_sub (pv 1) pe_int) pa_nil))) (pa_cons (pe_tupS (pa_cons pe_str (pa_cons pe_int pa_nil))) (pa_cons pe_non (pa_cons pe_bl pa_nil))))) pa_nil))))))))))))),
    (ss_seq (ss_set false (se_cb rc_tuple (sa_cons (se_op r2_add (se_lst (sa_cons se_int sa_nil)) (se_listRg (se_op r2_I se_var se_int))) sa_nil)))
      (ss_seq (ss_set false (se_cb rc_tuple (sa_cons (se_op r2_add (se_lst (sa_cons se_int sa_nil)) (se_lc (si_rng2 (sa_cons se_int (sa_cons se_var sa_nil))) sg_name st_yes (se_call mon_law_take (sa_cons se_var (sa_cons se_var sa_nil))))) sa_nil)))
      (ss_seq (ss_set false (se_call mon_word_to (sa_cons se_var (sa_cons se_var sa_nil))))
      (ss_seq (ss_set true (se_lst (sa_cons (se_call mon_leads (sa_cons se_var (sa_cons se_var sa_nil))) (sa_cons (se_call mon_is_word_to (sa_cons se_var (sa_cons se_var (sa_cons se_var sa_nil)))) (sa_cons (se_call mon_law_shouted (sa_cons se_var (sa_cons se_var sa_nil))) sa_nil)))))
      (ss_seq (ss_if (st_not (st_truth (se_call (mon_law_same_2 3) (sa_cons se_var (sa_cons (se_lst (sa_cons se_bl (sa_cons se_bl (sa_cons se_var sa_nil)))) sa_nil))))) (ss_ret se_bl) ss_next)
      (ss_seq (ss_set false (se_op r2_add (se_sl rs_sl se_var so_none (so_some (se_un ru_neg se_int))) (se_tup (sa_cons (se_op r2_I se_var se_int) sa_nil))))
      (ss_seq (ss_set true (se_lst (sa_cons (se_call mon_obstacle (sa_cons se_var (sa_cons se_var sa_nil))) (sa_cons (se_call mon_obstacle (sa_cons se_var (sa_cons (se_op r2_add (se_tup (sa_cons se_int sa_nil)) (se_sl rs_sl se_var (so_some se_int) so_none)) sa_nil))) (sa_cons (se_call mon_obstacle (sa_cons se_var (sa_cons se_var sa_nil))) sa_nil)))))
      (ss_seq (ss_append (se_call mon_is_word_to (sa_cons se_var (sa_cons se_var (sa_cons (se_call mon_word_to (sa_cons se_var (sa_cons se_var sa_nil))) sa_nil)))))
      (ss_ret (se_call (mon_law_same_2 3) (sa_cons se_var (sa_cons (se_lst (sa_cons (se_tup (sa_cons se_str (sa_cons (se_op r2_I se_var se_int) sa_nil))) (sa_cons (se_tup (sa_cons se_str (sa_cons se_int sa_nil))) (sa_cons se_non (sa_cons se_bl sa_nil))))) sa_nil))))))))))))⟩
theorem okx_check_size {f : Addr} {fd : FuncData} (F : Fun K "check_size" "check_size" s_check_size f fd) (B : Bi mg)   {C_OtherSize C_Unreachable : Addr} (r_OtherSize : Ini P w K mg base "OtherSize" "size" C_OtherSize 1) (g_OtherSize : mg "OtherSize" = some (.ref C_OtherSize))  : FnOk P w K mg base (L2.CX P w) 3 f fd ["state", "other"] (spX (clT [("OtherSize", C_OtherSize), ("Unreachable", C_Unreachable)]) 2 q_check_size) := by
  refine okDX (k := 2) (cl := (clT [("OtherSize", C_OtherSize), ("Unreachable", C_Unreachable)])) F sc_check_size rfl (fun cdv A outer s H E hr => ?_) mx_check_size
  exact ⟨_, (pss_one (ps_if (pt_cmpR (neK (K := K) rfl hr.units) (pe_callB (lenK (K := K) rfl) (by rfl) B.len (by decide +kernel) (pa_cons (pv 1) pa_nil)) (pe_callB (lenK (K := K) rfl) (by rfl) B.len (by decide +kernel) (pa_cons (pv 0) pa_nil)) (nomark _)) (pss_one (ps_raise rfl (takes_of rfl rfl rfl rfl) (pmkI (K := K) rfl r_OtherSize g_OtherSize (hr.mono (by decide)) (by rfl) (pa_cons (pe_callB (lenK (K := K) rfl) (by rfl) B.len (by decide +kernel) (pa_cons (pv 1) pa_nil)) pa_nil)))) pss_nil)),
    fun P0 Ex => (ss_if (st_test (se_op r2_ne (se_cb rc_len (sa_cons se_var sa_nil)) (se_cb rc_len (sa_cons se_var sa_nil)))) (ss_raise (by rfl) (se_cb rc_len (sa_cons se_var sa_nil))) ss_next)⟩
theorem okx_is_word_to {f : Addr} {fd : FuncData} (F : Fun K "is_word_to" "is_word_to" s_is_word_to f fd) (B : Bi mg) {f_is_person : Addr} {e_is_person : FuncData} (c_is_person : Cal P w K mg base "is_person" 1 ["value", "size"] (spD 2 p_is_person) f_is_person e_is_person) {f_called_all : Addr} {e_called_all : FuncData} (c_called_all : Cal P w K mg base "called_all" 3 ["state", "word"] (spD 2 p_called_all) f_called_all e_called_all)  {C_OtherSize C_Unreachable : Addr} {fx_check_size : Addr} {ex_check_size : FuncData} (x_check_size : CalX P w K mg base (clT [("OtherSize", C_OtherSize), ("Unreachable", C_Unreachable)]) "check_size" 3 ["state", "other"] q_check_size fx_check_size ex_check_size)  : FnOk P w K mg base (L2.CX P w) 4 f fd ["state", "goal", "value"] (spX (clT [("OtherSize", C_OtherSize), ("Unreachable", C_Unreachable)]) 3 q_is_word_to) := by
  refine okDX (k := 3) (cl := (clT [("OtherSize", C_OtherSize), ("Unreachable", C_Unreachable)])) F sc_is_word_to rfl (fun cdv A outer s H E hr => ?_) mx_is_word_to
  exact ⟨_, (pss_cons (ps_expr (pe_callS x_check_size.ok (hr.mono (by decide)) (by rfl) x_check_size.g x_check_size.kp x_check_size.bd (fun σ => passAt (takes_of rfl rfl rfl rfl) σ) (pa_cons (pv 0) (pa_cons (pv 1) pa_nil))))
      (pss_cons (ps_if (pt_not (truK (K := K) rfl (pt_truth (pe_callB (isiK (K := K) rfl) (by rfl) B.isinstance (by decide +kernel) (pa_cons (pv 2) (pa_cons (pe_bltn (v := .ty "list") (by rfl) B.list (by decide +kernel) rfl) pa_nil))) (by intro _; rfl)))) (pss_one (ps_ret pe_bl)) pss_nil)
      (pss_cons (ps_if (pt_not (truK (K := K) rfl (pt_truth (pe_callB (allK (K := K) rfl rfl) (by rfl) B.all (by decide +kernel) (pa_cons (pe_lc (own := [("item", 3)]) (by rfl) sc_is_word_to.nd (seqK (K := K) rfl (pv 2)) (blkOk_by (own := [("item", 3)]) (N := n_is_word_to) (sc := (defScope s_is_word_to)) (by decide +kernel)) (fun _ _ _ _ _ => (pg_name (i := 3) sc_is_word_to.nd rfl (by first | exact Or.inl rfl | exact Or.inr rfl))) (fun _ _ _ _ _ => pts_nil) (fun _ _ _ _ _ => (pe_call c_is_person.ok (hr.mono (by decide)) (by rfl) c_is_person.g c_is_person.kp c_is_person.bd .nil pass0 (pa_cons (pv 3) (pa_cons (pe_callB (lenK (K := K) rfl) (by rfl) B.len (by decide +kernel) (pa_cons (pv 0) pa_nil)) pa_nil))))) pa_nil)) (by intro _; rfl)))) (pss_one (ps_ret pe_bl)) pss_nil)
      (pss_one (ps_ret (pe_cmpR (eqK (K := K) rfl hr.units) (pe_call c_called_all.ok (hr.mono (by decide)) (by rfl) c_called_all.g c_called_all.kp c_called_all.bd .nil pass0 (pa_cons (pv 0) (pa_cons (pv 2) pa_nil))) (pe_callTy (tupleK (K := K) rfl) (by rfl) B.tuple (by decide +kernel) (pa_cons (pv 1) pa_nil)) (nomark _))))))),
    fun P0 Ex => (ss_seq (ss_drop (se_callX monx_check_size (sa_cons se_var (sa_cons se_var sa_nil))))
      (ss_seq (ss_if (st_not (st_truth (se_isi (.inr (.inr (.inr (.inl rfl)))) se_var))) (ss_ret se_bl) ss_next)
      (ss_seq (ss_if (st_not (st_truth (se_cb rc_all (sa_cons (se_lc (si_seq se_var) sg_name st_yes (se_call mon_is_person (sa_cons se_var (sa_cons (se_cb rc_len (sa_cons se_var sa_nil)) sa_nil)))) sa_nil)))) (ss_ret se_bl) ss_next)
      (ss_ret (se_op r2_eq (se_call mon_called_all (sa_cons se_var (sa_cons se_var sa_nil))) (se_cb rc_tuple (sa_cons se_var sa_nil)))))))⟩
theorem okx_is_obstacle {f : Addr} {fd : FuncData} (F : Fun K "is_obstacle" "is_obstacle" s_is_obstacle f fd) (B : Bi mg) {f_is_person : Addr} {e_is_person : FuncData} (c_is_person : Cal P w K mg base "is_person" 1 ["value", "size"] (spD 2 p_is_person) f_is_person e_is_person) {f_way : Addr} {e_way : FuncData} (c_way : Cal P w K mg base "way" 2 ["state", "person"] (spD 2 p_way) f_way e_way) {f_are_apart : Addr} {e_are_apart : FuncData} (c_are_apart : Cal P w K mg base "are_apart" 3 ["state", "goal", "low", "high"] (spD 4 p_are_apart) f_are_apart e_are_apart) {f_are_reversed : Addr} {e_are_reversed : FuncData} (c_are_reversed : Cal P w K mg base "are_reversed" 3 ["state", "goal", "people"] (spD 3 p_are_reversed) f_are_reversed e_are_reversed)  {C_OtherSize C_Unreachable : Addr} {fx_check_size : Addr} {ex_check_size : FuncData} (x_check_size : CalX P w K mg base (clT [("OtherSize", C_OtherSize), ("Unreachable", C_Unreachable)]) "check_size" 3 ["state", "other"] q_check_size fx_check_size ex_check_size)  : FnOk P w K mg base (L2.CX P w) 4 f fd ["state", "goal", "value"] (spX (clT [("OtherSize", C_OtherSize), ("Unreachable", C_Unreachable)]) 3 q_is_obstacle) := by
  refine okDX (k := 3) (cl := (clT [("OtherSize", C_OtherSize), ("Unreachable", C_Unreachable)])) F sc_is_obstacle rfl (fun cdv A outer s H E hr => ?_) mx_is_obstacle
  exact ⟨_, (pss_cons (ps_expr (pe_callS x_check_size.ok (hr.mono (by decide)) (by rfl) x_check_size.g x_check_size.kp x_check_size.bd (fun σ => passAt (takes_of rfl rfl rfl rfl) σ) (pa_cons (pv 0) (pa_cons (pv 1) pa_nil))))
      (pss_cons (ps_if (PW.pt (pw_or (pt_not (truK (K := K) rfl (pt_truth (pe_callB (isiK (K := K) rfl) (by rfl) B.isinstance (by decide +kernel) (pa_cons (pv 2) (pa_cons (pe_bltn (v := .ty "tuple") (by rfl) B.tuple (by decide +kernel) rfl) pa_nil))) (by intro _; rfl)))) (pw_or1 (pt_not (pt_chain op_le op_le pe_int (pe_callB (lenK (K := K) rfl) (by rfl) B.len (by decide +kernel) (pa_cons (pv 2) pa_nil)) pe_int))))) (pss_one (ps_ret pe_bl)) pss_nil)
      (pss_cons (ps_set (i := 3) sc_is_obstacle.nd rfl (by first | exact Or.inl rfl | exact Or.inr rfl) (pe_ix (ixK (K := K) rfl) (pv 2) pe_int (fun _ _ => rfl)))
      (pss_cons (ps_set (i := 4) sc_is_obstacle.nd rfl (by first | exact Or.inl rfl | exact Or.inr rfl) (pe_slice (slK (K := K) rfl) (pv 2) (po_some pe_int) po_none))
      (pss_cons (ps_if (pt_not (truK (K := K) rfl (pt_truth (pe_callB (allK (K := K) rfl rfl) (by rfl) B.all (by decide +kernel) (pa_cons (pe_lc (own := [("item", 5)]) (by rfl) sc_is_obstacle.nd (seqK (K := K) rfl (pv 4)) (blkOk_by (own := [("item", 5)]) (N := n_is_obstacle) (sc := (defScope s_is_obstacle)) (by decide +kernel)) (fun _ _ _ _ _ => (pg_name (i := 5) sc_is_obstacle.nd rfl (by first | exact Or.inl rfl | exact Or.inr rfl))) (fun _ _ _ _ _ => pts_nil) (fun _ _ _ _ _ => (pe_call c_is_person.ok (hr.mono (by decide)) (by rfl) c_is_person.g c_is_person.kp c_is_person.bd .nil pass0 (pa_cons (pv 5) (pa_cons (pe_callB (lenK (K := K) rfl) (by rfl) B.len (by decide +kernel) (pa_cons (pv 0) pa_nil)) pa_nil))))) pa_nil)) (by intro _; rfl)))) (pss_one (ps_ret pe_bl)) pss_nil)
      (pss_cons (ps_if (PW.pt (pw_and (pt_cmpR (eqK (K := K) rfl hr.units) (pv 3) pe_str (nomark _)) (pw_and1 (pt_cmpR (eqK (K := K) rfl hr.units) (pe_callB (lenK (K := K) rfl) (by rfl) B.len (by decide +kernel) (pa_cons (pv 4) pa_nil)) pe_int (nomark _))))) (pss_one (ps_ret (pe_cmpR (notInK (K := K) rfl (hu65 hr)) (pe_ix (ixK (K := K) rfl) (pv 1) (pe_ix (ixK (K := K) rfl) (pv 4) pe_int (fun _ _ => rfl)) (fun _ _ => rfl)) (pe_call c_way.ok (hr.mono (by decide)) (by rfl) c_way.g c_way.kp c_way.bd .nil pass0 (pa_cons (pv 0) (pa_cons (pe_ix (ixK (K := K) rfl) (pv 4) pe_int (fun _ _ => rfl)) pa_nil))) (by rfl)))) pss_nil)
      (pss_cons (ps_if (PW.pt (pw_and (pt_cmpR (eqK (K := K) rfl hr.units) (pv 3) pe_str (nomark _)) (pw_and1 (pt_cmpR (eqK (K := K) rfl hr.units) (pe_callB (lenK (K := K) rfl) (by rfl) B.len (by decide +kernel) (pa_cons (pv 4) pa_nil)) pe_int (nomark _))))) (pss_one (ps_ret (pe_call c_are_apart.ok (hr.mono (by decide)) (by rfl) c_are_apart.g c_are_apart.kp c_are_apart.bd .nil pass0 (pa_cons (pv 0) (pa_cons (pv 1) (pa_cons (pe_ix (ixK (K := K) rfl) (pv 4) pe_int (fun _ _ => rfl)) (pa_cons (pe_ix (ixK (K := K) rfl) (pv 4) pe_int (fun _ _ => rfl)) pa_nil))))))) pss_nil)
      (pss_cons (ps_if (PW.pt (pw_and (pt_cmpR (eqK (K := K) rfl hr.units) (pv 3) pe_str (nomark _)) (pw_and1 (pt_cmpR (eqK (K := K) rfl hr.units) (pe_callB (lenK (K := K) rfl) (by rfl) B.len (by decide +kernel) (pa_cons (pv 4) pa_nil)) pe_int (nomark _))))) (pss_one (ps_ret (pe_call c_are_reversed.ok (hr.mono (by decide)) (by rfl) c_are_reversed.g c_are_reversed.kp c_are_reversed.bd .nil pass0 (pa_cons (pv 0) (pa_cons (pv 1) (pa_cons (pv 4) pa_nil)))))) pss_nil)
      (pss_one (ps_ret pe_bl)))))))))),
    fun P0 Ex => (ss_seq (ss_drop (se_callX monx_check_size (sa_cons se_var (sa_cons se_var sa_nil))))
      (ss_seq (ss_if (st_or (st_not (st_truth (se_isi (.inr (.inr (.inr (.inr rfl)))) se_var))) (st_not (st_test (se_chain r2_B r2_B se_int (se_cb rc_len (sa_cons se_var sa_nil)) se_int)))) (ss_ret se_bl) ss_next)
      (ss_seq (ss_set false (se_op r2_ix se_var se_int))
      (ss_seq (ss_set false (se_sl rs_sl se_var (so_some se_int) so_none))
      (ss_seq (ss_if (st_not (st_truth (se_cb rc_all (sa_cons (se_lc (si_seq se_var) sg_name st_yes (se_call mon_is_person (sa_cons se_var (sa_cons (se_cb rc_len (sa_cons se_var sa_nil)) sa_nil)))) sa_nil)))) (ss_ret se_bl) ss_next)
      (ss_seq (ss_if (st_and (st_test (se_op r2_eq se_var se_str)) (st_test (se_op r2_eq (se_cb rc_len (sa_cons se_var sa_nil)) se_int))) (ss_ret (se_op r2_notIn (se_op r2_ix se_var (se_op r2_ix se_var se_int)) (se_call mon_way (sa_cons se_var (sa_cons (se_op r2_ix se_var se_int) sa_nil))))) ss_next)
      (ss_seq (ss_if (st_and (st_test (se_op r2_eq se_var se_str)) (st_test (se_op r2_eq (se_cb rc_len (sa_cons se_var sa_nil)) se_int))) (ss_ret (se_call mon_are_apart (sa_cons se_var (sa_cons se_var (sa_cons (se_op r2_ix se_var se_int) (sa_cons (se_op r2_ix se_var se_int) sa_nil)))))) ss_next)
      (ss_seq (ss_if (st_and (st_test (se_op r2_eq se_var se_str)) (st_test (se_op r2_eq (se_cb rc_len (sa_cons se_var sa_nil)) se_int))) (ss_ret (se_call mon_are_reversed (sa_cons se_var (sa_cons se_var (sa_cons se_var sa_nil))))) ss_next)
      (ss_ret se_bl)))))))))⟩
theorem okx_obstacle {f : Addr} {fd : FuncData} (F : Fun K "obstacle" "obstacle" s_obstacle f fd) (B : Bi mg) {f_first_obstacle : Addr} {e_first_obstacle : FuncData} (c_first_obstacle : Cal P w K mg base "first_obstacle" 4 ["state", "pointers"] (spD 2 p_first_obstacle) f_first_obstacle e_first_obstacle)  {C_OtherSize C_Unreachable : Addr} {fx_check_size : Addr} {ex_check_size : FuncData} (x_check_size : CalX P w K mg base (clT [("OtherSize", C_OtherSize), ("Unreachable", C_Unreachable)]) "check_size" 3 ["state", "other"] q_check_size fx_check_size ex_check_size)  : FnOk P w K mg base (L2.CX P w) 5 f fd ["state", "goal"] (spX (clT [("OtherSize", C_OtherSize), ("Unreachable", C_Unreachable)]) 2 q_obstacle) := by
  refine okDX (k := 4) (cl := (clT [("OtherSize", C_OtherSize), ("Unreachable", C_Unreachable)])) F sc_obstacle rfl (fun cdv A outer s H E hr => ?_) mx_obstacle
  exact ⟨_, (pss_cons (ps_expr (pe_callS x_check_size.ok (hr.mono (by decide)) (by rfl) x_check_size.g x_check_size.kp x_check_size.bd (fun σ => passAt (takes_of rfl rfl rfl rfl) σ) (pa_cons (pv 0) (pa_cons (pv 1) pa_nil))))
      (pss_one (ps_ret (pe_call c_first_obstacle.ok (hr.mono (by decide)) (by rfl) c_first_obstacle.g c_first_obstacle.kp c_first_obstacle.bd .nil pass0 (pa_cons (pv 0) (pa_cons (pv 1) pa_nil)))))),
    fun P0 Ex => (ss_seq (ss_drop (se_callX monx_check_size (sa_cons se_var (sa_cons se_var sa_nil))))
      (ss_ret (se_call mon_first_obstacle (sa_cons se_var (sa_cons se_var sa_nil)))))⟩
theorem okx_check_future {f : Addr} {fd : FuncData} (F : Fun K "check_future" "check_future" s_check_future f fd) (B : Bi mg)   {C_OtherSize C_Unreachable : Addr} {fx_obstacle : Addr} {ex_obstacle : FuncData} (x_obstacle : CalX P w K mg base (clT [("OtherSize", C_OtherSize), ("Unreachable", C_Unreachable)]) "obstacle" 5 ["state", "goal"] q_obstacle fx_obstacle ex_obstacle) (r_Unreachable : Ini P w K mg base "Unreachable" "obstacle" C_Unreachable 2) (g_Unreachable : mg "Unreachable" = some (.ref C_Unreachable))  : FnOk P w K mg base (L2.CX P w) 6 f fd ["state", "goal"] (spX (clT [("OtherSize", C_OtherSize), ("Unreachable", C_Unreachable)]) 2 q_check_future) := by
  refine okDX (k := 5) (cl := (clT [("OtherSize", C_OtherSize), ("Unreachable", C_Unreachable)])) F sc_check_future rfl (fun cdv A outer s H E hr => ?_) mx_check_future
  exact ⟨_, (pss_cons (ps_set (i := 2) sc_check_future.nd rfl (by first | exact Or.inl rfl | exact Or.inr rfl) (pe_callS x_obstacle.ok (hr.mono (by decide)) (by rfl) x_obstacle.g x_obstacle.kp x_obstacle.bd (fun σ => passAt (takes_of rfl rfl rfl rfl) σ) (pa_cons (pv 0) (pa_cons (pv 1) pa_nil))))
      (pss_one (ps_if (pt_cmpR op_notN (pv 2) pe_non (nomark _)) (pss_one (ps_raise rfl (takes_of rfl rfl rfl rfl) (pmkI (K := K) rfl r_Unreachable g_Unreachable (hr.mono (by decide)) (by rfl) (pa_cons (pv 2) pa_nil)))) pss_nil))),
    fun P0 Ex => (ss_seq (ss_set false (se_callX monx_obstacle (sa_cons se_var (sa_cons se_var sa_nil))))
      (ss_if (st_test (se_op r2_notN se_var se_non)) (ss_raise (by rfl) se_var) ss_next))⟩
theorem okx_word_to {f : Addr} {fd : FuncData} (F : Fun K "word_to" "word_to" s_word_to f fd) (B : Bi mg) {f_outside_calls : Addr} {e_outside_calls : FuncData} (c_outside_calls : Cal P w K mg base "outside_calls" 3 ["state", "goal"] (spD 2 p_outside_calls) f_outside_calls e_outside_calls) {f_rings : Addr} {e_rings : FuncData} (c_rings : Cal P w K mg base "rings" 3 ["state"] (spD 1 p_rings) f_rings e_rings) {f_ring_calls : Addr} {e_ring_calls : FuncData} (c_ring_calls : Cal P w K mg base "ring_calls" 3 ["ring", "goal"] (spD 2 p_ring_calls) f_ring_calls e_ring_calls)  {C_OtherSize C_Unreachable : Addr} {fx_check_future : Addr} {ex_check_future : FuncData} (x_check_future : CalX P w K mg base (clT [("OtherSize", C_OtherSize), ("Unreachable", C_Unreachable)]) "check_future" 6 ["state", "goal"] q_check_future fx_check_future ex_check_future)  : FnOk P w K mg base (L2.CX P w) 7 f fd ["state", "goal"] (spX (clT [("OtherSize", C_OtherSize), ("Unreachable", C_Unreachable)]) 2 q_word_to) := by
  refine okDX (k := 6) (cl := (clT [("OtherSize", C_OtherSize), ("Unreachable", C_Unreachable)])) F sc_word_to rfl (fun cdv A outer s H E hr => ?_) mx_word_to
  exact ⟨_, (pss_cons (ps_expr (pe_callS x_check_future.ok (hr.mono (by decide)) (by rfl) x_check_future.g x_check_future.kp x_check_future.bd (fun σ => passAt (takes_of rfl rfl rfl rfl) σ) (pa_cons (pv 0) (pa_cons (pv 1) pa_nil))))
      (pss_cons (ps_set (i := 2) sc_word_to.nd rfl (by first | exact Or.inl rfl | exact Or.inr rfl) (pe_call c_outside_calls.ok (hr.mono (by decide)) (by rfl) c_outside_calls.g c_outside_calls.kp c_outside_calls.bd .nil pass0 (pa_cons (pv 0) (pa_cons (pv 1) pa_nil))))
      (pss_cons (ps_for (passes_of rfl) rfl (seqK (K := K) rfl (pe_call c_rings.ok (hr.mono (by decide)) (by rfl) c_rings.g c_rings.kp c_rings.bd .nil pass0 (pa_cons (pv 0) pa_nil))) (pg_name (i := 3) sc_word_to.nd rfl (by first | exact Or.inl rfl | exact Or.inr rfl)) (pss_one (ps_aug (i := 2) sc_word_to.nd rfl (by first | exact Or.inl rfl | exact Or.inr rfl) (pe_call c_ring_calls.ok (hr.mono (by decide)) (by rfl) c_ring_calls.g c_ring_calls.kp c_ring_calls.bd .nil pass0 (pa_cons (pv 3) (pa_cons (pv 1) pa_nil))) (ipR iop_ext))))
      (pss_one (ps_ret (pv 2)))))),
    fun P0 Ex => (ss_seq (ss_drop (se_callX monx_check_future (sa_cons se_var (sa_cons se_var sa_nil))))
      (ss_seq (ss_set true (se_call mon_outside_calls (sa_cons se_var (sa_cons se_var sa_nil))))
      (ss_seq (ss_for (si_seq (se_call mon_rings (sa_cons se_var sa_nil))) sg_name (ss_ext (se_call mon_ring_calls (sa_cons se_var (sa_cons se_var sa_nil)))))
      (ss_ret se_var))))⟩
theorem okx_leads {f : Addr} {fd : FuncData} (F : Fun K "leads" "leads" s_leads f fd) (B : Bi mg)   {C_OtherSize C_Unreachable : Addr} {fx_obstacle : Addr} {ex_obstacle : FuncData} (x_obstacle : CalX P w K mg base (clT [("OtherSize", C_OtherSize), ("Unreachable", C_Unreachable)]) "obstacle" 5 ["state", "goal"] q_obstacle fx_obstacle ex_obstacle)  : FnOk P w K mg base (L2.CX P w) 6 f fd ["state", "goal"] (spX (clT [("OtherSize", C_OtherSize), ("Unreachable", C_Unreachable)]) 2 q_leads) := by
  refine okDX (k := 5) (cl := (clT [("OtherSize", C_OtherSize), ("Unreachable", C_Unreachable)])) F sc_leads rfl (fun cdv A outer s H E hr => ?_) mx_leads
  exact ⟨_, (pss_one (ps_ret (pe_cmpR op_isN (pe_callS x_obstacle.ok (hr.mono (by decide)) (by rfl) x_obstacle.g x_obstacle.kp x_obstacle.bd (fun σ => passAt (takes_of rfl rfl rfl rfl) σ) (pa_cons (pv 0) (pa_cons (pv 1) pa_nil))) pe_non (nomark _)))),
    fun P0 Ex => (ss_ret (se_op r2_isN (se_callX monx_obstacle (sa_cons se_var (sa_cons se_var sa_nil))) se_non))⟩
abbrev s_law_size_right : Stmt := topS 45
abbrev n_law_size_right : List Str := ["_law_sort", "_law_here", "_law_there", "_law_caught", "_law_fine", "error"]
theorem sc_law_size_right : FnScope n_law_size_right ["_law_sort", "_law_here", "_law_there"] (defScope s_law_size_right) := ⟨rfl, rfl, rfl, by decide +kernel, rfl, by decide +kernel, by decide +kernel⟩
theorem ok_law_size_right {f : Addr} {fd : FuncData} (F : Fun K "_law_size_right" "_law_size_right" s_law_size_right f fd) (B : Bi mg) {f_law_same : Addr} {e_law_same : FuncData} (c_law_same : Cal P w K mg base "_law_same" 4 ["_law_found", "_law_due"] (spD 2 (p_law_same_2 3)) f_law_same e_law_same)  {C_NoPerson C_OtherSize C_Unreachable : Addr} (xcs : AllL (fun _ C => ExcC K C) [("OtherSize", C_OtherSize), ("Unreachable", C_Unreachable)]) (g_OtherSize : mg "OtherSize" = some (.ref C_OtherSize)) (g_NoPerson : mg "NoPerson" = some (.ref C_NoPerson)) (g_Unreachable : mg "Unreachable" = some (.ref C_Unreachable)) (e_OtherSize_NoPerson_Unreachable : AllL (fun n C => (["OtherSize", "NoPerson", "Unreachable"] : List Str).contains n = true → PySem.W.exmAny K (.ref C) [.ref C_OtherSize, .ref C_NoPerson, .ref C_Unreachable] = some true) [("OtherSize", C_OtherSize), ("Unreachable", C_Unreachable)]) {fx_leads : Addr} {ex_leads : FuncData} (x_leads : CalX P w K mg base (clT [("OtherSize", C_OtherSize), ("Unreachable", C_Unreachable)]) "leads" 6 ["state", "goal"] q_leads fx_leads ex_leads) {fx_obstacle : Addr} {ex_obstacle : FuncData} (x_obstacle : CalX P w K mg base (clT [("OtherSize", C_OtherSize), ("Unreachable", C_Unreachable)]) "obstacle" 5 ["state", "goal"] q_obstacle fx_obstacle ex_obstacle) {fx_word_to : Addr} {ex_word_to : FuncData} (x_word_to : CalX P w K mg base (clT [("OtherSize", C_OtherSize), ("Unreachable", C_Unreachable)]) "word_to" 7 ["state", "goal"] q_word_to fx_word_to ex_word_to) {fx_is_obstacle : Addr} {ex_is_obstacle : FuncData} (x_is_obstacle : CalX P w K mg base (clT [("OtherSize", C_OtherSize), ("Unreachable", C_Unreachable)]) "is_obstacle" 4 ["state", "goal", "value"] q_is_obstacle fx_is_obstacle ex_is_obstacle) {fx_is_word_to : Addr} {ex_is_word_to : FuncData} (x_is_word_to : CalX P w K mg base (clT [("OtherSize", C_OtherSize), ("Unreachable", C_Unreachable)]) "is_word_to" 4 ["state", "goal", "value"] q_is_word_to fx_is_word_to ex_is_word_to) (i_OtherSize : AllL (fun n C => PySem.W.kitOne K (.ref C) (.ref C_OtherSize) = some (subX n "OtherSize")) [("OtherSize", C_OtherSize), ("Unreachable", C_Unreachable)]) (j_OtherSize : PySem.W.kitOne K (.type "NoneType") (.ref C_OtherSize) = some false) (i_ValueError : AllL (fun n C => PySem.W.kitOne K (.ref C) (.type "ValueError") = some (subX n "ValueError")) [("OtherSize", C_OtherSize), ("Unreachable", C_Unreachable)]) (j_ValueError : PySem.W.kitOne K (.type "NoneType") (.type "ValueError") = some false) (z_ValueError : mg "ValueError" = none) (i_NoPerson_Unreachable : AllL (fun n C => PySem.W.kitAny K (.ref C) [.ref C_NoPerson, .ref C_Unreachable] = some ((["NoPerson", "Unreachable"] : List Str).any (subX n))) [("OtherSize", C_OtherSize), ("Unreachable", C_Unreachable)]) (j_NoPerson_Unreachable : PySem.W.kitAny K (.type "NoneType") [.ref C_NoPerson, .ref C_Unreachable] = some false) (at_size : AllL (fun _ C => XfC K C ∧ PySem.W.findIn K (.ref C) "size" = some none) [("OtherSize", C_OtherSize), ("Unreachable", C_Unreachable)])  : FnOk P w K mg base CX0 8 f fd ["_law_sort", "_law_here", "_law_there"] (spD 3 p_law_size_right) := by
  refine okDC (cl := (clT [("OtherSize", C_OtherSize), ("Unreachable", C_Unreachable)])) (k := 7) F sc_law_size_right rfl (fun cdv A outer s H E hr => ?_) m_law_size_right
  exact ⟨_, (pss_cons (ps_set (i := 3) sc_law_size_right.nd rfl (by first | exact Or.inl rfl | exact Or.inr rfl) pe_non)
      (pss_cons (ps_try_tup (i := 5) (ts := fun _ _ _ => tAsg (tVar 5) (gName 3)) rfl rfl sc_law_size_right.nd rfl rfl rfl (tst_3 ⟨by rfl, by decide, .inl g_OtherSize⟩ ⟨by rfl, by decide, .inl g_NoPerson⟩ ⟨by rfl, by decide, .inl g_Unreachable⟩) (fun W pn xe tk1 pw1 => (pss_one (ps_if (pt_cmpR op_lt (pv 0) pe_int (nomark _)) (pss_one (ps_expr (pe_pick (K := K) (ixK (K := K) rfl) (fun σ => passAt tk1 σ) (pks_cons x_leads.ok (hr.mono (by decide)) (by rfl) x_leads.g x_leads.kp x_leads.bd (pks_cons x_obstacle.ok (hr.mono (by decide)) (by rfl) x_obstacle.g x_obstacle.kp x_obstacle.bd (pks_cons x_word_to.ok (hr.mono (by decide)) (by rfl) x_word_to.g x_word_to.kp x_word_to.bd pks_nil))) (pv 0) (fun _ _ => rfl) (pa_cons (pv 1) (pa_cons (pv 2) pa_nil))))) (pss_one (ps_expr (pe_pick (K := K) (ixK (K := K) rfl) (fun σ => passAt tk1 σ) (pks_cons x_is_obstacle.ok (hr.mono (by decide)) (by rfl) x_is_obstacle.g x_is_obstacle.kp x_is_obstacle.bd (pks_cons x_is_word_to.ok (hr.mono (by decide)) (by rfl) x_is_word_to.g x_is_word_to.kp x_is_word_to.bd pks_nil)) (pe_op op_sub (pv 0) pe_int) (fun _ _ => rfl) (pa_cons (pv 1) (pa_cons (pv 2) (pa_cons pe_non pa_nil))))))))) (fun a oe cls d pn hz hf => pss_one (ps_set (i := 3) sc_law_size_right.nd rfl (by first | exact Or.inl rfl | exact Or.inr rfl) (pv 5))))
      (pss_cons (ps_set (i := 4) sc_law_size_right.nd rfl (by first | exact Or.inl rfl | exact Or.inr rfl) (pe_and (pe_callB (isXK (K := K) rfl) (by rfl) B.isinstance (by decide +kernel) (pa_cons (pv 3) (pa_cons (pe_glob (v := .ref C_OtherSize) (by rfl) g_OtherSize rfl) pa_nil))) (pe_one (pe_callB (isXK (K := K) rfl) (by rfl) B.isinstance (by decide +kernel) (pa_cons (pv 3) (pa_cons (pe_bltn (v := .ty "ValueError") (by rfl) z_ValueError (by decide +kernel) rfl) pa_nil))))))
      (pss_one (ps_ret (pe_and (pv 4) (pe_and (pe_not (pe_callB (isXTK (K := K) rfl) (by rfl) B.isinstance (by decide +kernel) (pa_cons (pv 3) (pa_cons (pe_tup (pa_cons (pe_glob (v := .ref C_NoPerson) (by rfl) g_NoPerson rfl) (pa_cons (pe_glob (v := .ref C_Unreachable) (by rfl) g_Unreachable rfl) pa_nil))) pa_nil)))) (pe_one (pe_call c_law_same.ok (hr.mono (by decide)) (by rfl) c_law_same.g c_law_same.kp c_law_same.bd .nil pass0 (pa_cons (xgK (K := K) rfl (pe_xg (pv 3))) (pa_cons (pe_callB (lenK (K := K) rfl) (by rfl) B.len (by decide +kernel) (pa_cons (pv 2) pa_nil)) pa_nil))))))))))),
    (ss_seq (ss_set false se_non)
      (ss_seq (ss_try (fun nm C h1 h2 => allL e_OtherSize_NoPerson_Unreachable nm C h2 h1) (fun P0 W Ex1 => (ss_if (st_test (se_op r2_B se_var se_int)) (ss_drop (se_pickX (axc monx_leads (axc monx_obstacle (axc monx_word_to axn))) se_var (sa_cons se_var (sa_cons se_var sa_nil)))) (ss_drop (se_pickX (axc monx_is_obstacle (axc monx_is_word_to axn)) (se_op r2_I se_var se_int) (sa_cons se_var (sa_cons se_var (sa_cons se_non sa_nil))))))))
      (ss_seq (ss_set false (se_andV (se_isX (allL xcs) (.own C_OtherSize) (allL i_OtherSize) j_OtherSize se_var) (se_isX (allL xcs) (.ty "ValueError") (allL i_ValueError) j_ValueError se_var)))
      (ss_ret (se_andV se_var (se_andV (se_notV (se_isXT (cs := [.ref C_NoPerson, .ref C_Unreachable]) (allL xcs) (.cons (.own C_NoPerson) (.cons (.own C_Unreachable) .nil)) (allL i_NoPerson_Unreachable) j_NoPerson_Unreachable se_var (hl := (by decide : 2 ≤ PySem.sizeLine)))) (se_call (mon_law_same_2 3) (sa_cons (se_attr (allL at_size) se_var) (sa_cons (se_cb rc_len (sa_cons se_var sa_nil)) sa_nil)))))))))⟩
abbrev s_law_right : Stmt := topS 46
abbrev n_law_right : List Str := ["_law_box_here", "_law_size", "_law_here", "_law_there", "_law_sort"]
theorem sc_law_right : FnScope n_law_right ["_law_box_here"] (defScope s_law_right) := ⟨rfl, rfl, rfl, by decide +kernel, rfl, by decide +kernel, by decide +kernel⟩
theorem ok_law_right {f : Addr} {fd : FuncData} (F : Fun K "_law_right" "_law_right" s_law_right f fd) (B : Bi mg) {f_law_take : Addr} {e_law_take : FuncData} (c_law_take : Cal P w K mg base "_law_take" 2 ["_law_box_here", "_law_span"] (spD 2 p_law_take) f_law_take e_law_take) {f_law_ring_right : Addr} {e_law_ring_right : FuncData} (c_law_ring_right : Cal P w K mg base "_law_ring_right" 7 ["_law_size"] (spD 1 p_law_ring_right) f_law_ring_right e_law_ring_right) {f_law_line_right : Addr} {e_law_line_right : FuncData} (c_law_line_right : Cal P w K mg base "_law_line_right" 8 ["_law_box_here", "_law_size"] (spD 2 p_law_line_right) f_law_line_right e_law_line_right) {f_law_of : Addr} {e_law_of : FuncData} (c_law_of : Cal P w K mg base "_law_of" 3 ["_law_box_here", "_law_some"] (spD 2 p_law_pick) f_law_of e_law_of) {f_law_size_right : Addr} {e_law_size_right : FuncData} (c_law_size_right : Cal P w K mg base "_law_size_right" 8 ["_law_sort", "_law_here", "_law_there"] (spD 3 p_law_size_right) f_law_size_right e_law_size_right)    : FnOk P w K mg base CX0 9 f fd ["_law_box_here"] (spD 1 p_k15_law_right) := by
  refine okD (k := 8) F sc_law_right rfl (fun cdv A outer s H E hr => ?_) m_k15_law_right
  exact ⟨_, (pss_cons (ps_set (i := 1) sc_law_right.nd rfl (by first | exact Or.inl rfl | exact Or.inr rfl) (pe_op (addK (K := K) rfl) pe_int (pe_call c_law_take.ok (hr.mono (by decide)) (by rfl) c_law_take.g c_law_take.kp c_law_take.bd .nil pass0 (pa_cons (pv 0) (pa_cons pe_int pa_nil)))))
      (pss_cons (ps_if (PW.pt (pw_or (pt_not (pt_truth (pe_call c_law_ring_right.ok (hr.mono (by decide)) (by rfl) c_law_ring_right.g c_law_ring_right.kp c_law_ring_right.bd .nil pass0 (pa_cons (pv 1) pa_nil)) (by intro _; rfl))) (pw_or1 (pt_not (pt_truth (pe_call c_law_line_right.ok (hr.mono (by decide)) (by rfl) c_law_line_right.g c_law_line_right.kp c_law_line_right.bd .nil pass0 (pa_cons (pv 0) (pa_cons (pv 1) pa_nil))) (by intro _; rfl)))))) (pss_one (ps_ret pe_bl)) pss_nil)
      (pss_cons (ps_asg (pe_tupS (pa_cons (pe_op (mulZK (K := K) rfl) (pe_tupS (pa_cons pe_int pa_nil)) (pv 1)) (pa_cons (pe_op (mulZK (K := K) rfl) (pe_tupS (pa_cons pe_int pa_nil)) (pe_call c_law_of.ok (hr.mono (by decide)) (by rfl) c_law_of.g c_law_of.kp c_law_of.bd .nil pass0 (pa_cons (pv 0) (pa_cons (pe_lst (pa_cons pe_int (pa_cons (pe_op op_sub (pv 1) pe_int) (pa_cons (pe_op (addK (K := K) rfl) (pv 1) pe_int) (pa_cons (pe_op op_mulA pe_int (pv 1)) pa_nil))))) pa_nil)))) pa_nil))) (gtupK (K := K) rfl (pg_tup rfl (pgs_cons (pg_name (i := 2) sc_law_right.nd rfl (by first | exact Or.inl rfl | exact Or.inr rfl)) (pgs_cons (pg_name (i := 3) sc_law_right.nd rfl (by first | exact Or.inl rfl | exact Or.inr rfl)) pgs_nil)))))
      (pss_one (ps_ret (pe_callB (allK (K := K) rfl rfl) (by rfl) B.all (by decide +kernel) (pa_cons (pe_lc (own := [("_law_sort", 4)]) (by rfl) sc_law_right.nd (pi_range1 (by rfl) B.range (pa_cons pe_int pa_nil)) (blkOk_by (own := [("_law_sort", 4)]) (N := n_law_right) (sc := (defScope s_law_right)) (by decide +kernel)) (fun _ _ _ _ _ => (pg_name (i := 4) sc_law_right.nd rfl (by first | exact Or.inl rfl | exact Or.inr rfl))) (fun _ _ _ _ _ => pts_nil) (fun _ _ _ _ _ => (pe_call c_law_size_right.ok (hr.mono (by decide)) (by rfl) c_law_size_right.g c_law_size_right.kp c_law_size_right.bd .nil pass0 (pa_cons (pv 4) (pa_cons (pv 2) (pa_cons (pv 3) pa_nil)))))) pa_nil))))))),
    (ss_seq (ss_set false (se_op r2_add se_int (se_call mon_law_take (sa_cons se_var (sa_cons se_int sa_nil)))))
      (ss_seq (ss_if (st_or (st_not (st_truth (se_call mon_law_ring_right (sa_cons se_var sa_nil)))) (st_not (st_truth (se_call mon_law_line_right (sa_cons se_var (sa_cons se_var sa_nil)))))) (ss_ret se_bl) ss_next)
      (ss_seq (ss_parT (se_op r2_mulZ (se_tup (sa_cons se_int sa_nil)) se_var) (se_op r2_mulZ (se_tup (sa_cons se_int sa_nil)) (se_call mon_law_pick (sa_cons se_var (sa_cons (se_lst (sa_cons se_int (sa_cons (se_op r2_I se_var se_int) (sa_cons (se_op r2_add se_var se_int) (sa_cons (se_op r2_mul se_int se_var) sa_nil))))) sa_nil)))))
      (ss_ret (se_cb rc_all (sa_cons (se_lc (si_rng1 (sa_cons se_int sa_nil)) sg_name st_yes (se_call mon_law_size_right (sa_cons se_var (sa_cons se_var (sa_cons se_var sa_nil))))) sa_nil))))))⟩
abbrev s_law : Stmt := topS 47
abbrev nLaw : List Str := ["_law_script", "_law_cells_here", "_law_k", "_law_box_here", "_law_turn"]
theorem scLaw : FnScope nLaw ["_law_script"] (defScope s_law) := ⟨rfl, rfl, rfl, by decide +kernel, rfl, by decide +kernel, by decide +kernel⟩
theorem ok_law {f fC fB fR : Addr} {fd fdC fdB fdR : FuncData} (F : Fun K "law" "law" s_law f fd) (B : Bi mg) (C : Cal P w K mg base "_law_cells" 1 ["_law_script", "_law_most"] (spCells K) fC fdC)
    (X : Cal P w K mg base "_law_box" 1 ["_law_script", "_law_k"] (spBox K) fB fdB) (R : Cal P w K mg base "_law_right" 9 ["_law_box_here"] (spD 1 p_k15_law_right) fR fdR) : FnOk P w K mg base CX0 10 f fd ["_law_script"] (spLaw K) := by
  refine Fun.ok (k := 9) F scLaw (fun vs H Q E h => ?_) (fun cdv A outer s H vs Q E hr h => ?_)
  · obtain ⟨a, ns, rfl, _⟩ := h
    rfl
  · obtain ⟨a, ns, rfl, hS, hl, q⟩ := h
    refine ⟨_, pss_cons (ps_set (i := 1) scLaw.nd rfl (.inl rfl) (pe_call C.ok (hr.mono (by decide)) (by rfl) C.g C.kp C.bd .nil pass0 (pa_cons (pv 0) (pa_cons pe_int pa_nil))))
      (pss_cons (ps_for PassesOwn.never rfl (pi_range1 (by rfl) B.range (pa_cons (pe_callB call_len_seq (by rfl) B.len PySem.boot_len (pa_cons (pv 1) pa_nil)) pa_nil)) (pg_name (i := 2) scLaw.nd rfl (.inl rfl))
        (pss_cons (ps_set (i := 3) scLaw.nd rfl (.inr rfl) (pe_call X.ok (hr.mono (by decide)) (by rfl) X.g X.kp X.bd .nil pass0 (pa_cons (pv 1) (pa_cons (pv 2) pa_nil))))
        (pss_one (ps_if (pt_not (pt_val (pe_callB (cr_all rfl) (by rfl) B.all (by decide +kernel) (pa_cons (pe_lc (own := [("_law_turn", 4)]) (g := gName 4) (tt := tYes) (by rfl) scLaw.nd (pi_range1 (by rfl) B.range (pa_cons pe_int pa_nil)) (blkOk_by (own := [("_law_turn", 4)]) (N := nLaw) (sc := defScope s_law) (by decide +kernel))
          (fun _ _ _ _ _ => pg_name (i := 4) scLaw.nd rfl (Or.inl rfl)) (fun _ _ _ _ _ => pts_nil) (fun _ _ _ _ _ => pe_call R.ok hr (by rfl) R.g R.kp R.bd .nil pass0 (pa_cons (pv 3) pa_nil))) pa_nil)))) pss_never pss_nil))))
      (pss_one (ps_ret pe_bl))), ?_⟩
    refine ⟨.ref a, rfl, a, _, ns, rfl, hS, by decide, by decide, fun H1 cA ms s1 nc hc l1 l2 => ?_⟩
    refine ⟨.ref cA, rfl, cA, _, rfl, .inl (SqL.of hc), _, rfl, ?_, ?_, ?_⟩
    · rw [List.length_map]; omega
    · rw [List.length_map]; omega
    refine for_it (walk_range (lo := 0)) (fun _ σ H3 => ∃ y2 y3, σ = [some (.ref a), some (.ref cA), y2, y3, none] ∧ H3 cA = some (.lst (IL ms))) ?_ ?_ ?_ ?_
    · exact ⟨none, none, rfl, hc⟩
    · intros; trivial
    · rintro i x σ H0 G hi ⟨y2, y3, rfl, hcG⟩ ⟨rfl, rfl⟩
      rw [List.length_map] at hi
      refine ⟨.ref cA, rfl, .int (0 + i), rfl, cA, _, ms, rfl, SqL.of hcG, by omega, by omega, fun H4 b s4 nb hB => ?_⟩
      have hc4 := s4 _ _ hcG
      have cb : cA ≠ b := ne_of_none hcG nb
      refine ⟨_, rfl, by decide, by decide, fun D nD => ?_⟩
      have bD : b ≠ D := hB.ne nD
      have cD : cA ≠ D := ne_of_none hc4 nD
      refine lc_range (lo := 0) (fun j H5 => H5 D = some (.lst (List.replicate j (.bl true))) ∧ Box H5 b (1000000 * j) ∧ H5 cA = some (.lst (IL ms))) ⟨upd_same, (hB.new nD).le (by omega), upd_keep hc4 nD⟩ ?_ ?_
      · rintro j H5 hj ⟨hD, hB5, hc5⟩
        have hj' : j < 2 := hj
        refine ⟨rfl, yes_ok ⟨.ref b, rfl, right_do2 (E := fun _ _ _ => False) (N := 1000000) hB5 (fun Q hQ => ⟨rfl, by omega, hQ⟩) fun H6 sb6 hB6 => ?_⟩⟩
        have hD6 := sb6 D _ (Ne.symm bD) hD
        refine ⟨_, hD6, ?_, ?_, ?_, ?_⟩
        · rw [List.length_replicate]; exact szl (by omega)
        · rw [upd_same, rep_app]
        · exact (hB6.put bD).le (by omega)
        · rw [upd_ne cD]; exact sb6 cA _ cb hc5
      · rintro H5 ⟨hD, hB5, hc5⟩
        refine ⟨D, List.replicate 2 true, rfl, ?_, true, ?_, iteF ⟨_, _, rfl, hc5⟩⟩
        · rw [rep_bl]; exact SqL.of hD
        · rw [rep_all]
    · rintro σ H3 ⟨y2, y3, rfl, _⟩
      exact q _

end
theorem all_mk {l : PySem.W.OpenLaw} {w : World} {K : PySem.W.Frag} {h : Heap} {mg : Str → Option Value} {fa : Addr} (X : K.In h) (G : h.Ns mainGlobals mg) (hfa : mg "law" = some (.ref fa)) (Z : Zs K)
    (d1 : Dx K "kept" s_kept) (d6 : Dx K "is_person" s_is_person) (d7 : Dx K "check_person" s_check_person) (d8 : Dx K "route_from" s_route_from) (d9 : Dx K "turned" s_turned) (d10 : Dx K "ring_begin" s_ring_begin) (d11 : Dx K "way" s_way) (d12 : Dx K "ring_of" s_ring_of) (d13 : Dx K "rings" s_rings) (d14 : Dx K "height" s_height) (d16 : Dx K "check_word" s_check_word) (d17 : Dx K "called_all" s_called_all) (d19 : Dx K "check_size" s_check_size) (d20 : Dx K "check_future" s_check_future) (d21 : Dx K "closed_rings" s_closed_rings) (d22 : Dx K "missed_way" s_missed_way) (d23 : Dx K "second_ring" s_second_ring) (d24 : Dx K "meets_first" s_meets_first) (d25 : Dx K "order_broken" s_order_broken) (d26 : Dx K "first_obstacle" s_first_obstacle) (d27 : Dx K "obstacle" s_obstacle) (d28 : Dx K "leads" s_leads) (d29 : Dx K "are_apart" s_are_apart) (d30 : Dx K "are_reversed" s_are_reversed) (d31 : Dx K "is_obstacle" s_is_obstacle) (d32 : Dx K "outside_calls" s_outside_calls) (d33 : Dx K "ring_calls" s_ring_calls) (d34 : Dx K "word_to" s_word_to) (d35 : Dx K "is_word_to" s_is_word_to) (d37 : Dx K "_law_box" sBox) (d38 : Dx K "_law_take" sTake) (d39 : Dx K "_law_cells" sCells) (d40 : Dx K "_law_of" s_law_of) (d41 : Dx K "_law_same" s_law_same) (d42 : Dx K "_law_shouted" s_law_shouted) (d43 : Dx K "_law_ring_right" s_law_ring_right) (d44 : Dx K "_law_line_right" s_law_line_right) (d45 : Dx K "_law_size_right" s_law_size_right) (d46 : Dx K "_law_right" s_law_right) (d47 : Dx K "law" s_law) {C_NoPerson C_OtherSize C_Unreachable : Addr} {fI_OtherSize fI_Unreachable : Addr}  (cg_NoPerson : PySem.W.nsIn K mainGlobals "NoPerson" = some (some (.ref C_NoPerson))) (cg_OtherSize : PySem.W.nsIn K mainGlobals "OtherSize" = some (some (.ref C_OtherSize))) (cg_Unreachable : PySem.W.nsIn K mainGlobals "Unreachable" = some (some (.ref C_Unreachable))) (cf_OtherSize : ClF K C_OtherSize bm_ValueError "ValueError.__new__") (ci_OtherSize : PySem.W.findIn K (.ref C_OtherSize) "__init__" = some (some (.ref fI_OtherSize))) (ct_OtherSize : PySem.W.typeIn K (.ref fI_OtherSize) = some (.type "function")) (cn_OtherSize : PySem.W.findIn K (.ref C_OtherSize) "size" = some none) (ce_OtherSize : ∃ fd, Fun K "__init__" "OtherSize.__init__" s_init_OtherSize fI_OtherSize fd) (ca_OtherSize_size : PySem.W.findIn K (.ref C_OtherSize) "size" = some none) (cf_Unreachable : ClF K C_Unreachable bm_RuntimeError "RuntimeError.__new__") (ci_Unreachable : PySem.W.findIn K (.ref C_Unreachable) "__init__" = some (some (.ref fI_Unreachable))) (ct_Unreachable : PySem.W.typeIn K (.ref fI_Unreachable) = some (.type "function")) (cn_Unreachable : PySem.W.findIn K (.ref C_Unreachable) "obstacle" = some none) (ce_Unreachable : ∃ fd, Fun K "__init__" "Unreachable.__init__" s_init_Unreachable fI_Unreachable fd) (ca_Unreachable_size : PySem.W.findIn K (.ref C_Unreachable) "size" = some none) (cz_RuntimeError : PySem.W.nsIn K mainGlobals "RuntimeError" = some none) (cz_ValueError : PySem.W.nsIn K mainGlobals "ValueError" = some none) (cv_RuntimeError : PySem.W.findCls K (.type "RuntimeError") (.type "type") "__init__" = some (.val (.builtin "RuntimeError.__init__"))) (cv_ValueError : PySem.W.findCls K (.type "ValueError") (.type "type") "__init__" = some (.val (.builtin "ValueError.__init__"))) (e_OtherSize_NoPerson_Unreachable : AllL (fun n C => (["OtherSize", "NoPerson", "Unreachable"] : List Str).contains n = true → PySem.W.exmAny K (.ref C) [.ref C_OtherSize, .ref C_NoPerson, .ref C_Unreachable] = some true) [("OtherSize", C_OtherSize), ("Unreachable", C_Unreachable)]) (i_OtherSize : AllL (fun n C => PySem.W.kitOne K (.ref C) (.ref C_OtherSize) = some (subX n "OtherSize")) [("OtherSize", C_OtherSize), ("Unreachable", C_Unreachable)]) (j_OtherSize : PySem.W.kitOne K (.type "NoneType") (.ref C_OtherSize) = some false) (i_ValueError : AllL (fun n C => PySem.W.kitOne K (.ref C) (.type "ValueError") = some (subX n "ValueError")) [("OtherSize", C_OtherSize), ("Unreachable", C_Unreachable)]) (j_ValueError : PySem.W.kitOne K (.type "NoneType") (.type "ValueError") = some false) (i_NoPerson_Unreachable : AllL (fun n C => PySem.W.kitAny K (.ref C) [.ref C_NoPerson, .ref C_Unreachable] = some ((["NoPerson", "Unreachable"] : List Str).any (subX n))) [("OtherSize", C_OtherSize), ("Unreachable", C_Unreachable)]) (j_NoPerson_Unreachable : PySem.W.kitAny K (.type "NoneType") [.ref C_NoPerson, .ref C_Unreachable] = some false) :
    ∃ fd : FuncData, (∀ (s : Shared) (v : Value), BindsTo s fd ⟨[v], []⟩ [("_law_script", v)]) ∧ ∀ base : Heap, K.In base → base.Ns mainGlobals mg → FnOk l.prog w K mg base CX0 10 fa fd ["_law_script"] (spLaw K) := by
  have B := Z.bi X G
  obtain ⟨f1, e1, F1, g1⟩ := d1.fn X G
  obtain ⟨f6, e6, F6, g6⟩ := d6.fn X G
  obtain ⟨f7, e7, F7, g7⟩ := d7.fn X G
  obtain ⟨f8, e8, F8, g8⟩ := d8.fn X G
  obtain ⟨f9, e9, F9, g9⟩ := d9.fn X G
  obtain ⟨f10, e10, F10, g10⟩ := d10.fn X G
  obtain ⟨f11, e11, F11, g11⟩ := d11.fn X G
  obtain ⟨f12, e12, F12, g12⟩ := d12.fn X G
  obtain ⟨f13, e13, F13, g13⟩ := d13.fn X G
  obtain ⟨f14, e14, F14, g14⟩ := d14.fn X G
  obtain ⟨f16, e16, F16, g16⟩ := d16.fn X G
  obtain ⟨f17, e17, F17, g17⟩ := d17.fn X G
  obtain ⟨f19, e19, F19, g19⟩ := d19.fn X G
  obtain ⟨f20, e20, F20, g20⟩ := d20.fn X G
  obtain ⟨f21, e21, F21, g21⟩ := d21.fn X G
  obtain ⟨f22, e22, F22, g22⟩ := d22.fn X G
  obtain ⟨f23, e23, F23, g23⟩ := d23.fn X G
  obtain ⟨f24, e24, F24, g24⟩ := d24.fn X G
  obtain ⟨f25, e25, F25, g25⟩ := d25.fn X G
  obtain ⟨f26, e26, F26, g26⟩ := d26.fn X G
  obtain ⟨f27, e27, F27, g27⟩ := d27.fn X G
  obtain ⟨f28, e28, F28, g28⟩ := d28.fn X G
  obtain ⟨f29, e29, F29, g29⟩ := d29.fn X G
  obtain ⟨f30, e30, F30, g30⟩ := d30.fn X G
  obtain ⟨f31, e31, F31, g31⟩ := d31.fn X G
  obtain ⟨f32, e32, F32, g32⟩ := d32.fn X G
  obtain ⟨f33, e33, F33, g33⟩ := d33.fn X G
  obtain ⟨f34, e34, F34, g34⟩ := d34.fn X G
  obtain ⟨f35, e35, F35, g35⟩ := d35.fn X G
  obtain ⟨f37, e37, F37, g37⟩ := d37.fn X G
  obtain ⟨f38, e38, F38, g38⟩ := d38.fn X G
  obtain ⟨f39, e39, F39, g39⟩ := d39.fn X G
  obtain ⟨f40, e40, F40, g40⟩ := d40.fn X G
  obtain ⟨f41, e41, F41, g41⟩ := d41.fn X G
  obtain ⟨f42, e42, F42, g42⟩ := d42.fn X G
  obtain ⟨f43, e43, F43, g43⟩ := d43.fn X G
  obtain ⟨f44, e44, F44, g44⟩ := d44.fn X G
  obtain ⟨f45, e45, F45, g45⟩ := d45.fn X G
  obtain ⟨f46, e46, F46, g46⟩ := d46.fn X G
  obtain ⟨f47, e47, F47, g47⟩ := d47.fn X G
  have g_NoPerson := PySem.W.mg_of X G cg_NoPerson
  have g_OtherSize := PySem.W.mg_of X G cg_OtherSize
  have g_Unreachable := PySem.W.mg_of X G cg_Unreachable
  have z_RuntimeError := PySem.W.mg_none_of X G cz_RuntimeError
  have z_ValueError := PySem.W.mg_none_of X G cz_ValueError
  obtain ⟨ed_OtherSize, Fi_OtherSize⟩ := ce_OtherSize
  obtain ⟨ed_Unreachable, Fi_Unreachable⟩ := ce_Unreachable
  have xcs : AllL (fun _ C => ExcC K C) [("OtherSize", C_OtherSize), ("Unreachable", C_Unreachable)] := ⟨cf_OtherSize.xc, cf_Unreachable.xc, trivial⟩
  have at_size : AllL (fun _ C => XfC K C ∧ PySem.W.findIn K (.ref C) "size" = some none) [("OtherSize", C_OtherSize), ("Unreachable", C_Unreachable)] := ⟨⟨cf_OtherSize.xf, ca_OtherSize_size⟩, ⟨cf_Unreachable.xf, ca_Unreachable_size⟩, trivial⟩
  cases hfa.symm.trans g47
  refine ⟨e47, fun s v => ?_, fun base _ _ => ?_⟩
  · obtain ⟨oc, od, kV, doc, pm, an, cdv, ct, osl, rfl, lk, hcd⟩ := F47.ex
    exact .of_eq rfl
  · have bd38 : Binds K e38 ["_law_box_here", "_law_span"] [] := b2 F38 fun _ _ _ _ _ _ _ _ => rfl
    have u38 : Cal l.prog w K mg base "_law_take" 1 ["_law_box_here", "_law_span"] spTake f38 e38 := ⟨ok_take F38, g38, F38.kp, bd38⟩
    have t38 : Cal l.prog w K mg base "_law_take" 2 ["_law_box_here", "_law_span"] (spD 2 p_law_take) f38 e38 := ⟨FnOk.imp (ok_takeW F38 u38) fun _ _ _ _ h => take_imp h, g38, F38.kp, bd38⟩
    have bd37 : Binds K e37 ["_law_script", "_law_k"] [] := b2 F37 fun _ _ _ _ _ _ _ _ => rfl
    have t37 : Cal l.prog w K mg base "_law_box" 1 ["_law_script", "_law_k"] (spBox K) f37 e37 := ⟨ok_box F37 B, g37, F37.kp, bd37⟩
    have bd1 : Binds K e1 ["value"] [] := b1 F1 fun _ _ _ _ _ _ _ => rfl
    have t1 : Cal l.prog w K mg base "kept" 1 ["value"] spKept f1 e1 := ⟨okX_kept F1 B, g1, F1.kp, bd1⟩
    have r_OtherSize : Ini l.prog w K mg base "OtherSize" "size" C_OtherSize 1 := ⟨_, _, _, _, fI_OtherSize, ed_OtherSize, cf_OtherSize.ox_ValueError, ci_OtherSize, ct_OtherSize, ok_init_OtherSize Fi_OtherSize B z_ValueError cv_ValueError cf_OtherSize.ox_ValueError cn_OtherSize, Fi_OtherSize.binds fun kV doc pm an cdv ct us hl => match us, hl with | [u, v], _ => rfl⟩
    have r_Unreachable : Ini l.prog w K mg base "Unreachable" "obstacle" C_Unreachable 2 := ⟨_, _, _, _, fI_Unreachable, ed_Unreachable, cf_Unreachable.ox_RuntimeError, ci_Unreachable, ct_Unreachable, ok_init_Unreachable Fi_Unreachable B z_RuntimeError cv_RuntimeError cf_Unreachable.ox_RuntimeError cn_Unreachable t1, Fi_Unreachable.binds fun kV doc pm an cdv ct us hl => match us, hl with | [u, v], _ => rfl⟩
    have bd6 : Binds K e6 ["value", "size"] [] := b2 F6 fun _ _ _ _ _ _ _ _ => rfl
    have t6 : Cal l.prog w K mg base "is_person" 1 ["value", "size"] (spD 2 p_is_person) f6 e6 := ⟨ok_is_person F6 B     , g6, F6.kp, bd6⟩
    have bd7 : Binds K e7 ["state", "person"] [] := b2 F7 fun _ _ _ _ _ _ _ _ => rfl
    have t7 : Cal l.prog w K mg base "check_person" 1 ["state", "person"] (spD 2 p_check_person) f7 e7 := ⟨ok_check_person F7 B     , g7, F7.kp, bd7⟩
    have bd8 : Binds K e8 ["pointers", "person"] [] := b2 F8 fun _ _ _ _ _ _ _ _ => rfl
    have t8 : Cal l.prog w K mg base "route_from" 1 ["pointers", "person"] (spD 2 p_route_from) f8 e8 := ⟨ok_route_from F8 B     , g8, F8.kp, bd8⟩
    have bd9 : Binds K e9 ["members", "first"] [] := b2 F9 fun _ _ _ _ _ _ _ _ => rfl
    have t9 : Cal l.prog w K mg base "turned" 1 ["members", "first"] (spD 2 p_turned) f9 e9 := ⟨ok_turned F9 B     , g9, F9.kp, bd9⟩
    have bd10 : Binds K e10 ["state", "route"] [] := b2 F10 fun _ _ _ _ _ _ _ _ => rfl
    have t10 : Cal l.prog w K mg base "ring_begin" 1 ["state", "route"] (spD 2 p_ring_begin) f10 e10 := ⟨ok_ring_begin F10 B     , g10, F10.kp, bd10⟩
    have bd11 : Binds K e11 ["state", "person"] [] := b2 F11 fun _ _ _ _ _ _ _ _ => rfl
    have t11 : Cal l.prog w K mg base "way" 2 ["state", "person"] (spD 2 p_way) f11 e11 := ⟨ok_way F11 B t7 t8    , g11, F11.kp, bd11⟩
    have bd12 : Binds K e12 ["state", "person"] [] := b2 F12 fun _ _ _ _ _ _ _ _ => rfl
    have t12 : Cal l.prog w K mg base "ring_of" 2 ["state", "person"] (spD 2 p_ring_of) f12 e12 := ⟨ok_ring_of F12 B t7 t8 t10 t9    , g12, F12.kp, bd12⟩
    have bd13 : Binds K e13 ["state"] [] := b1 F13 fun _ _ _ _ _ _ _ => rfl
    have t13 : Cal l.prog w K mg base "rings" 3 ["state"] (spD 1 p_rings) f13 e13 := ⟨ok_rings F13 B t12    , g13, F13.kp, bd13⟩
    have bd14 : Binds K e14 ["state", "person"] [] := b2 F14 fun _ _ _ _ _ _ _ _ => rfl
    have t14 : Cal l.prog w K mg base "height" 2 ["state", "person"] (spD 2 p_height) f14 e14 := ⟨ok_height F14 B t7 t10 t8    , g14, F14.kp, bd14⟩
    have bd16 : Binds K e16 ["state", "word"] [] := b2 F16 fun _ _ _ _ _ _ _ _ => rfl
    have t16 : Cal l.prog w K mg base "check_word" 2 ["state", "word"] (spD 2 p_check_word) f16 e16 := ⟨ok_check_word F16 B t7    , g16, F16.kp, bd16⟩
    have bd17 : Binds K e17 ["state", "word"] [] := b2 F17 fun _ _ _ _ _ _ _ _ => rfl
    have t17 : Cal l.prog w K mg base "called_all" 3 ["state", "word"] (spD 2 p_called_all) f17 e17 := ⟨ok_called_all F17 B t16    , g17, F17.kp, bd17⟩
    have bd19 : Binds K e19 ["state", "other"] [] := b2 F19 fun _ _ _ _ _ _ _ _ => rfl
    have t19 : Cal l.prog w K mg base "check_size" 1 ["state", "other"] (spD 2 p_check_size) f19 e19 := ⟨ok_check_size F19 B     , g19, F19.kp, bd19⟩
    have bd21 : Binds K e21 ["pointers"] [] := b1 F21 fun _ _ _ _ _ _ _ => rfl
    have t21 : Cal l.prog w K mg base "closed_rings" 2 ["pointers"] (spD 1 p_closed_rings) f21 e21 := ⟨ok_closed_rings F21 B t8    , g21, F21.kp, bd21⟩
    have bd22 : Binds K e22 ["state", "pointers"] [] := b2 F22 fun _ _ _ _ _ _ _ _ => rfl
    have t22 : Cal l.prog w K mg base "missed_way" 3 ["state", "pointers"] (spD 2 p_missed_way) f22 e22 := ⟨ok_missed_way F22 B t11    , g22, F22.kp, bd22⟩
    have bd23 : Binds K e23 ["state", "closed"] [] := b2 F23 fun _ _ _ _ _ _ _ _ => rfl
    have t23 : Cal l.prog w K mg base "second_ring" 3 ["state", "closed"] (spD 2 p_second_ring) f23 e23 := ⟨ok_second_ring F23 B t12    , g23, F23.kp, bd23⟩
    have bd24 : Binds K e24 ["ring", "start", "early", "late"] [] := b4 F24 fun _ _ _ _ _ _ _ _ _ _ => rfl
    have t24 : Cal l.prog w K mg base "meets_first" 2 ["ring", "start", "early", "late"] (spD 4 p_meets_first) f24 e24 := ⟨ok_meets_first F24 B t9    , g24, F24.kp, bd24⟩
    have bd25 : Binds K e25 ["members", "ring"] [] := b2 F25 fun _ _ _ _ _ _ _ _ => rfl
    have t25 : Cal l.prog w K mg base "order_broken" 3 ["members", "ring"] (spD 2 p_order_broken) f25 e25 := ⟨ok_order_broken F25 B t24    , g25, F25.kp, bd25⟩
    have bd26 : Binds K e26 ["state", "pointers"] [] := b2 F26 fun _ _ _ _ _ _ _ _ => rfl
    have t26 : Cal l.prog w K mg base "first_obstacle" 4 ["state", "pointers"] (spD 2 p_first_obstacle) f26 e26 := ⟨ok_first_obstacle F26 B t22 t21 t23 t25 t12    , g26, F26.kp, bd26⟩
    have bd27 : Binds K e27 ["state", "goal"] [] := b2 F27 fun _ _ _ _ _ _ _ _ => rfl
    have t27 : Cal l.prog w K mg base "obstacle" 5 ["state", "goal"] (spD 2 p_obstacle) f27 e27 := ⟨ok_obstacle F27 B t19 t26    , g27, F27.kp, bd27⟩
    have bd20 : Binds K e20 ["state", "goal"] [] := b2 F20 fun _ _ _ _ _ _ _ _ => rfl
    have t20 : Cal l.prog w K mg base "check_future" 6 ["state", "goal"] (spD 2 p_check_future) f20 e20 := ⟨ok_check_future F20 B t27    , g20, F20.kp, bd20⟩
    have bd28 : Binds K e28 ["state", "goal"] [] := b2 F28 fun _ _ _ _ _ _ _ _ => rfl
    have t28 : Cal l.prog w K mg base "leads" 6 ["state", "goal"] (spD 2 p_leads) f28 e28 := ⟨ok_leads F28 B t27    , g28, F28.kp, bd28⟩
    have bd29 : Binds K e29 ["state", "goal", "low", "high"] [] := b4 F29 fun _ _ _ _ _ _ _ _ _ _ => rfl
    have t29 : Cal l.prog w K mg base "are_apart" 3 ["state", "goal", "low", "high"] (spD 4 p_are_apart) f29 e29 := ⟨ok_are_apart F29 B t12    , g29, F29.kp, bd29⟩
    have bd30 : Binds K e30 ["state", "goal", "people"] [] := b3 F30 fun _ _ _ _ _ _ _ _ _ => rfl
    have t30 : Cal l.prog w K mg base "are_reversed" 3 ["state", "goal", "people"] (spD 3 p_are_reversed) f30 e30 := ⟨ok_are_reversed F30 B t12 t24    , g30, F30.kp, bd30⟩
    have bd31 : Binds K e31 ["state", "goal", "value"] [] := b3 F31 fun _ _ _ _ _ _ _ _ _ => rfl
    have t31 : Cal l.prog w K mg base "is_obstacle" 4 ["state", "goal", "value"] (spD 3 p_is_obstacle) f31 e31 := ⟨ok_is_obstacle F31 B t19 t6 t11 t29 t30    , g31, F31.kp, bd31⟩
    have bd32 : Binds K e32 ["state", "goal"] [] := b2 F32 fun _ _ _ _ _ _ _ _ => rfl
    have t32 : Cal l.prog w K mg base "outside_calls" 3 ["state", "goal"] (spD 2 p_outside_calls) f32 e32 := ⟨ok_outside_calls F32 B t14 t11    , g32, F32.kp, bd32⟩
    have bd33 : Binds K e33 ["ring", "goal"] [] := b2 F33 fun _ _ _ _ _ _ _ _ => rfl
    have t33 : Cal l.prog w K mg base "ring_calls" 3 ["ring", "goal"] (spD 2 p_ring_calls) f33 e33 := ⟨ok_ring_calls F33 B t14 t9    , g33, F33.kp, bd33⟩
    have bd34 : Binds K e34 ["state", "goal"] [] := b2 F34 fun _ _ _ _ _ _ _ _ => rfl
    have t34 : Cal l.prog w K mg base "word_to" 7 ["state", "goal"] (spD 2 p_word_to) f34 e34 := ⟨ok_word_to F34 B t20 t32 t13 t33    , g34, F34.kp, bd34⟩
    have bd35 : Binds K e35 ["state", "goal", "value"] [] := b3 F35 fun _ _ _ _ _ _ _ _ _ => rfl
    have t35 : Cal l.prog w K mg base "is_word_to" 4 ["state", "goal", "value"] (spD 3 p_is_word_to) f35 e35 := ⟨ok_is_word_to F35 B t19 t6 t17    , g35, F35.kp, bd35⟩
    have bd40 : Binds K e40 ["_law_box_here", "_law_some"] [] := b2 F40 fun _ _ _ _ _ _ _ _ => rfl
    have t40 : Cal l.prog w K mg base "_law_of" 3 ["_law_box_here", "_law_some"] (spD 2 p_law_pick) f40 e40 := ⟨ok_law_of F40 B t38    , g40, F40.kp, bd40⟩
    have bd41 : Binds K e41 ["_law_found", "_law_due"] [] := b2 F41 fun _ _ _ _ _ _ _ _ => rfl
    have t41 : Cal l.prog w K mg base "_law_same" 4 ["_law_found", "_law_due"] (spD 2 (p_law_same_2 3)) f41 e41 := ⟨ok_law_same F41 B g41 bd41 3, g41, F41.kp, bd41⟩
    have bd42 : Binds K e42 ["_law_here", "_law_shouts"] [] := b2 F42 fun _ _ _ _ _ _ _ _ => rfl
    have t42 : Cal l.prog w K mg base "_law_shouted" 1 ["_law_here", "_law_shouts"] (spD 2 p_law_shouted) f42 e42 := ⟨ok_law_shouted F42 B     , g42, F42.kp, bd42⟩
    have bd43 : Binds K e43 ["_law_size"] [] := b1 F43 fun _ _ _ _ _ _ _ => rfl
    have t43 : Cal l.prog w K mg base "_law_ring_right" 7 ["_law_size"] (spD 1 p_law_ring_right) f43 e43 := ⟨ok_law_ring_right F43 B t31 t27 t41 t28    , g43, F43.kp, bd43⟩
    have bd44 : Binds K e44 ["_law_box_here", "_law_size"] [] := b2 F44 fun _ _ _ _ _ _ _ _ => rfl
    have t44 : Cal l.prog w K mg base "_law_line_right" 8 ["_law_box_here", "_law_size"] (spD 2 p_law_line_right) f44 e44 := ⟨ok_law_line_right F44 B t38 t34 t42 t35 t28 t41 t27    , g44, F44.kp, bd44⟩
    have tx19 : CalX l.prog w K mg base (clT [("OtherSize", C_OtherSize), ("Unreachable", C_Unreachable)]) "check_size" 3 ["state", "other"] q_check_size f19 e19 := ⟨okx_check_size F19 B    r_OtherSize g_OtherSize , g19, F19.kp, bd19⟩
    have tx35 : CalX l.prog w K mg base (clT [("OtherSize", C_OtherSize), ("Unreachable", C_Unreachable)]) "is_word_to" 4 ["state", "goal", "value"] q_is_word_to f35 e35 := ⟨okx_is_word_to F35 B t6 t17   tx19 , g35, F35.kp, bd35⟩
    have tx31 : CalX l.prog w K mg base (clT [("OtherSize", C_OtherSize), ("Unreachable", C_Unreachable)]) "is_obstacle" 4 ["state", "goal", "value"] q_is_obstacle f31 e31 := ⟨okx_is_obstacle F31 B t6 t11 t29 t30   tx19 , g31, F31.kp, bd31⟩
    have tx27 : CalX l.prog w K mg base (clT [("OtherSize", C_OtherSize), ("Unreachable", C_Unreachable)]) "obstacle" 5 ["state", "goal"] q_obstacle f27 e27 := ⟨okx_obstacle F27 B t26   tx19 , g27, F27.kp, bd27⟩
    have tx20 : CalX l.prog w K mg base (clT [("OtherSize", C_OtherSize), ("Unreachable", C_Unreachable)]) "check_future" 6 ["state", "goal"] q_check_future f20 e20 := ⟨okx_check_future F20 B    tx27 r_Unreachable g_Unreachable , g20, F20.kp, bd20⟩
    have tx34 : CalX l.prog w K mg base (clT [("OtherSize", C_OtherSize), ("Unreachable", C_Unreachable)]) "word_to" 7 ["state", "goal"] q_word_to f34 e34 := ⟨okx_word_to F34 B t32 t13 t33   tx20 , g34, F34.kp, bd34⟩
    have tx28 : CalX l.prog w K mg base (clT [("OtherSize", C_OtherSize), ("Unreachable", C_Unreachable)]) "leads" 6 ["state", "goal"] q_leads f28 e28 := ⟨okx_leads F28 B    tx27 , g28, F28.kp, bd28⟩
    have bd45 : Binds K e45 ["_law_sort", "_law_here", "_law_there"] [] := b3 F45 fun _ _ _ _ _ _ _ _ _ => rfl
    have t45 : Cal l.prog w K mg base "_law_size_right" 8 ["_law_sort", "_law_here", "_law_there"] (spD 3 p_law_size_right) f45 e45 := ⟨ok_law_size_right F45 B t41   xcs g_OtherSize g_NoPerson g_Unreachable e_OtherSize_NoPerson_Unreachable tx28 tx27 tx34 tx31 tx35 i_OtherSize j_OtherSize i_ValueError j_ValueError z_ValueError i_NoPerson_Unreachable j_NoPerson_Unreachable at_size , g45, F45.kp, bd45⟩
    have bd46 : Binds K e46 ["_law_box_here"] [] := b1 F46 fun _ _ _ _ _ _ _ => rfl
    have t46 : Cal l.prog w K mg base "_law_right" 9 ["_law_box_here"] (spD 1 p_k15_law_right) f46 e46 := ⟨ok_law_right F46 B t38 t43 t44 t40 t45    , g46, F46.kp, bd46⟩
    have bd39 : Binds K e39 ["_law_script", "_law_most"] [] := b2 F39 fun _ _ _ _ _ _ _ _ => rfl
    have t39 : Cal l.prog w K mg base "_law_cells" 1 ["_law_script", "_law_most"] (spCells K) f39 e39 := ⟨ok_cells F39 B, g39, F39.kp, bd39⟩
    exact ok_law F47 B t39 t37 t46
end Lp

open PySem PySem.W PyProof.Rows
set_option maxHeartbeats 0 in
theorem PySem.Challenge.cw_lookpast_k15_known_goals_holds : PySem.Challenge.rw_lookpast_k15_known_goals.Holds := by
  w_on; o_law; k_head; (case hw => w_witness2)
  k_fill
  refine L2.walk_of (l := PySem.Challenge.rw_lookpast_k15_known_goals) (n := 63) (k := 10) (x := "_law_script") (CX := fun _ => L2.CX0) (sp := fun w => Lp.spLaw _) rfl (by decide) rfl ⟨rfl, by decide, by decide⟩ (fun w h Y => PySem.W.kIn_of Y) ?F (fun _ _ a ns hl _ hS => ⟨a, ns, rfl, hS, hl, fun _ => rfl⟩) (fun _ _ _ _ _ h => h)
  case F =>
    intro w mg fa h KX G hmg
    refine' Lp.all_mk KX G hmg ?z ?d1 ?d6 ?d7 ?d8 ?d9 ?d10 ?d11 ?d12 ?d13 ?d14 ?d16 ?d17 ?d19 ?d20 ?d21 ?d22 ?d23 ?d24 ?d25 ?d26 ?d27 ?d28 ?d29 ?d30 ?d31 ?d32 ?d33 ?d34 ?d35 ?d37 ?d38 ?d39 ?d40 ?d41 ?d42 ?d43 ?d44 ?d45 ?d46 ?d47  ?cg_NoPerson ?cg_OtherSize ?cg_Unreachable ?cf_OtherSize ?ci_OtherSize ?ct_OtherSize ?cn_OtherSize ?ce_OtherSize ?ca_OtherSize_size ?cf_Unreachable ?ci_Unreachable ?ct_Unreachable ?cn_Unreachable ?ce_Unreachable ?ca_Unreachable_size ?cz_RuntimeError ?cz_ValueError ?cv_RuntimeError ?cv_ValueError ?e_OtherSize_NoPerson_Unreachable ?i_OtherSize ?j_OtherSize ?i_ValueError ?j_ValueError ?i_NoPerson_Unreachable ?j_NoPerson_Unreachable
    (case z => refine' ⟨?_, ?_, ?_, ?_, ?_, ?_, ?_, ?_, ?_, ?_, ?_, ?_, ?_, ?_, ?_, ?_, ?_, ?_, ?_⟩ <;> k_is)
    (case d1 => refine' Lp.dx_mk ?a ?l ?c ?k; (case a => k_is); (case l => k_is); (case c => k_is); (case k => k_is))
    (case d6 => refine' Lp.dx_mk ?a ?l ?c ?k; (case a => k_is); (case l => k_is); (case c => k_is); (case k => k_is))
    (case d7 => refine' Lp.dx_mk ?a ?l ?c ?k; (case a => k_is); (case l => k_is); (case c => k_is); (case k => k_is))
    (case d8 => refine' Lp.dx_mk ?a ?l ?c ?k; (case a => k_is); (case l => k_is); (case c => k_is); (case k => k_is))
    (case d9 => refine' Lp.dx_mk ?a ?l ?c ?k; (case a => k_is); (case l => k_is); (case c => k_is); (case k => k_is))
    (case d10 => refine' Lp.dx_mk ?a ?l ?c ?k; (case a => k_is); (case l => k_is); (case c => k_is); (case k => k_is))
    (case d11 => refine' Lp.dx_mk ?a ?l ?c ?k; (case a => k_is); (case l => k_is); (case c => k_is); (case k => k_is))
    (case d12 => refine' Lp.dx_mk ?a ?l ?c ?k; (case a => k_is); (case l => k_is); (case c => k_is); (case k => k_is))
    (case d13 => refine' Lp.dx_mk ?a ?l ?c ?k; (case a => k_is); (case l => k_is); (case c => k_is); (case k => k_is))
    (case d14 => refine' Lp.dx_mk ?a ?l ?c ?k; (case a => k_is); (case l => k_is); (case c => k_is); (case k => k_is))
    (case d16 => refine' Lp.dx_mk ?a ?l ?c ?k; (case a => k_is); (case l => k_is); (case c => k_is); (case k => k_is))
    (case d17 => refine' Lp.dx_mk ?a ?l ?c ?k; (case a => k_is); (case l => k_is); (case c => k_is); (case k => k_is))
    (case d19 => refine' Lp.dx_mk ?a ?l ?c ?k; (case a => k_is); (case l => k_is); (case c => k_is); (case k => k_is))
    (case d20 => refine' Lp.dx_mk ?a ?l ?c ?k; (case a => k_is); (case l => k_is); (case c => k_is); (case k => k_is))
    (case d21 => refine' Lp.dx_mk ?a ?l ?c ?k; (case a => k_is); (case l => k_is); (case c => k_is); (case k => k_is))
    (case d22 => refine' Lp.dx_mk ?a ?l ?c ?k; (case a => k_is); (case l => k_is); (case c => k_is); (case k => k_is))
    (case d23 => refine' Lp.dx_mk ?a ?l ?c ?k; (case a => k_is); (case l => k_is); (case c => k_is); (case k => k_is))
    (case d24 => refine' Lp.dx_mk ?a ?l ?c ?k; (case a => k_is); (case l => k_is); (case c => k_is); (case k => k_is))
    (case d25 => refine' Lp.dx_mk ?a ?l ?c ?k; (case a => k_is); (case l => k_is); (case c => k_is); (case k => k_is))
    (case d26 => refine' Lp.dx_mk ?a ?l ?c ?k; (case a => k_is); (case l => k_is); (case c => k_is); (case k => k_is))
    (case d27 => refine' Lp.dx_mk ?a ?l ?c ?k; (case a => k_is); (case l => k_is); (case c => k_is); (case k => k_is))
    (case d28 => refine' Lp.dx_mk ?a ?l ?c ?k; (case a => k_is); (case l => k_is); (case c => k_is); (case k => k_is))
    (case d29 => refine' Lp.dx_mk ?a ?l ?c ?k; (case a => k_is); (case l => k_is); (case c => k_is); (case k => k_is))
    (case d30 => refine' Lp.dx_mk ?a ?l ?c ?k; (case a => k_is); (case l => k_is); (case c => k_is); (case k => k_is))
    (case d31 => refine' Lp.dx_mk ?a ?l ?c ?k; (case a => k_is); (case l => k_is); (case c => k_is); (case k => k_is))
    (case d32 => refine' Lp.dx_mk ?a ?l ?c ?k; (case a => k_is); (case l => k_is); (case c => k_is); (case k => k_is))
    (case d33 => refine' Lp.dx_mk ?a ?l ?c ?k; (case a => k_is); (case l => k_is); (case c => k_is); (case k => k_is))
    (case d34 => refine' Lp.dx_mk ?a ?l ?c ?k; (case a => k_is); (case l => k_is); (case c => k_is); (case k => k_is))
    (case d35 => refine' Lp.dx_mk ?a ?l ?c ?k; (case a => k_is); (case l => k_is); (case c => k_is); (case k => k_is))
    (case d37 => refine' Lp.dx_mk ?a ?l ?c ?k; (case a => k_is); (case l => k_is); (case c => k_is); (case k => k_is))
    (case d38 => refine' Lp.dx_mk ?a ?l ?c ?k; (case a => k_is); (case l => k_is); (case c => k_is); (case k => k_is))
    (case d39 => refine' Lp.dx_mk ?a ?l ?c ?k; (case a => k_is); (case l => k_is); (case c => k_is); (case k => k_is))
    (case d40 => refine' Lp.dx_mk ?a ?l ?c ?k; (case a => k_is); (case l => k_is); (case c => k_is); (case k => k_is))
    (case d41 => refine' Lp.dx_mk ?a ?l ?c ?k; (case a => k_is); (case l => k_is); (case c => k_is); (case k => k_is))
    (case d42 => refine' Lp.dx_mk ?a ?l ?c ?k; (case a => k_is); (case l => k_is); (case c => k_is); (case k => k_is))
    (case d43 => refine' Lp.dx_mk ?a ?l ?c ?k; (case a => k_is); (case l => k_is); (case c => k_is); (case k => k_is))
    (case d44 => refine' Lp.dx_mk ?a ?l ?c ?k; (case a => k_is); (case l => k_is); (case c => k_is); (case k => k_is))
    (case d45 => refine' Lp.dx_mk ?a ?l ?c ?k; (case a => k_is); (case l => k_is); (case c => k_is); (case k => k_is))
    (case d46 => refine' Lp.dx_mk ?a ?l ?c ?k; (case a => k_is); (case l => k_is); (case c => k_is); (case k => k_is))
    (case d47 => refine' Lp.dx_mk ?a ?l ?c ?k; (case a => k_is); (case l => k_is); (case c => k_is); (case k => k_is))
    (case cg_NoPerson => k_is)
    (case cg_OtherSize => k_is)
    (case cg_Unreachable => k_is)
    (case cf_OtherSize => refine' Lp.clf_mk ?c1 ?c2 ?c3 ?c4 ?c5 ?c6 ?c7 ?c8 ?c9 ?c10 ?c11 ?c12; (case c1 => k_is); (case c2 => k_is); (case c3 => k_is); (case c4 => k_is); (case c5 => k_is); (case c6 => k_is); (case c7 => k_is); (case c8 => k_is); (case c9 => k_is); (case c10 => k_is); (case c11 => k_is); (case c12 => k_is))
    (case ci_OtherSize => k_is)
    (case ct_OtherSize => k_is)
    (case cn_OtherSize => k_is)
    (case ce_OtherSize => refine' Lp.funI_mk ?l ?c ?k; (case l => k_is); (case c => k_is); (case k => k_is))
    (case ca_OtherSize_size => k_is)
    (case cf_Unreachable => refine' Lp.clf_mk ?c1 ?c2 ?c3 ?c4 ?c5 ?c6 ?c7 ?c8 ?c9 ?c10 ?c11 ?c12; (case c1 => k_is); (case c2 => k_is); (case c3 => k_is); (case c4 => k_is); (case c5 => k_is); (case c6 => k_is); (case c7 => k_is); (case c8 => k_is); (case c9 => k_is); (case c10 => k_is); (case c11 => k_is); (case c12 => k_is))
    (case ci_Unreachable => k_is)
    (case ct_Unreachable => k_is)
    (case cn_Unreachable => k_is)
    (case ce_Unreachable => refine' Lp.funI_mk ?l ?c ?k; (case l => k_is); (case c => k_is); (case k => k_is))
    (case ca_Unreachable_size => k_is)
    (case cz_RuntimeError => k_is)
    (case cz_ValueError => k_is)
    (case cv_RuntimeError => k_is)
    (case cv_ValueError => k_is)
    (case e_OtherSize_NoPerson_Unreachable => refine' ⟨fun _ => ?_, fun _ => ?_, trivial⟩ <;> first | exact rfl | kernel_rfl | k_is)
    (case i_OtherSize => refine' ⟨?_, ?_, trivial⟩ <;> first | exact rfl | kernel_rfl | k_is)
    (case j_OtherSize => first | exact rfl | kernel_rfl | k_is)
    (case i_ValueError => refine' ⟨?_, ?_, trivial⟩ <;> first | exact rfl | kernel_rfl | k_is)
    (case j_ValueError => first | exact rfl | kernel_rfl | k_is)
    (case i_NoPerson_Unreachable => refine' ⟨?_, ?_, trivial⟩ <;> first | exact rfl | kernel_rfl | k_is)
    (case j_NoPerson_Unreachable => first | exact rfl | kernel_rfl | k_is)


