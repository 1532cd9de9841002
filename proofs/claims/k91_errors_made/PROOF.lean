import PyProof.Rows.All
import Wide.All
import OpenK.AllK
import Wide.FinOn
import HandS.ForMost
import HandS.Walk
import HandS.IsInst
import HandS.Conv
import HandS.Zip
import HandS.Style
import HandS.Flow
import HandS.Strs
import HandS.Wide
import HandS.TupAny
import HandS.TupSets
import KE.KDictDisplayH
import HandS.DictComp
import HandS.SetBool
import HandS.Deep
import HandS.TupMul
import HandS.SortInts
import HandS.SortOrd
import PyProof.ReprRoads
import PyProof.Rows.RegFStrParts
import KE.GoesMore
import HandS.TupLe
import HandS.SetFor
import HandS.ExcInit
import KE.KExcInit
import HandS.ExcOwn
import HandS.WordsExc
import KE.KTryMore
import KE.KExcIs
import HandS.ExcField
import HandS.ExcIs
import HandS.CallLocal
import HandS.Star
import HandS.Defaults
import PySem.Challenge.RW_lookpast_k91_errors_made
set_option Elab.async false
set_option linter.all false
set_option maxRecDepth 100000
set_option maxHeartbeats 4000000
namespace Lp
open PySem PySem.Spec PyProof.Rows L2
def Sol (H : Hp) (a : Addr) (xs : List V) : Prop := ∃ o : Obj, o.dict = none ∧ H a = some (.frz o (.tup xs))
theorem Sol.seq {K : PySem.W.Frag} {H : Hp} {a : Addr} {xs : List V} (h : Sol H a xs) : SqT K H a xs := by
  obtain ⟨o, _, e⟩ := h
  exact .inl (.inr ⟨o, e⟩)
theorem Sol.to {H H' : Hp} {a : Addr} {xs : List V} (h : Sol H a xs) (s : Same H H') : Sol H' a xs := by
  obtain ⟨o, d, e⟩ := h
  exact ⟨o, d, s _ _ e⟩
theorem Sol.there {H : Hp} {a : Addr} {xs : List V} (h : Sol H a xs) : H a ≠ none := by
  obtain ⟨o, d, e⟩ := h
  rw [e]; exact fun z => nomatch z
theorem Sol.inj {H : Hp} {a : Addr} {xs ys : List V} (h : Sol H a xs) (k : Sol H a ys) : xs = ys := by
  obtain ⟨o, d, e⟩ := h
  obtain ⟨o', d', e'⟩ := k
  rw [e] at e'
  cases e'; rfl
abbrev objT (us : List Value) : Obj := { cls := .type "tuple", data := .seq us.toArray }
section
variable {X : Cx} {pins : List (Addr × Obj)} {σ : L2.St} {H : Hp} {s : Shared}
/-- a new tuple -/
theorem laidT {xs : List V} {us : List Value} (J : Inv X pins σ H s) (rel : Vals xs us) (few : xs.length ≤ sizeLine) : Inv X pins σ (upd H s.heap.objs.size (.frz (objT us) (.tup xs))) { s with heap := s.heap.push (objT us) } := by
  refine J.laid (t' := s.toks) (fun _ _ q => Heap.get?_push_of_some _ q) (Nat.le_refl _) ⟨Heap.get?_push_size _ rfl, few, us, rel, IsTup.new _ _⟩
theorem newT {xs : List V} {us : List Value} {Q : VK} (J : Inv X pins σ H s) (rel : Vals xs us) (few : xs.length ≤ sizeLine) (q : ∀ p o, H p = none → o.dict = none → Q (.ref p) (upd H p (.frz o (.tup xs)))) : EP X pins σ Q (.ref s.heap.objs.size) { s with heap := s.heap.push (objT us) } :=
  ⟨.ref s.heap.objs.size, _, laidT J rel few, rfl, q _ _ (J.hok.fresh (Nat.le_refl _)) rfl⟩
end
section
variable {X : Cx}
/-- (a, b, ..) -/
def tTupS (t : TA) : TE := fun σ H Q => t σ H fun xs H1 => xs.length ≤ sizeLine ∧ ∀ p o, H1 p = none → o.dict = none → Q (.ref p) (upd H1 p (.frz o (.tup xs)))
theorem pe_tupS {es : List Expr} {t : TA} {k : Nat} {pos : Pos} (args : PA X es t) : PE X (.Tuple es k pos) (tTupS t) := by
  constructor
  intro pins s σ H Q J want
  refine wpAny_Tuple_spliced (thn (args.run pos pins s σ H _ J want) ?_)
  rintro us s' ⟨xs, H', J', rel, few, q⟩
  exact ⟨by rw [← rel.length]; exact few, newT J' rel few q⟩
/-- tuple(xs) -/
def rTuple (K : PySem.W.Frag) : List V → Hp → VK → Prop := fun xs H Q => ∃ p ys, xs = [.ref p] ∧ ((SqL K H p ys ∧ ∀ l o, H l = none → o.dict = none → Q (.ref l) (upd H l (.frz o (.tup ys)))) ∨ (SqT K H p ys ∧ Q (.ref p) H))
theorem call_tupleS : CallR X (.type "tuple") (rTuple X.K) := by
  rintro pins s σ H xs us Q J rel ⟨p, ys, rfl, ways⟩
  obtain ⟨u, rfl, ru⟩ := vals1 rel
  cases ru
  rcases ways with ⟨at_p, q⟩ | ⟨at_p, q⟩
  · obtain ⟨its, rv, pl, few⟩ := J.list at_p
    have many := rv.length
    refine call_tuple_list pl.isList (fun h' keep => ?_) (by simp only [List.size_toArray]; omega)
    have J' : Inv X pins σ H { s with heap := h' } := J.kept (t' := s.toks) keep
    exact newT J' rv few q
  · obtain ⟨its, rv, pl, few⟩ := J.tuple at_p
    exact call_tuple_same pl ⟨.ref p, H, J, rfl, q⟩
/-- t + u -/
def rCatS (K : PySem.W.Frag) : R2 := fun x y H Q => ∃ a b xs ys, x = .ref a ∧ y = .ref b ∧ SqT K H a xs ∧ SqT K H b ys ∧ xs.length + ys.length ≤ sizeLine ∧
  (xs = [] → Q (.ref b) H) ∧ (ys = [] → Q (.ref a) H) ∧ ∀ p o, H p = none → o.dict = none → Q (.ref p) (upd H p (.frz o (.tup (xs ++ ys))))
theorem op_catS : OpR X (binaryOp .Add) (rCatS X.K) := by
  rintro pins s σ H x y v u Q J rx ry ⟨a, b, xs, ys, rfl, rfl, at_a, at_b, few, q0, q1, q2⟩
  cases rx
  cases ry
  obtain ⟨its, r1, p1, _⟩ := J.tuple at_a
  obtain ⟨jts, r2, p2, _⟩ := J.tuple at_b
  by_cases none_ : xs = []
  · subst none_
    cases r1
    exact cat_tup0 p1 p2 ⟨.ref b, H, J, rfl, q0 rfl⟩
  · refine HT.cat_tup p1 p2 (fun z => none_ (r1.nil_iff.mp z)) (fun z => ⟨.ref a, H, J, rfl, q1 (r2.nil_iff.mp z)⟩) (fun _ => ?_) (by rw [← r1.length, ← r2.length]; exact few)
    exact newT J (r1.append r2) (by rw [List.length_append]; exact few) q2
/-- t[lo:hi] -/
def rSlS (K : PySem.W.Frag) : V → Option Int → Option Int → Hp → VK → Prop := fun x lo hi H Q => ∃ a xs, x = .ref a ∧ SqT K H a xs ∧
  (cutV xs lo hi = xs → Q (.ref a) H) ∧ ∀ p o, H p = none → o.dict = none → Q (.ref p) (upd H p (.frz o (.tup (cutV xs lo hi))))
theorem sl_tupS : SlR X (rSlS X.K) := by
  rintro pins s σ H x v vl vu lo hi sl Q J rx hs pl pu ⟨a, xs, rfl, at_a, q1, q2⟩
  by_cases whole : HT.sIx xs.length 0 lo = 0 ∧ HT.sIx xs.length xs.length hi = xs.length
  · refine sl_tupA pins s σ H _ v vl vu lo hi sl Q J rx hs pl pu ⟨a, xs, rfl, at_a, fun _ => q1 ?_, fun z => absurd whole z⟩
    unfold cutV
    rw [whole.1, whole.2, List.drop_zero, Nat.sub_zero, List.take_length]
  · cases rx
    obtain ⟨its, rv, pt, few⟩ := J.tuple at_a
    have many : its.toArray.size = xs.length := by rw [List.size_toArray]; exact rv.length.symm
    refine ⟨"tuple", _, PyProof.Rows.slot_tuple_getitem.lookup, pt.typeIs, ?_⟩
    refine HT.getItem_tuple_cut pt hs pl pu (by rw [many]; exact whole) ?_ (by rw [many]; exact few)
    rw [many]
    exact newT J ((rv.drop (HT.sIx xs.length 0 lo)).take (HT.sIx xs.length xs.length hi - HT.sIx xs.length 0 lo)) (Nat.le_trans (cutV_length xs lo hi) few) q2
end
end Lp

namespace Lp
open PySem PySem.Spec PyProof.Rows L2
/-- a row of a dict: its key, the key's address, its value, the value as data -/
structure DRow where
  k : List Int
  b : Addr
  v : V
  d : PyData
abbrev tHash (k : List Int) : Int := reduceHash (Builtin.Tuple.tupleHashOf (k.map hashInt))
def dEnt (y : List Int × Addr × Value) : DictEntry := ⟨tHash y.1, .ref y.2.1, y.2.2⟩
def DRel (x : DRow) (y : List Int × Addr × Value) : Prop := x.k = y.1 ∧ x.b = y.2.1 ∧ RelV x.v y.2.2
def DT0 (h : Heap) (a : Addr) (xs : List DRow) : Prop := xs.length ≤ sizeLine ∧ (a == sysModules) = false ∧ (xs.map DRow.k).Nodup ∧ ∃ ys, Paired DRel xs ys ∧ ∃ o es ep, h.get? a = some o ∧ o.ExactDict ∧ o.data = .dict es ep ∧ es.toList = ys.map dEnt
/-- ob is the dict itself -/
def DctO (ob : Obj) (a : Addr) (xs : List DRow) : HO := .ext fun h => h.get? a = some ob ∧ DT0 h a xs
/-- there is such a dict at a -/
def IsDct (H : Hp) (a : Addr) (xs : List DRow) : Prop := ∃ ob, H a = some (DctO ob a xs)
theorem IsDct.ne {H : Hp} {a : Addr} {xs : List DRow} (x : IsDct H a xs) : H a ≠ none := by
  obtain ⟨ob, h⟩ := x
  rw [h]; exact fun z => nomatch z
theorem DRel.keys : ∀ {xs : List DRow} {ys : List (List Int × Addr × Value)}, Paired DRel xs ys → xs.map DRow.k = ys.map (·.1)
  | _, _, .nil => rfl
  | _, _, .cons r t => by rw [List.map_cons, List.map_cons, r.1, DRel.keys t]
theorem DRel.mem : ∀ {xs : List DRow} {ys : List (List Int × Addr × Value)}, Paired DRel xs ys → ∀ y ∈ ys, ∃ x ∈ xs, DRel x y
  | _, _, .nil, y, h => nomatch h
  | _, _, .cons (a := x) r t, y, h => by
    rcases List.mem_cons.mp h with e | e
    · exact ⟨x, List.mem_cons_self, e ▸ r⟩
    · obtain ⟨z, hz, q⟩ := DRel.mem t y e
      exact ⟨z, List.mem_cons_of_mem _ hz, q⟩
theorem DT0.of {P : Program} {w : World} {h : Heap} {a : Addr} {xs : List DRow} {ys : List (List Int × Addr × Value)} (dd : h.DictOfH (tupleKind (intKind P w)) a ys) (r : Paired DRel xs ys) (hl : xs.length ≤ sizeLine) (hd : (a == sysModules) = false) : DT0 h a xs := by
  obtain ⟨o, es, ep, ho, hx, hd', he, _, nd⟩ := dd
  exact ⟨hl, hd, by rw [DRel.keys r]; exact nd, ys, r, o, es, ep, ho, hx, hd', he⟩
section
variable {X : Cx} {pins : List (Addr × Obj)} {σ : L2.St} {H : Hp} {s : Shared} {a : Addr} {xs : List DRow}
end
end Lp

namespace Lp
open PySem PySem.Spec PyProof.Rows L2
section
variable {P : Program} {w : World} {A : Around} {E : Value → Shared → Prop} {s : Shared} {a : Addr} {L : List (Addr × List Int)} {es : Array (Int × Value)} {ep : Nat} {t : SetTable}
end
/-- the set at a, as the world sees it -/
def SetTI (w : World) (a : Addr) (M : List (Addr × List Int)) : HO := .ext fun h => ∃ P, SetT0 P w h a M
section
variable {X : Cx} {pins : List (Addr × Obj)} {σ : L2.St} {H : Hp} {s : Shared} {a : Addr} {M : List (Addr × List Int)}
end
section
variable {X : Cx}
end
end Lp

namespace Lp
open PySem PySem.Spec PyProof.Rows L2
/-- the drawing box: its three numbers; c: at most so many draws so far -/
def Box (H : Hp) (b : Addr) (c : Nat) : Prop := ∃ x0 x1 x2 : Int, H b = some (.lst [.int x0, .int x1, .int x2]) ∧ 0 ≤ x0 ∧ 0 ≤ x1 ∧ x1 < 4611686018427387904 ∧ 0 ≤ x2 ∧ x2 ≤ (c : Int)
theorem Box.le {H : Hp} {b : Addr} {c d : Nat} (x : Box H b c) (h : c ≤ d) : Box H b d := by
  obtain ⟨x0, x1, x2, e, h0, h1, h2, h3, h4⟩ := x
  exact ⟨x0, x1, x2, e, h0, h1, h2, h3, by omega⟩
theorem Box.there {H : Hp} {b : Addr} {c : Nat} (x : Box H b c) : H b ≠ none := by
  obtain ⟨x0, x1, x2, e, _⟩ := x
  rw [e]; exact fun h => nomatch h
theorem Box.keep {H H' : Hp} {b : Addr} {c : Nat} (x : Box H b c) (h : H' b = H b) : Box H' b c := by
  obtain ⟨x0, x1, x2, e, r⟩ := x
  exact ⟨x0, x1, x2, h.trans e, r⟩
/-- the rows of a dict as data -/
def kvT (xs : List DRow) : List (PyData × PyData) := xs.map fun x => (.tuple (x.k.map PyData.int), x.d)
def kvI (ks : List Int) (ds : List PyData) : List (PyData × PyData) := (ks.zip ds).map fun p => (.int p.1, p.2)
def dkI (ks : List Int) (vs : List V) : List (Key × V) := (ks.zip vs).map fun p => (.inl p.1, p.2)
mutual
inductive DV (H : Hp) : V → PyData → Prop
  | non : DV H .non .none
  | bl (b : Bool) : DV H (.bl b) (.bool b)
  | int (i : Int) : DV H (.int i) (.int i)
  | str (x : Str) : DV H (.str x) (.str x)
  | lst {a : Addr} {xs : List V} {ds : List PyData} : H a = some (.lst xs) → DVs H xs ds → DV H (.ref a) (.list ds)
  | tup {a : Addr} {xs : List V} {ds : List PyData} : Sol H a xs → DVs H xs ds → DV H (.ref a) (.tuple ds)
  | dct {a : Addr} {xs : List DRow} : IsDct H a xs → (∀ x ∈ xs, Sol H x.b (x.k.map V.int)) → DVs H (xs.map DRow.v) (xs.map DRow.d) → DV H (.ref a) (.dict (kvT xs))
  | dci {a : Addr} {o : Obj} {ks : List Int} {vs : List V} {ds : List PyData} : H a = some (.frz o (.dK (dkI ks vs))) → ks.length = vs.length → ks.Nodup → DVs H vs ds → DV H (.ref a) (.dict ((.none, .none) :: kvI ks ds))
inductive DVs (H : Hp) : List V → List PyData → Prop
  | nil : DVs H [] []
  | cons {v : V} {vs : List V} {d : PyData} {ds : List PyData} : DV H v d → DVs H vs ds → DVs H (v :: vs) (d :: ds)
end
theorem IsDct.to {H H' : Hp} {a : Addr} {xs : List DRow} (s : Same H H') (h : IsDct H a xs) : IsDct H' a xs := by
  obtain ⟨ob, h⟩ := h
  exact ⟨ob, s _ _ h⟩
theorem DV.mono {H H' : Hp} (s : Same H H') (d : PyData) (v : V) (h : DV H v d) : DV H' v d :=
  DV.rec (motive_1 := fun v d _ => DV H' v d) (motive_2 := fun vs ds _ => DVs H' vs ds) .non (fun b => .bl b) (fun i => .int i) (fun x => .str x)
    (fun e _ r => .lst (s _ _ e) r) (fun e _ r => .tup (e.to s) r) (fun e k _ r => .dct (e.to s) (fun x hx => (k x hx).to s) r) (fun e l n _ r => .dci (s _ _ e) l n r) .nil (fun _ _ a r => .cons a r) h
theorem DVs.mono {H H' : Hp} (s : Same H H') (ds : List PyData) (vs : List V) (h : DVs H vs ds) : DVs H' vs ds :=
  DVs.rec (motive_1 := fun v d _ => DV H' v d) (motive_2 := fun vs ds _ => DVs H' vs ds) .non (fun b => .bl b) (fun i => .int i) (fun x => .str x)
    (fun e _ r => .lst (s _ _ e) r) (fun e _ r => .tup (e.to s) r) (fun e k _ r => .dct (e.to s) (fun x hx => (k x hx).to s) r) (fun e l n _ r => .dci (s _ _ e) l n r) .nil (fun _ _ a r => .cons a r) h
mutual
theorem DV.dp {K : PySem.W.Frag} {H : Hp} : ∀ (d : PyData) (v : V), d.hasDict = false → DV H v d → Dp K H v d
  | .none, _, _, h => by cases h; exact .non
  | .bool b, _, _, h => by cases h; exact .bl b
  | .int i, _, _, h => by cases h; exact .int i
  | .str x, _, _, h => by cases h; exact .str x
  | .list ds, _, n, h => by
    cases h with
    | lst e r => exact .lst (SqL.of e) (DVs.dp ds _ (by unfold PyData.hasDict at n; exact n) r)
  | .tuple ds, _, n, h => by
    cases h with
    | tup e r => exact .tup e.seq (DVs.dp ds _ (by unfold PyData.hasDict at n; exact n) r)
  | .dict _, _, n, h => by unfold PyData.hasDict at n; cases n
theorem DVs.dp {K : PySem.W.Frag} {H : Hp} : ∀ (ds : List PyData) (vs : List V), PyData.hasDictAll ds = false → DVs H vs ds → DpAll K H vs ds
  | [], _, _, h => by cases h; exact .nil
  | d :: ds, _, n, h => by
    unfold PyData.hasDictAll at n
    rw [Bool.or_eq_false_iff] at n
    cases h with
    | cons a r => exact .cons (DV.dp d _ n.1 a) (DVs.dp ds _ n.2 r)
end
/-- what can be told apart holds no dict -/
theorem sh_nd {d : PyData} (h : SeqAt.shaped d = true) : d.hasDict = false := PyData.hasDict_of_canLay d (SeqAt.canLay_of_shaped h)
theorem DV.to {H H' : Hp} {v : V} {d : PyData} (h : DV H v d) (s : Same H H') : DV H' v d := DV.mono s d v h
theorem DVs.to {H H' : Hp} {v : List V} {d : List PyData} (h : DVs H v d) (s : Same H H') : DVs H' v d := DVs.mono s d v h
theorem DVs.len {H : Hp} : ∀ {vs : List V} {ds : List PyData}, DVs H vs ds → vs.length = ds.length
  | _, _, .nil => rfl
  | _, _, .cons _ r => by rw [List.length_cons, List.length_cons, r.len]
theorem DVs.get {H : Hp} : ∀ {vs : List V} {ds : List PyData} {i : Nat} {d : PyData}, DVs H vs ds → ds[i]? = some d → ∃ v, vs[i]? = some v ∧ DV H v d
  | _, _, _, _, .nil, e => by simp at e
  | _, _, 0, _, .cons a _, e => by simp at e; subst e; exact ⟨_, rfl, a⟩
  | _, _, i + 1, d, .cons _ r, e => by
    obtain ⟨v, h1, h2⟩ := DVs.get (i := i) (d := d) r (by simpa using e)
    exact ⟨v, by simpa using h1, h2⟩
theorem DVs.app {H : Hp} : ∀ {vs us : List V} {ds es : List PyData}, DVs H vs ds → DVs H us es → DVs H (vs ++ us) (ds ++ es)
  | _, _, _, _, .nil, s => s
  | _, _, _, _, .cons a r, s => .cons a (r.app s)
theorem DVs.take {H : Hp} : ∀ {vs : List V} {ds : List PyData} (n : Nat), DVs H vs ds → DVs H (vs.take n) (ds.take n)
  | _, _, 0, _ => by rw [List.take_zero, List.take_zero]; exact .nil
  | _, _, _ + 1, .nil => .nil
  | _, _, n + 1, .cons a r => .cons a (r.take n)
theorem DVs.drop {H : Hp} : ∀ {vs : List V} {ds : List PyData} (n : Nat), DVs H vs ds → DVs H (vs.drop n) (ds.drop n)
  | _, _, 0, r => by rw [List.drop_zero, List.drop_zero]; exact r
  | _, _, _ + 1, .nil => .nil
  | _, _, n + 1, .cons a r => r.drop n
theorem DVs.set {H : Hp} {v : V} {d : PyData} (h : DV H v d) : ∀ {vs : List V} {ds : List PyData} (n : Nat), DVs H vs ds → DVs H (vs.set n v) (ds.set n d)
  | _, _, _, .nil => .nil
  | _, _, 0, .cons _ r => .cons h r
  | _, _, n + 1, .cons a r => .cons a (DVs.set h n r)
theorem DVs.one {H : Hp} {v : V} {d : PyData} (h : DV H v d) : DVs H [v] [d] := .cons h .nil
mutual
def imm : PyData → Bool
  | .list _ => false
  | .dict _ => false
  | .tuple ds => imms ds
  | _ => true
def imms : List PyData → Bool
  | [] => true
  | d :: ds => imm d && imms ds
end
mutual
theorem DV.imm {H H' : Hp} (s : ∀ a xs, Sol H a xs → Sol H' a xs) : ∀ (d : PyData) (v : V), imm d = true → DV H v d → DV H' v d
  | .none, _, _, h => by cases h; exact .non
  | .bool b, _, _, h => by cases h; exact .bl b
  | .int i, _, _, h => by cases h; exact .int i
  | .str x, _, _, h => by cases h; exact .str x
  | .list ds, _, i, h => by unfold Lp.imm at i; cases i
  | .tuple ds, _, i, h => by
    unfold Lp.imm at i
    cases h with
    | tup e r => exact .tup (s _ _ e) (DVs.imm s ds _ i r)
  | .dict _, _, i, h => by unfold Lp.imm at i; cases i
theorem DVs.imm {H H' : Hp} (s : ∀ a xs, Sol H a xs → Sol H' a xs) : ∀ (ds : List PyData) (vs : List V), imms ds = true → DVs H vs ds → DVs H' vs ds
  | [], _, _, h => by cases h; exact .nil
  | d :: ds, _, i, h => by
    unfold Lp.imms at i
    rw [Bool.and_eq_true] at i
    cases h with
    | cons a r => exact .cons (DV.imm s d _ i.1 a) (DVs.imm s ds _ i.2 r)
end
theorem ne_at {H : Hp} {a p : Addr} (h : H a ≠ none) (n : H p = none) : a ≠ p := fun z => h (by rw [z]; exact n)

/-- L: what stands still; from (L, H) to (L', H'): nothing that stood still moves, what is (but the box b) stays, and what was there and not of L stays out of L -/
structure Ext (b : Option Addr) (L H L' H' : Hp) : Prop where
  ll : Same L L'
  hh : ∀ a o, H a = some o → b ≠ some a → H' a = some o
  dom : ∀ a, H a ≠ none → H' a ≠ none
  fr : ∀ a, L a = none → H a ≠ none → L' a = none
theorem Ext.refl (b : Option Addr) (L H : Hp) : Ext b L H L H := ⟨Same.refl L, fun _ _ h _ => h, fun _ h => h, fun _ h _ => h⟩
theorem Ext.trans {b : Option Addr} {L H L1 H1 L2 H2 : Hp} (x : Ext b L H L1 H1) (y : Ext b L1 H1 L2 H2) : Ext b L H L2 H2 :=
  ⟨x.ll.trans y.ll, fun a o h n => y.hh a o (x.hh a o h n) n, fun a h => y.dom a (x.dom a h), fun a h n => y.fr a (x.fr a h n) (x.dom a n)⟩
theorem Ext.free {b : Option Addr} {L H L' H' : Hp} (x : Ext b L H L' H') {a : Addr} (h : H' a = none) : H a = none := by
  cases q : H a with
  | none => rfl
  | some o => exact absurd h (x.dom a (by rw [q]; exact fun z => nomatch z))
theorem Ext.any {b : Option Addr} {L H L' H' : Hp} (x : Ext none L H L' H') : Ext b L H L' H' := ⟨x.ll, fun a o h _ => x.hh a o h (fun z => nomatch z), x.dom, x.fr⟩
theorem Same.dom {H H' : Hp} (s : Same H H') (a : Addr) (h : H a ≠ none) : H' a ≠ none := by
  cases q : H a with
  | none => exact absurd q h
  | some o => rw [s a o q]; exact fun z => nomatch z
/-- a new object that stands still -/
theorem Ext.new {b : Option Addr} {L H : Hp} {p : Addr} {o : HO} (s : Same L H) (n : H p = none) : Ext b L H (upd L p o) (upd H p o) := by
  refine ⟨fun a u h => ?_, fun a u h _ => ?_, fun a h => ?_, fun a h d => ?_⟩
  · rw [upd_ne (ne_of_none h (s.free n))]; exact h
  · rw [upd_ne (ne_of_none h n)]; exact h
  · rw [upd_ne (ne_at h n)]; exact h
  · rw [upd_ne (ne_at d n)]; exact h
/-- a new object beside -/
theorem Ext.own {b : Option Addr} {L H : Hp} {p : Addr} {o : HO} (n : H p = none) : Ext b L H L (upd H p o) := by
  refine ⟨Same.refl L, fun a u h _ => ?_, fun a h => ?_, fun a h _ => h⟩
  · rw [upd_ne (ne_of_none h n)]; exact h
  · rw [upd_ne (ne_at h n)]; exact h
theorem same_own {L H : Hp} {p : Addr} {o : HO} (s : Same L H) (n : L p = none) : Same L (upd H p o) := fun a u h => by
  rw [upd_ne (ne_of_none h n)]; exact s a u h
theorem same_both {L H : Hp} {p : Addr} {o : HO} (s : Same L H) : Same (upd L p o) (upd H p o) := fun a u h => by
  by_cases e : a = p
  · subst e; rw [upd_same] at h ⊢; exact h
  · rw [upd_ne e] at h ⊢; exact s a u h
/-- what is published -/
theorem same_pub {L H : Hp} {p : Addr} {o : HO} (s : Same L H) (e : H p = some o) : Same (upd L p o) H := fun a u h => by
  by_cases q : a = p
  · subst q; rw [upd_same] at h; rw [e]; exact h
  · rw [upd_ne q] at h; exact s a u h
theorem same_upd {L : Hp} {p : Addr} {o : HO} (n : L p = none) : Same L (upd L p o) := fun a u h => by
  rw [upd_ne (ne_of_none h n)]; exact h
/-- what a body knows of its caller -/
structure Zx where
  b : Option Addr
  L0 : Hp
  H0 : Hp
  P : Hp
/-- an exception: the name of its class, its fields -/
structure Xn where
  cls : Str
  fs : List (Str × PyData)
/-- what is taken for granted: the world, the classes of exceptions by name, what is known of the caller -/
structure Wx where
  w : World
  cl : Str → Option Addr
  Φ : Zx → Prop
  up : ∀ (Z : Zx) (P : Hp), Same Z.P P → Φ Z → Φ { Z with P := P }
  hp : ∀ (Z : Zx) (a : Addr) (o : HO), Z.H0 a = none → Z.b ≠ some a → Φ Z → Φ { Z with H0 := upd Z.H0 a o }
instance : Coe Wx World := ⟨Wx.w⟩
abbrev W0 (w : World) : Wx := ⟨w, fun _ => none, fun _ => True, fun _ _ _ _ => trivial, fun _ _ _ _ _ _ => trivial⟩
/-- at a: an exception of the class at C that was caught, its dict at d -/
def exc (a : Addr) (c : Value) (d : Option Addr) : HO := .ext fun h => ∃ oe vs, h.get? a = some oe ∧ oe.cls = c ∧ oe.dict = d ∧ oe.data = .fields vs
inductive FVs (H : Hp) : List (Str × V) → List (Str × PyData) → Prop
  | nil : FVs H [] []
  | cons {f : Str} {v : V} {d : PyData} {vs : List (Str × V)} {ds : List (Str × PyData)} : DV H v d → FVs H vs ds → FVs H ((f, v) :: vs) ((f, d) :: ds)
theorem FVs.to {H H' : Hp} (s : Same H H') : ∀ {vs : List (Str × V)} {ds : List (Str × PyData)}, FVs H vs ds → FVs H' vs ds
  | _, _, .nil => .nil
  | _, _, .cons a r => .cons (DV.to a s) (FVs.to s r)
/-- the fields of an exception -/
def XF (H : Hp) (d : Option Addr) (fs : List (Str × PyData)) : Prop := match d with
  | none => fs = []
  | some dx => ∃ vs, H dx = some (.xd vs) ∧ FVs H vs fs
theorem XF.to {H H' : Hp} (s : Same H H') {d : Option Addr} {fs : List (Str × PyData)} (x : XF H d fs) : XF H' d fs := by
  cases d with
  | none => exact x
  | some dx =>
    obtain ⟨vs, h1, h2⟩ := x
    exact ⟨vs, s _ _ h1, h2.to s⟩
def XV (w : Wx) (H : Hp) (v : V) (x : Xn) : Prop := ∃ a C d, v = .ref a ∧ w.cl x.cls = some C ∧ H a = some (exc a (.ref C) d) ∧ XF H d x.fs
theorem XV.to {w : Wx} {H H' : Hp} {v : V} {x : Xn} (h : XV w H v x) (s : Same H H') : XV w H' v x := by
  obtain ⟨a, C, d, h1, h2, h3, h4⟩ := h
  exact ⟨a, C, d, h1, h2, s _ _ h3, h4.to s⟩
/-- the rows of a dict stand still -/
def KD (L : Hp) (xs : List DRow) : Prop := ∀ x ∈ xs, Sol L x.b (x.k.map V.int) ∧ DV L x.v x.d
theorem KD.to {L L' : Hp} {xs : List DRow} (s : Same L L') (h : KD L xs) : KD L' xs := fun x hx => ⟨(h x hx).1.to s, (h x hx).2.to s⟩
/-- the members of a set of tuples stand still; M: the members, some perhaps more than once -/
def TSM (L : Hp) (A : List (Addr × List Int)) (M : List (List Int)) : Prop := (∀ p ∈ A, Sol L p.1 (p.2.map V.int)) ∧ A.length ≤ M.length ∧ ∀ k, k ∈ A.map (·.2) ↔ k ∈ M
theorem TSM.to {L L' : Hp} {A : List (Addr × List Int)} {M : List (List Int)} (h : TSM L A M) (s : Same L L') : TSM L' A M := ⟨fun p hp => (h.1 p hp).to s, h.2⟩
def DVd (L : Hp) (v : V) (xs : List DRow) : Prop := ∃ a, v = .ref a ∧ IsDct L a xs ∧ KD L xs
theorem DVd.to {L L' : Hp} {v : V} {xs : List DRow} (s : Same L L') (h : DVd L v xs) : DVd L' v xs := by
  obtain ⟨a, h1, h2, h3⟩ := h
  obtain ⟨ob, h2⟩ := h2
  exact ⟨a, h1, ⟨ob, s _ _ h2⟩, h3.to s⟩
/-- a shared thing of any kind: what it is, in the heap that stands still -/
structure Gn where
  ok : Hp → V → Prop
  mono : ∀ {H H' : Hp} {v : V}, Same H H' → ok H v → ok H' v
inductive SV where
  | un | sh (d : PyData) | ow (ds : List PyData) | bx | st (S : Int → Bool) (n : Nat) | raw (v : V) | exn (x : Xn) | dco (xs : List DRow) | dsh (xs : List DRow) | sto (M : List (List Int)) | gen (g : Gn)
structure Env where
  s : List SV
  c : Nat
def Env.set (ε : Env) (i : Nat) (x : SV) : Env := ⟨ε.s.set i x, ε.c⟩
def Own : SV → Bool
  | .ow _ => true
  | .st _ _ => true
  | .dco _ => true
  | .sto _ => true
  | _ => false
def SlotR (w : Wx) (Z : Zx) (O : Addr → Prop) (L H : Hp) (o : Option V) : SV → Prop
  | .un => True
  | .sh d => ∃ v, o = some v ∧ DV L v d
  | .ow ds => ∃ a xs, o = some (.ref a) ∧ O a ∧ L a = none ∧ Z.H0 a = none ∧ H a = some (.lst xs) ∧ DVs L xs ds
  | .bx => ∃ b, Z.b = some b ∧ o = some (.ref b)
  | .st S n => ∃ a, o = some (.ref a) ∧ O a ∧ L a = none ∧ Z.H0 a = none ∧ H a = some (SetO w a S n)
  | .raw v => o = some v
  | .exn x => ∃ v, o = some v ∧ XV w L v x
  | .dco xs => ∃ a, o = some (.ref a) ∧ O a ∧ L a = none ∧ Z.H0 a = none ∧ IsDct H a xs ∧ KD L xs
  | .dsh xs => ∃ v, o = some v ∧ DVd L v xs
  | .gen g => ∃ v, o = some v ∧ g.ok L v
  | .sto M => ∃ a A, o = some (.ref a) ∧ O a ∧ L a = none ∧ Z.H0 a = none ∧ H a = some (SetTI w.w a A) ∧ TSM L A M
structure Rep (w : Wx) (Z : Zx) (O : Addr → Prop) (L H : Hp) (σ : L2.St) (ε : Env) : Prop where
  lh : Same L H
  pn : Same Z.P L
  ex : Ext Z.b Z.L0 Z.H0 L H
  bo : ∀ b, Z.b = some b → L b = none ∧ Box H b ε.c ∧ Z.H0 b ≠ none
  oh : ∀ a, O a → H a ≠ none ∧ Z.H0 a = none
  len : σ.length = ε.s.length
  sl : ∀ (i : Nat) (x : SV), ε.s[i]? = some x → ∃ o, σ[i]? = some o ∧ SlotR w Z O L H o x
  di : ∀ (i j : Nat) (x y : SV) (a : Addr), i ≠ j → ε.s[i]? = some x → ε.s[j]? = some y → Own x = true → Own y = true → σ[i]? = some (some (.ref a)) → σ[j]? ≠ some (some (.ref a))
  ph : w.Φ Z
inductive R where
  | sh (d : PyData) | nw (ds : List PyData) | br (i : Nat) (ds : List PyData) | bx | raw (v : V) | sr (i : Nat) (S : Int → Bool) (n : Nat) | exn (x : Xn) | dnw (xs : List DRow) | dbr (i : Nat) (xs : List DRow) | dsh (xs : List DRow) | srt (i : Nat) (M : List (List Int)) | gen (g : Gn)
def VR (w : Wx) (Z : Zx) (O : Addr → Prop) (σ : L2.St) (Hs L H : Hp) (v : V) : R → Prop
  | .sh d => DV L v d
  | .nw ds => ∃ a xs, v = .ref a ∧ Hs a = none ∧ ¬ O a ∧ Z.H0 a = none ∧ L a = none ∧ H a = some (.lst xs) ∧ DVs L xs ds
  | .br i ds => ∃ a xs, v = .ref a ∧ σ[i]? = some (some (.ref a)) ∧ O a ∧ Z.H0 a = none ∧ L a = none ∧ H a = some (.lst xs) ∧ DVs L xs ds
  | .bx => ∃ b, Z.b = some b ∧ v = .ref b
  | .raw u => v = u
  | .sr i S n => ∃ a, v = .ref a ∧ σ[i]? = some (some (.ref a)) ∧ O a ∧ Z.H0 a = none ∧ L a = none ∧ H a = some (SetO w a S n)
  | .exn x => XV w L v x
  | .dnw xs => ∃ a, v = .ref a ∧ Hs a = none ∧ ¬ O a ∧ Z.H0 a = none ∧ L a = none ∧ IsDct H a xs ∧ KD L xs
  | .dbr i xs => ∃ a, v = .ref a ∧ σ[i]? = some (some (.ref a)) ∧ O a ∧ Z.H0 a = none ∧ L a = none ∧ IsDct H a xs ∧ KD L xs
  | .dsh xs => DVd L v xs
  | .gen g => g.ok L v
  | .srt i M => ∃ a A, v = .ref a ∧ σ[i]? = some (some (.ref a)) ∧ O a ∧ Z.H0 a = none ∧ L a = none ∧ H a = some (SetTI w.w a A) ∧ TSM L A M
/-- as VR, for what operations give: nothing of the slots -/
def VR0 (Hs L H : Hp) (v : V) : R → Prop
  | .sh d => DV L v d
  | .nw ds => ∃ a xs, v = .ref a ∧ Hs a = none ∧ L a = none ∧ H a = some (.lst xs) ∧ DVs L xs ds
  | .dnw xs => ∃ a, v = .ref a ∧ Hs a = none ∧ L a = none ∧ IsDct H a xs ∧ KD L xs
  | .dsh xs => DVd L v xs
  | .gen g => g.ok L v
  | _ => False
section
variable {w : Wx} {Z : Zx} {O : Addr → Prop} {σ : L2.St} {ε : Env} {Hs L H L' H' : Hp} {v : V} {r : R}
theorem Rep.nob (x : Rep w Z O L H σ ε) {a : Addr} (h : Z.H0 a = none) : Z.b ≠ some a := fun e => (x.bo a e).2.2 h
theorem VR.mono (x : VR w Z O σ Hs L H v r) (y : Rep w Z O L H σ ε) (e : Ext Z.b L H L' H') : VR w Z O σ Hs L' H' v r := by
  cases r with
  | sh d => exact DV.to x e.ll
  | nw ds =>
    obtain ⟨a, xs, rfl, h1, h2, h3, h4, h5, h6⟩ := x
    exact ⟨a, xs, rfl, h1, h2, h3, e.fr a h4 (by rw [h5]; exact fun z => nomatch z), e.hh a _ h5 (y.nob h3), h6.to e.ll⟩
  | br i ds =>
    obtain ⟨a, xs, rfl, h1, h2, h3, h4, h5, h6⟩ := x
    exact ⟨a, xs, rfl, h1, h2, h3, e.fr a h4 (by rw [h5]; exact fun z => nomatch z), e.hh a _ h5 (y.nob h3), h6.to e.ll⟩
  | bx => exact x
  | raw u => exact x
  | exn y => exact XV.to x e.ll
  | sr i S n =>
    obtain ⟨a, rfl, h1, h2, h3, h4, h5⟩ := x
    exact ⟨a, rfl, h1, h2, h3, e.fr a h4 (by rw [h5]; exact fun z => nomatch z), e.hh a _ h5 (y.nob h3)⟩
  | dnw xs =>
    obtain ⟨a, rfl, h1, h2, h3, h4, ⟨ob, h5⟩, h6⟩ := x
    exact ⟨a, rfl, h1, h2, h3, e.fr a h4 (by rw [h5]; exact fun z => nomatch z), ⟨ob, e.hh a _ h5 (y.nob h3)⟩, h6.to e.ll⟩
  | dbr i xs =>
    obtain ⟨a, rfl, h1, h2, h3, h4, ⟨ob, h5⟩, h6⟩ := x
    exact ⟨a, rfl, h1, h2, h3, e.fr a h4 (by rw [h5]; exact fun z => nomatch z), ⟨ob, e.hh a _ h5 (y.nob h3)⟩, h6.to e.ll⟩
  | srt i M =>
    obtain ⟨a, A, rfl, h1, h2, h3, h4, h5, h6⟩ := x
    exact ⟨a, A, rfl, h1, h2, h3, e.fr a h4 (by rw [h5]; exact fun z => nomatch z), e.hh a _ h5 (y.nob h3), h6.to e.ll⟩
  | dsh xs => exact DVd.to e.ll x
  | gen g => exact g.mono e.ll x
theorem VR.back (x : VR w Z O σ Hs L H v r) {Hr Lr : Hp} (e : Ext Z.b Lr Hr L' Hs) : VR w Z O σ Hr L H v r := by
  cases r with
  | nw ds =>
    obtain ⟨a, xs, rfl, h1, h2, h3, h4, h5, h6⟩ := x
    exact ⟨a, xs, rfl, e.free h1, h2, h3, h4, h5, h6⟩
  | dnw xs =>
    obtain ⟨a, rfl, h1, h2, h3, h4, h5, h6⟩ := x
    exact ⟨a, rfl, e.free h1, h2, h3, h4, h5, h6⟩
  | _ => exact x
theorem VR0.vr (x : VR0 Hs L H v r) (y : Rep w Z O L' Hs σ ε) : VR w Z O σ Hs L H v r := by
  cases r with
  | sh d => exact x
  | nw ds =>
    obtain ⟨a, xs, rfl, h1, h4, h5, h6⟩ := x
    exact ⟨a, xs, rfl, h1, fun o => (y.oh a o).1 h1, y.ex.free h1, h4, h5, h6⟩
  | br i ds => exact x.elim
  | bx => exact x.elim
  | raw u => exact x.elim
  | sr i S n => exact x.elim
  | exn y => exact x.elim
  | dnw xs =>
    obtain ⟨a, rfl, h1, h4, h5, h6⟩ := x
    exact ⟨a, rfl, h1, fun o => (y.oh a o).1 h1, y.ex.free h1, h4, h5, h6⟩
  | dbr i xs => exact x.elim
  | srt i M => exact x.elim
  | dsh xs => exact x
  | gen g => exact x
/-- what an operation leaves, the slots hold -/
theorem Rep.step (x : Rep w Z O L H σ ε) (e : Ext none L H L' H') (s : Same L' H') : Rep w Z O L' H' σ ε := by
  have hh : ∀ a o, H a = some o → H' a = some o := fun a o h => e.hh a o h fun z => nomatch z
  refine ⟨s, x.pn.trans e.ll, x.ex.trans e.any, fun b hb => ?_, fun a h => ⟨e.dom a (x.oh a h).1, (x.oh a h).2⟩, x.len, fun i y hy => ?_, x.di, x.ph⟩
  · obtain ⟨h1, h2, h3⟩ := x.bo b hb
    refine ⟨e.fr b h1 h2.there, ?_, h3⟩
    obtain ⟨x0, x1, x2, q, r⟩ := h2
    exact ⟨x0, x1, x2, hh _ _ q, r⟩
  · obtain ⟨o, h1, h2⟩ := x.sl i y hy
    refine ⟨o, h1, ?_⟩
    cases y with
    | un => trivial
    | sh d =>
      obtain ⟨v, e1, e2⟩ := h2
      exact ⟨v, e1, e2.to e.ll⟩
    | ow ds =>
      obtain ⟨a, xs, e1, e2, e3, e4, e5, e6⟩ := h2
      exact ⟨a, xs, e1, e2, e.fr a e3 (by rw [e5]; exact fun z => nomatch z), e4, hh _ _ e5, e6.to e.ll⟩
    | bx => exact h2
    | st S n =>
      obtain ⟨a, e1, e2, e3, e4, e5⟩ := h2
      exact ⟨a, e1, e2, e.fr a e3 (by rw [e5]; exact fun z => nomatch z), e4, hh _ _ e5⟩
    | raw u => exact h2
    | exn x => obtain ⟨v, e1, e2⟩ := h2; exact ⟨v, e1, e2.to e.ll⟩
    | dco xs =>
      obtain ⟨a, e1, e2, e3, e4, ⟨ob, e5⟩, e6⟩ := h2
      exact ⟨a, e1, e2, e.fr a e3 (by rw [e5]; exact fun z => nomatch z), e4, ⟨ob, hh _ _ e5⟩, e6.to e.ll⟩
    | sto M =>
      obtain ⟨a, A, e1, e2, e3, e4, e5, e6⟩ := h2
      exact ⟨a, A, e1, e2, e.fr a e3 (by rw [e5]; exact fun z => nomatch z), e4, hh _ _ e5, e6.to e.ll⟩
    | dsh xs => obtain ⟨v, e1, e2⟩ := h2; exact ⟨v, e1, e2.to e.ll⟩
    | gen g => obtain ⟨v, e1, e2⟩ := h2; exact ⟨v, e1, g.mono e.ll e2⟩
/-- a new list that nobody holds is published -/
theorem pub (x : Rep w Z O L' H' σ ε) (e : Ext Z.b L H L' H') {ds : List PyData} (h : VR w Z O σ H L' H' v (.nw ds)) : ∃ L2, Rep w Z O L2 H' σ ε ∧ Ext Z.b L H L2 H' ∧ DV L2 v (.list ds) := by
  obtain ⟨a, xs, rfl, h1, h2, h3, h4, h5, h6⟩ := h
  have s1 : Same L' (upd L' a (.lst xs)) := same_upd h4
  refine ⟨upd L' a (.lst xs), ⟨same_pub x.lh h5, x.pn.trans s1, ⟨x.ex.ll.trans s1, x.ex.hh, x.ex.dom, fun b hb hd => ?_⟩, fun b hb => ?_, x.oh, x.len, fun i y hy => ?_, x.di, x.ph⟩, ⟨e.ll.trans s1, e.hh, e.dom, fun b hb hd => ?_⟩, .lst upd_same (h6.to s1)⟩
  · rw [upd_ne (ne_at hd h3)]; exact x.ex.fr b hb hd
  · obtain ⟨q1, q2, q3⟩ := x.bo b hb
    exact ⟨by rw [upd_ne (ne_at q3 h3)]; exact q1, q2, q3⟩
  · obtain ⟨o, q1, q2⟩ := x.sl i y hy
    refine ⟨o, q1, ?_⟩
    cases y with
    | un => trivial
    | sh d =>
      obtain ⟨v, e1, e2⟩ := q2
      exact ⟨v, e1, e2.to s1⟩
    | ow ds =>
      obtain ⟨b, ys, e1, e2, e3, e4, e5, e6⟩ := q2
      exact ⟨b, ys, e1, e2, by rw [upd_ne (fun z => h2 (by rw [← z]; exact e2))]; exact e3, e4, e5, e6.to s1⟩
    | bx => exact q2
    | st S n =>
      obtain ⟨b, e1, e2, e3, e4, e5⟩ := q2
      exact ⟨b, e1, e2, by rw [upd_ne (fun z => h2 (by rw [← z]; exact e2))]; exact e3, e4, e5⟩
    | raw u => exact q2
    | exn x => obtain ⟨v, e1, e2⟩ := q2; exact ⟨v, e1, e2.to s1⟩
    | dco xs =>
      obtain ⟨b, e1, e2, e3, e4, e5, e6⟩ := q2
      exact ⟨b, e1, e2, by rw [upd_ne (fun z => h2 (by rw [← z]; exact e2))]; exact e3, e4, e5, e6.to s1⟩
    | sto M =>
      obtain ⟨b, A, e1, e2, e3, e4, e5, e6⟩ := q2
      exact ⟨b, A, e1, e2, by rw [upd_ne (fun z => h2 (by rw [← z]; exact e2))]; exact e3, e4, e5, e6.to s1⟩
    | dsh xs => obtain ⟨v, e1, e2⟩ := q2; exact ⟨v, e1, e2.to s1⟩
    | gen g => obtain ⟨v, e1, e2⟩ := q2; exact ⟨v, e1, g.mono s1 e2⟩
  · rw [upd_ne (ne_at hd h1)]; exact e.fr b hb hd
end
/-- a value as data, its own list (if it is one) as it stands in H -/
def VL (L H : Hp) (v : V) (d : PyData) : Prop := DV L v d ∨ ∃ a xs ds, d = .list ds ∧ v = .ref a ∧ H a = some (.lst xs) ∧ DVs L xs ds
section
variable {L H : Hp} {v : V}
theorem VL.dv {d : PyData} (x : VL L H v d) (s : Same L H) : DV H v d := by
  rcases x with x | ⟨a, xs, ds, rfl, rfl, h, r⟩
  · exact x.to s
  · exact .lst h (r.to s)
theorem VL.lst {ds : List PyData} (x : VL L H v (.list ds)) (s : Same L H) : ∃ a xs, v = .ref a ∧ H a = some (.lst xs) ∧ DVs L xs ds := by
  rcases x with x | ⟨a, xs, es, e, rfl, h, r⟩
  · cases x with
    | lst h r => exact ⟨_, _, rfl, s _ _ h, r⟩
  · cases e; exact ⟨a, xs, rfl, h, r⟩
theorem VL.tup {ds : List PyData} (x : VL L H v (.tuple ds)) : ∃ a xs, v = .ref a ∧ Sol L a xs ∧ DVs L xs ds := by
  rcases x with x | ⟨a, xs, es, e, rfl, h, r⟩
  · cases x with
    | tup h r => exact ⟨_, _, rfl, h, r⟩
  · cases e
theorem VL.int {i : Int} (x : VL L H v (.int i)) : v = .int i := by
  rcases x with x | ⟨a, xs, es, e, _⟩
  · cases x; rfl
  · cases e
theorem VL.bl {i : Bool} (x : VL L H v (.bool i)) : v = .bl i := by
  rcases x with x | ⟨a, xs, es, e, _⟩
  · cases x; rfl
  · cases e
theorem VL.str {i : Str} (x : VL L H v (.str i)) : v = .str i := by
  rcases x with x | ⟨a, xs, es, e, _⟩
  · cases x; rfl
  · cases e
theorem VL.non (x : VL L H v .none) : v = .non := by
  rcases x with x | ⟨a, xs, es, e, _⟩
  · cases x; rfl
  · cases e
end
/-- as data, a pair just made by a walk taken as it stands -/
def VT (L H : Hp) (v : V) (d : PyData) : Prop := DV L v d ∨ ∃ a xs ds, d = .tuple ds ∧ v = .ref a ∧ H a = some (.tup xs) ∧ DVs L xs ds
def VI (pk : Bool) (L H : Hp) (v : V) (d : PyData) : Prop := match pk with
  | true => VT L H v d
  | false => DV L v d
theorem VI.of {pk : Bool} {L H : Hp} {v : V} {d : PyData} (h : DV L v d) : VI pk L H v d := by
  cases pk with
  | true => exact .inl h
  | false => exact h
def R.dat : R → Option PyData
  | .sh d => some d
  | .nw ds => some (.list ds)
  | .br _ ds => some (.list ds)
  | _ => none
theorem VR.vl {w : Wx} {Z : Zx} {O : Addr → Prop} {σ : L2.St} {Hs L H : Hp} {v : V} {r : R} {d : PyData} (x : VR w Z O σ Hs L H v r) (e : r.dat = some d) : VL L H v d := by
  cases r with
  | sh d => cases e; exact .inl x
  | nw ds =>
    cases e
    obtain ⟨a, xs, rfl, h1, h2, h3, h4, h5, h6⟩ := x
    exact .inr ⟨a, xs, ds, rfl, rfl, h5, h6⟩
  | br i ds =>
    cases e
    obtain ⟨a, xs, rfl, h1, h2, h3, h4, h5, h6⟩ := x
    exact .inr ⟨a, xs, ds, rfl, rfl, h5, h6⟩
  | bx => cases e
  | raw u => cases e
  | sr i S n => cases e
  | exn y => cases e
  | dnw xs => cases e
  | dbr i xs => cases e
  | srt i M => cases e
  | dsh xs => cases e
  | gen g => cases e
end Lp

namespace Lp
open PySem PySem.Spec PyProof.Rows L2
abbrev DTE := Env → (R → Env → Prop) → Prop
abbrev DTT := Env → (Bool → Env → Prop) → Prop
abbrev DTA := Env → (List R → Env → Prop) → Prop
structure SE (w : Wx) (t : TE) (f : DTE) : Prop where
  mono : ∀ ε (A B : R → Env → Prop), (∀ r ε', A r ε' → B r ε') → f ε A → f ε B
  run : ∀ (Z : Zx) (O : Addr → Prop) (σ : L2.St) (ε : Env) (L H : Hp) (Q : VK), Rep w Z O L H σ ε → f ε (fun r ε' => ∀ v L' H', Rep w Z O L' H' σ ε' → Ext Z.b L H L' H' → VR w Z O σ H L' H' v r → Q v H') → t σ H Q
structure ST (w : Wx) (t : TT) (f : DTT) : Prop where
  mono : ∀ ε (A B : Bool → Env → Prop), (∀ r ε', A r ε' → B r ε') → f ε A → f ε B
  run : ∀ (Z : Zx) (O : Addr → Prop) (σ : L2.St) (ε : Env) (L H : Hp) (Q : Bool → Hp → Prop), Rep w Z O L H σ ε → f ε (fun b ε' => ∀ L' H', Rep w Z O L' H' σ ε' → Ext Z.b L H L' H' → Q b H') → t σ H Q
inductive VRs (w : Wx) (Z : Zx) (O : Addr → Prop) (σ : L2.St) (Hs L H : Hp) : List V → List R → Prop
  | nil : VRs w Z O σ Hs L H [] []
  | cons {v : V} {vs : List V} {r : R} {rs : List R} : VR w Z O σ Hs L H v r → VRs w Z O σ Hs L H vs rs → VRs w Z O σ Hs L H (v :: vs) (r :: rs)
/-- n arguments, each published -/
structure SA (w : Wx) (n : Nat) (t : TA) (f : DTA) : Prop where
  mono : ∀ ε (A B : List R → Env → Prop), (∀ r ε', A r ε' → B r ε') → f ε A → f ε B
  run : ∀ (Z : Zx) (O : Addr → Prop) (σ : L2.St) (ε : Env) (L H : Hp) (Q : List V → Hp → Prop), Rep w Z O L H σ ε → f ε (fun rs ε' => ∀ vs L' H', Rep w Z O L' H' σ ε' → Ext Z.b L H L' H' → VRs w Z O σ H L' H' vs rs → rs.length = n → (∀ r ∈ rs, ∀ ds, r ≠ .nw ds) → Q vs H') → t σ H Q
section
variable {w : Wx} {ta tb tc : TE} {f g h : DTE}
theorem VRs.mono {Z : Zx} {O : Addr → Prop} {σ : L2.St} {ε : Env} {Hs L H L' H' : Hp} (y : Rep w Z O L H σ ε) (e : Ext Z.b L H L' H') : ∀ {vs : List V} {rs : List R}, VRs w Z O σ Hs L H vs rs → VRs w Z O σ Hs L' H' vs rs
  | _, _, .nil => .nil
  | _, _, .cons a r => .cons (a.mono y e) (VRs.mono y e r)
theorem VRs.back {Z : Zx} {O : Addr → Prop} {σ : L2.St} {Hs L H L' Hr Lr : Hp} (e : Ext Z.b Lr Hr L' Hs) : ∀ {vs : List V} {rs : List R}, VRs w Z O σ Hs L H vs rs → VRs w Z O σ Hr L H vs rs
  | _, _, .nil => .nil
  | _, _, .cons a r => .cons (a.back e) (VRs.back e r)
theorem VRs.len {Z : Zx} {O : Addr → Prop} {σ : L2.St} {Hs L H : Hp} : ∀ {vs : List V} {rs : List R}, VRs w Z O σ Hs L H vs rs → vs.length = rs.length
  | _, _, .nil => rfl
  | _, _, .cons _ r => by rw [List.length_cons, List.length_cons, r.len]
def dVar (i : Nat)  (ε : Env) (Q : R → Env → Prop) : Prop := match ε.s[i]? with
  | some (.sh d) => Q (.sh d) ε
  | some (.ow ds) => Q (.br i ds) ε
  | some .bx => Q .bx ε
  | some (.raw v) => Q (.raw v) ε
  | some (.st S n) => Q (.sr i S n) ε
  | some (.exn x) => Q (.exn x) ε
  | some (.dco xs) => Q (.dbr i xs) ε
  | some (.sto M) => Q (.srt i M) ε
  | some (.dsh xs) => Q (.dsh xs) ε
  | some (.gen g) => Q (.gen g) ε
  | _ => False
theorem se_var {i : Nat} : SE w (tVar i) (dVar i) := by
  constructor
  · intro ε A B h q
    unfold dVar at q ⊢
    split at q
    all_goals first | exact h _ _ q | exact q.elim
  · intro Z O σ ε L H Q x q
    unfold dVar at q
    have e0 := Ext.refl Z.b L H
    split at q
    · rename_i d hd
      obtain ⟨o, h1, v, h2, h3⟩ := x.sl i _ hd
      subst h2
      exact ⟨v, h1, q v L H x e0 h3⟩
    · rename_i ds hd
      obtain ⟨o, h1, a, xs, h2, h3, h4, h5, h6, h7⟩ := x.sl i _ hd
      subst h2
      exact ⟨.ref a, h1, q _ L H x e0 ⟨a, xs, rfl, h1, h3, h5, h4, h6, h7⟩⟩
    · rename_i hd
      obtain ⟨o, h1, b, h2, h3⟩ := x.sl i _ hd
      subst h3
      exact ⟨.ref b, h1, q _ L H x e0 ⟨b, h2, rfl⟩⟩
    · rename_i v hd
      obtain ⟨o, h1, h2⟩ := x.sl i _ hd
      have h2' : o = some v := h2
      subst h2'
      exact ⟨v, h1, q _ L H x e0 rfl⟩
    · rename_i S n hd
      obtain ⟨o, h1, a, h2, h3, h4, h5, h6⟩ := x.sl i _ hd
      subst h2
      exact ⟨.ref a, h1, q _ L H x e0 ⟨a, rfl, h1, h3, h5, h4, h6⟩⟩
    · rename_i y hd
      obtain ⟨o, h1, v, h2, h3⟩ := x.sl i _ hd
      subst h2
      exact ⟨v, h1, q v L H x e0 h3⟩
    · rename_i xs hd
      obtain ⟨o, h1, a, h2, h3, h4, h5, h6, h7⟩ := x.sl i _ hd
      subst h2
      exact ⟨.ref a, h1, q _ L H x e0 ⟨a, rfl, h1, h3, h5, h4, h6, h7⟩⟩
    · rename_i M hd
      obtain ⟨o, h1, a, A, h2, h3, h4, h5, h6, h7⟩ := x.sl i _ hd
      subst h2
      exact ⟨.ref a, h1, q _ L H x e0 ⟨a, A, rfl, h1, h3, h5, h4, h6, h7⟩⟩
    · rename_i xs hd
      obtain ⟨o, h1, v, h2, h3⟩ := x.sl i _ hd
      subst h2
      exact ⟨v, h1, q v L H x e0 h3⟩
    · rename_i g hd
      obtain ⟨o, h1, v, h2, h3⟩ := x.sl i _ hd
      subst h2
      exact ⟨v, h1, q v L H x e0 h3⟩
    · exact q.elim
def dC (d : PyData)  (ε : Env) (Q : R → Env → Prop) : Prop := Q (.sh d) ε
theorem se_int {i : Int} : SE w (tC (.int i)) (dC (.int i)) := ⟨fun ε A B h q => h _ _ q, fun Z O σ ε L H Q x q => q _ L H x (Ext.refl _ _ _) (.int i)⟩
theorem se_bl {i : Bool} : SE w (tC (.bl i)) (dC (.bool i)) := ⟨fun ε A B h q => h _ _ q, fun Z O σ ε L H Q x q => q _ L H x (Ext.refl _ _ _) (.bl i)⟩
theorem se_str {i : Str} : SE w (tC (.str i)) (dC (.str i)) := ⟨fun ε A B h q => h _ _ q, fun Z O σ ε L H Q x q => q _ L H x (Ext.refl _ _ _) (.str i)⟩
theorem se_non : SE w (tC .non) (dC .none) := ⟨fun ε A B h q => h _ _ q, fun Z O σ ε L H Q x q => q _ L H x (Ext.refl _ _ _) .non⟩
def dRaw (v : V)  (ε : Env) (Q : R → Env → Prop) : Prop := Q (.raw v) ε
structure R2K (r : R2) (φ : PyData → PyData → (R → Prop) → Prop) : Prop where
  mono : ∀ x y (A B : R → Prop), (∀ r, A r → B r) → φ x y A → φ x y B
  run : ∀ (L H : Hp) (x y : V) (dx dy : PyData) (Q : VK), Same L H → VL L H x dx → VL L H y dy → φ dx dy (fun r => ∀ v L' H', Ext none L H L' H' → Same L' H' → VR0 H L' H' v r → Q v H') → r x y H Q
def dOp (φ : PyData → PyData → (R → Prop) → Prop) (f g : DTE)  (ε : Env) (Q : R → Env → Prop) : Prop := f ε fun x ε1 => g ε1 fun y ε2 => match x.dat, y.dat with
  | some dx, some dy => φ dx dy fun r => Q r ε2
  | _, _ => False
theorem se_op {r : R2} {φ : PyData → PyData → (R → Prop) → Prop} (k : R2K r φ) (hf : SE w ta f) (hg : SE w tb g) : SE w (tOp r ta tb) (dOp φ f g) := by
  constructor
  · intro ε A B h q
    refine hf.mono _ _ _ (fun x ε1 q => hg.mono _ _ _ (fun y ε2 q => ?_) q) q
    show match x.dat, y.dat with
      | some dx, some dy => φ dx dy fun r => B r ε2
      | _, _ => False
    split at q
    · exact k.mono _ _ _ _ (fun r q => h _ _ q) q
    · exact q.elim
  · intro Z O σ ε L H Q X q
    refine hf.run Z O σ ε L H _ X (hf.mono _ _ _ (fun x ε1 q => ?_) q)
    intro v L1 H1 X1 e1 r1
    refine hg.run Z O σ ε1 L1 H1 _ X1 (hg.mono _ _ _ (fun y ε2 q => ?_) q)
    intro u L2 H2 X2 e2 r2
    have r1' := r1.mono X1 e2
    split at q
    · rename_i dx dy ex ey
      refine k.run L2 H2 v u dx dy Q X2.lh (r1'.vl ex) (r2.vl ey) (k.mono _ _ _ _ (fun r q => ?_) q)
      intro z L3 H3 e3 s3 r3
      exact q z L3 H3 (X2.step e3 s3) ((e1.trans e2).trans e3.any) ((r3.vr X2).back (e1.trans e2))
    · exact q.elim
def dUn (φ : PyData → (R → Prop) → Prop) (f : DTE)  (ε : Env) (Q : R → Env → Prop) : Prop := f ε fun x ε1 => match x.dat with
  | some dx => φ dx fun r => Q r ε1
  | _ => False
def dTest (f : DTE)  (ε : Env) (Q : Bool → Env → Prop) : Prop := f ε fun r ε1 => match r.dat with
  | some (.bool k) => Q k ε1
  | _ => False
theorem st_test (hf : SE w ta f) : ST w (tTest ta) (dTest f) := by
  constructor
  · intro ε A B h q
    refine hf.mono _ _ _ (fun r ε1 q => ?_) q
    show match r.dat with
      | some (.bool k) => B k ε1
      | _ => False
    split at q
    · exact h _ _ q
    · exact q.elim
  · intro Z O σ ε L H Q X q
    refine hf.run Z O σ ε L H _ X (hf.mono _ _ _ (fun r ε1 q => ?_) q)
    intro v L1 H1 X1 e1 r1
    split at q
    · rename_i k ek
      exact ⟨k, (r1.vl ek).bl, q L1 H1 X1 e1⟩
    · exact q.elim
def truD : PyData → Option Bool
  | .none => some false
  | .bool b => some b
  | .int i => some (i != 0)
  | .list ds => some (!ds.isEmpty)
  | .tuple ds => some (!ds.isEmpty)
  | _ => none
theorem isE {H : Hp} {xs : List V} {ds : List PyData} (h : DVs H xs ds) : xs.isEmpty = ds.isEmpty := by cases h <;> rfl
def dTruth (f : DTE)  (ε : Env) (Q : Bool → Env → Prop) : Prop := f ε fun r ε1 => match r.dat.bind truD with
  | some k => Q k ε1
  | _ => False
theorem tru_of {K : PySem.W.Frag} {L H : Hp} {v : V} {d : PyData} {k : Bool} (x : VL L H v d) (s : Same L H) (e : truD d = some k) : TruV K v H k := by
  cases d with
  | none => rw [x.non]; cases e; rfl
  | bool b => rw [x.bl]; cases e; rfl
  | int i => rw [x.int]; cases e; rfl
  | list ds =>
    obtain ⟨a, xs, rfl, h1, h2⟩ := x.lst s
    cases e
    exact .inl ⟨xs, SqL.of h1, by rw [isE h2]⟩
  | tuple ds =>
    obtain ⟨a, xs, rfl, h1, h2⟩ := x.tup
    cases e
    exact .inr (.inl ⟨xs, (h1.to s).seq, by rw [isE h2]⟩)
  | str _ => cases e
  | dict _ => cases e
theorem st_truth {K : PySem.W.Frag} (hf : SE w ta f) : ST w (fun σ H Q => ta σ H fun x H1 => ∃ k, TruV K x H1 k ∧ Q k H1) (dTruth f) := by
  constructor
  · intro ε A B h q
    refine hf.mono _ _ _ (fun r ε1 q => ?_) q
    show match r.dat.bind truD with
      | some k => B k ε1
      | _ => False
    split at q
    · exact h _ _ q
    · exact q.elim
  · intro Z O σ ε L H Q X q
    refine hf.run Z O σ ε L H _ X (hf.mono _ _ _ (fun r ε1 q => ?_) q)
    intro v L1 H1 X1 e1 r1
    split at q
    · rename_i k ek
      cases ed : r.dat with
      | none => rw [ed] at ek; cases ek
      | some d =>
        rw [ed] at ek
        exact ⟨k, tru_of (r1.vl ed) X1.lh ek, q L1 H1 X1 e1⟩
    · exact q.elim
def dAnd (f g : DTT)  (ε : Env) (Q : Bool → Env → Prop) : Prop := f ε fun c ε1 => if c = true then g ε1 Q else Q false ε1
def dOr (f g : DTT)  (ε : Env) (Q : Bool → Env → Prop) : Prop := f ε fun c ε1 => if c = true then Q true ε1 else g ε1 Q
def dNot (f : DTT)  (ε : Env) (Q : Bool → Env → Prop) : Prop := f ε fun c ε1 => Q (!c) ε1
variable {t u : TT} {p q : DTT}
theorem st_and (hf : ST w t p) (hg : ST w u q) : ST w (tAnd t u) (dAnd p q) := by
  constructor
  · intro ε A B h z
    refine hf.mono _ _ _ (fun c ε1 z => ?_) z
    cases c with
    | true => exact iteT (hg.mono _ _ _ h (by rw [if_pos rfl] at z; exact z))
    | false => exact iteF (h _ _ (by rw [if_neg Bool.false_ne_true] at z; exact z))
  · intro Z O σ ε L H Q X z
    refine hf.run Z O σ ε L H _ X (hf.mono _ _ _ (fun c ε1 z => ?_) z)
    intro L1 H1 X1 e1
    cases c with
    | true =>
      rw [if_pos rfl] at z
      exact iteT (hg.run Z O σ ε1 L1 H1 _ X1 (hg.mono _ _ _ (fun b ε2 z L2 H2 X2 e2 => z L2 H2 X2 (e1.trans e2)) z))
    | false =>
      rw [if_neg Bool.false_ne_true] at z
      exact iteF (z L1 H1 X1 e1)
theorem st_or (hf : ST w t p) (hg : ST w u q) : ST w (tOr t u) (dOr p q) := by
  constructor
  · intro ε A B h z
    refine hf.mono _ _ _ (fun c ε1 z => ?_) z
    cases c with
    | false => exact iteF (hg.mono _ _ _ h (by rw [if_neg Bool.false_ne_true] at z; exact z))
    | true => exact iteT (h _ _ (by rw [if_pos rfl] at z; exact z))
  · intro Z O σ ε L H Q X z
    refine hf.run Z O σ ε L H _ X (hf.mono _ _ _ (fun c ε1 z => ?_) z)
    intro L1 H1 X1 e1
    cases c with
    | false =>
      rw [if_neg Bool.false_ne_true] at z
      exact iteF (hg.run Z O σ ε1 L1 H1 _ X1 (hg.mono _ _ _ (fun b ε2 z L2 H2 X2 e2 => z L2 H2 X2 (e1.trans e2)) z))
    | true =>
      rw [if_pos rfl] at z
      exact iteT (z L1 H1 X1 e1)
theorem st_not (hf : ST w t p) : ST w (tNot t) (dNot p) := by
  constructor
  · intro ε A B h z
    exact hf.mono _ _ _ (fun c ε1 z => h _ _ z) z
  · intro Z O σ ε L H Q X z
    exact hf.run Z O σ ε L H _ X z
def dYes  (ε : Env) (Q : Bool → Env → Prop) : Prop := Q true ε
theorem st_yes : ST w tYes dYes := ⟨fun ε A B h q => h _ _ q, fun Z O σ ε L H Q X z => z L H X (Ext.refl _ _ _)⟩
def dIf (c : DTT) (f g : DTE)  (ε : Env) (Q : R → Env → Prop) : Prop := c ε fun b ε1 => if b = true then f ε1 Q else g ε1 Q
def dAndV (f g : DTE)  (ε : Env) (Q : R → Env → Prop) : Prop := f ε fun r ε1 => match r.dat with
  | some (.bool k) => if k = true then g ε1 Q else Q (.sh (.bool false)) ε1
  | _ => False
def dOrV (f g : DTE)  (ε : Env) (Q : R → Env → Prop) : Prop := f ε fun r ε1 => match r.dat with
  | some (.bool k) => if k = true then Q (.sh (.bool true)) ε1 else g ε1 Q
  | _ => False
def dNotV (f : DTE)  (ε : Env) (Q : R → Env → Prop) : Prop := f ε fun r ε1 => match r.dat with
  | some (.bool b) => Q (.sh (.bool (!b))) ε1
  | _ => False
theorem se_andV (hf : SE w ta f) (hg : SE w tb g) : SE w (tAndV ta tb) (dAndV f g) := by
  constructor
  · intro ε A B h z
    refine hf.mono _ _ _ (fun r ε1 z => ?_) z
    split at z
    · rename_i k _
      cases k with
      | true => exact iteT (hg.mono _ _ _ h (by rw [if_pos rfl] at z; exact z))
      | false => exact iteF (h _ _ (by rw [if_neg Bool.false_ne_true] at z; exact z))
    · exact z.elim
  · intro Z O σ ε L H Q X z
    refine hf.run Z O σ ε L H _ X (hf.mono _ _ _ (fun r ε1 z => ?_) z)
    intro v L1 H1 X1 e1 r1
    split at z
    · rename_i k ek
      cases k with
      | true =>
        rw [if_pos rfl] at z
        exact ⟨true, (r1.vl ek).bl, iteT (hg.run Z O σ ε1 L1 H1 _ X1 (hg.mono _ _ _ (fun b ε2 z v L2 H2 X2 e2 r => z v L2 H2 X2 (e1.trans e2) (r.back e1)) z))⟩
      | false =>
        rw [if_neg Bool.false_ne_true] at z
        exact ⟨false, (r1.vl ek).bl, iteF (z _ L1 H1 X1 e1 (.bl false))⟩
    · exact z.elim
theorem se_notV (hf : SE w ta f) : SE w (tNotV ta) (dNotV f) := by
  constructor
  · intro ε A B h z
    refine hf.mono _ _ _ (fun r ε1 z => ?_) z
    show match r.dat with
      | some (.bool b) => B (.sh (.bool (!b))) ε1
      | _ => False
    split at z
    · exact h _ _ z
    · exact z.elim
  · intro Z O σ ε L H Q X z
    refine hf.run Z O σ ε L H _ X (hf.mono _ _ _ (fun r ε1 z => ?_) z)
    intro v L1 H1 X1 e1 r1
    split at z
    · rename_i b ek
      exact ⟨b, (r1.vl ek).bl, z _ L1 H1 X1 e1 (.bl (!b))⟩
    · exact z.elim
/-- a op b op' c -/
def dChain (φ ψ : PyData → PyData → (R → Prop) → Prop) (f g h : DTE)  (ε : Env) (Q : R → Env → Prop) : Prop := f ε fun x ε1 => g ε1 fun y ε2 => match x.dat, y.dat with
  | some dx, some dy => φ dx dy fun r => match r with
    | .sh (.bool k) => if k = true then (h ε2 fun z ε3 => match z.dat with
      | some dz => ψ dy dz fun r => Q r ε3
      | _ => False) else Q (.sh (.bool false)) ε2
    | _ => False
  | _, _ => False
def R.pub : R → R
  | .nw ds => .sh (.list ds)
  | r => r
theorem R.pub_nw (r : R) (ds : List PyData) : r.pub ≠ .nw ds := by
  cases r <;> exact fun h => nomatch h
theorem publ {Z : Zx} {O : Addr → Prop} {σ : L2.St} {ε : Env} {L H L' H' : Hp} {v : V} {r : R} (x : Rep w Z O L' H' σ ε) (e : Ext Z.b L H L' H') (h : VR w Z O σ H L' H' v r) : ∃ L2, Rep w Z O L2 H' σ ε ∧ Ext Z.b L H L2 H' ∧ VR w Z O σ H L2 H' v r.pub := by
  cases r with
  | nw ds =>
    obtain ⟨L2, h1, h2, h3⟩ := Lp.pub x e h
    exact ⟨L2, h1, h2, h3⟩
  | _ => exact ⟨L', x, e, h⟩
def dNil  (ε : Env) (Q : List R → Env → Prop) : Prop := Q [] ε
def dCons (f : DTE) (g : DTA)  (ε : Env) (Q : List R → Env → Prop) : Prop := f ε fun r ε1 => g ε1 fun rs ε2 => Q (r.pub :: rs) ε2
theorem sa_nil : SA w 0 tNil dNil := ⟨fun ε A B h q => h _ _ q, fun Z O σ ε L H Q X z => z _ L H X (Ext.refl _ _ _) .nil rfl (fun _ h => nomatch h)⟩
theorem sa_cons {n : Nat} {tr : TA} {g : DTA} (hf : SE w ta f) (hg : SA w n tr g) : SA w (n + 1) (tCons ta tr) (dCons f g) := by
  constructor
  · intro ε A B h z
    exact hf.mono _ _ _ (fun r ε1 z => hg.mono _ _ _ (fun rs ε2 z => h _ _ z) z) z
  · intro Z O σ ε L H Q X z
    refine hf.run Z O σ ε L H _ X (hf.mono _ _ _ (fun r ε1 z => ?_) z)
    intro v L1 H1 X1 e1 r1
    obtain ⟨L1', X1', e1', r1'⟩ := publ X1 e1 r1
    refine hg.run Z O σ ε1 L1' H1 _ X1' (hg.mono _ _ _ (fun rs ε2 z => ?_) z)
    intro vs L2 H2 X2 e2 rs2 hl np
    refine z (v :: vs) L2 H2 X2 (e1'.trans e2) (.cons (r1'.mono X1' e2) (rs2.back e1')) (by rw [List.length_cons, hl]) (fun x hx ds => ?_)
    rcases List.mem_cons.mp hx with rfl | hx
    · exact R.pub_nw r ds
    · exact np x hx ds
/-- all of them data that stands still -/
def shs : List R → Option (List PyData)
  | [] => some []
  | .sh d :: rs => match shs rs with
    | some ds => some (d :: ds)
    | none => none
  | _ => none
theorem shs_ok {Z : Zx} {O : Addr → Prop} {σ : L2.St} {Hs L H : Hp} : ∀ {rs : List R} {vs : List V} {ds : List PyData}, VRs w Z O σ Hs L H vs rs → shs rs = some ds → DVs L vs ds
  | [], _, _, .nil, e => by cases e; exact .nil
  | .sh d :: rs, _, ds, .cons a r, e => by
    unfold shs at e
    split at e
    · rename_i es h
      cases e
      exact .cons a (shs_ok r h)
    · cases e
  | .nw _ :: _, _, _, .cons _ _, e => by cases e
  | .br _ _ :: _, _, _, .cons _ _, e => by cases e
  | .bx :: _, _, _, .cons _ _, e => by cases e
  | .raw _ :: _, _, _, .cons _ _, e => by cases e
  | .sr _ _ _ :: _, _, _, .cons _ _, e => by cases e
  | .exn _ :: _, _, _, .cons _ _, e => by cases e
  | .dnw _ :: _, _, _, .cons _ _, e => by cases e
  | .dbr _ _ :: _, _, _, .cons _ _, e => by cases e
  | .srt _ _ :: _, _, _, .cons _ _, e => by cases e
  | .dsh _ :: _, _, _, .cons _ _, e => by cases e
  | .gen _ :: _, _, _, .cons _ _, e => by cases e
def dTup (f : DTA)  (ε : Env) (Q : R → Env → Prop) : Prop := f ε fun rs ε1 => match shs rs with
  | some ds => Q (.sh (.tuple ds)) ε1
  | none => False
def dLst (f : DTA)  (ε : Env) (Q : R → Env → Prop) : Prop := f ε fun rs ε1 => match shs rs with
  | some ds => Q (.nw ds) ε1
  | none => False
theorem se_tup {n : Nat} {t : TA} {f : DTA} (hf : SA w n t f) (hn : n ≤ sizeLine := by decide) : SE w (tTupS t) (dTup f) := by
  constructor
  · intro ε A B h z
    refine hf.mono _ _ _ (fun rs ε1 z => ?_) z
    split at z
    · exact h _ _ z
    · exact z.elim
  · intro Z O σ ε L H Q X z
    refine hf.run Z O σ ε L H _ X (hf.mono _ _ _ (fun rs ε1 z => ?_) z)
    intro vs L1 H1 X1 e1 r1 hl np
    split at z
    · rename_i ds hd
      refine ⟨by rw [r1.len, hl]; exact hn, fun p o np no => ?_⟩
      have e2 : Ext none L1 H1 (upd L1 p (.frz o (.tup vs))) (upd H1 p (.frz o (.tup vs))) := Ext.new X1.lh np
      exact z _ _ _ (X1.step e2 (same_both X1.lh)) (e1.trans e2.any) (.tup ⟨o, no, upd_same⟩ ((shs_ok r1 hd).to e2.ll))
    · exact z.elim
theorem se_lst {n : Nat} {t : TA} {f : DTA} (hf : SA w n t f) (hn : n ≤ sizeLine := by decide) : SE w (tLst t) (dLst f) := by
  constructor
  · intro ε A B h z
    refine hf.mono _ _ _ (fun rs ε1 z => ?_) z
    split at z
    · exact h _ _ z
    · exact z.elim
  · intro Z O σ ε L H Q X z
    refine hf.run Z O σ ε L H _ X (hf.mono _ _ _ (fun rs ε1 z => ?_) z)
    intro vs L1 H1 X1 e1 r1 hl np
    split at z
    · rename_i ds hd
      refine ⟨by rw [r1.len, hl]; exact hn, fun p np => ?_⟩
      have e2 : Ext none L1 H1 L1 (upd H1 p (.lst vs)) := Ext.own np
      refine z _ _ _ (X1.step e2 (same_own X1.lh (X1.lh.free np))) (e1.trans e2.any) (VR.back (VR0.vr (r := .nw ds) ⟨p, vs, rfl, np, X1.lh.free np, upd_same, shs_ok r1 hd⟩ X1) e1)
    · exact z.elim
def dats : List R → Option (List PyData)
  | [] => some []
  | r :: rs => match r.dat, dats rs with
    | some d, some ds => some (d :: ds)
    | _, _ => none
inductive VLs (L H : Hp) : List V → List PyData → Prop
  | nil : VLs L H [] []
  | cons {v : V} {vs : List V} {d : PyData} {ds : List PyData} : VL L H v d → VLs L H vs ds → VLs L H (v :: vs) (d :: ds)
theorem dats_ok {Z : Zx} {O : Addr → Prop} {σ : L2.St} {Hs L H : Hp} : ∀ {rs : List R} {vs : List V} {ds : List PyData}, VRs w Z O σ Hs L H vs rs → dats rs = some ds → VLs L H vs ds
  | [], _, _, .nil, e => by cases e; exact .nil
  | r :: rs, _, ds, .cons a b, e => by
    unfold dats at e
    split at e
    · rename_i d es h1 h2
      cases e
      exact .cons (a.vl h1) (dats_ok b h2)
    · cases e
structure RCK (r : List V → Hp → VK → Prop) (φ : List PyData → (R → Prop) → Prop) : Prop where
  mono : ∀ x (A B : R → Prop), (∀ r, A r → B r) → φ x A → φ x B
  run : ∀ (L H : Hp) (xs : List V) (ds : List PyData) (Q : VK), Same L H → VLs L H xs ds → φ ds (fun r => ∀ v L' H', Ext none L H L' H' → Same L' H' → VR0 H L' H' v r → Q v H') → r xs H Q
def dCB (φ : List PyData → (R → Prop) → Prop) (f : DTA)  (ε : Env) (Q : R → Env → Prop) : Prop := f ε fun rs ε1 => match dats rs with
  | some ds => φ ds fun r => Q r ε1
  | _ => False
theorem se_cb {n : Nat} {t : TA} {f : DTA} {r : List V → Hp → VK → Prop} {φ : List PyData → (R → Prop) → Prop} (k : RCK r φ) (hf : SA w n t f) : SE w (tCB r t) (dCB φ f) := by
  constructor
  · intro ε A B h z
    refine hf.mono _ _ _ (fun rs ε1 z => ?_) z
    split at z
    · exact k.mono _ _ _ (fun r q => h _ _ q) z
    · exact z.elim
  · intro Z O σ ε L H Q X z
    refine hf.run Z O σ ε L H _ X (hf.mono _ _ _ (fun rs ε1 z => ?_) z)
    intro vs L1 H1 X1 e1 r1 hl np
    split at z
    · rename_i ds hd
      refine k.run L1 H1 vs ds Q X1.lh (dats_ok r1 hd) (k.mono _ _ _ (fun r q => ?_) z)
      intro z L3 H3 e3 s3 r3
      exact q z L3 H3 (X1.step e3 s3) (e1.trans e3.any) ((r3.vr X1).back e1)
    · exact z.elim
abbrev DTO := Env → (Option Int → Env → Prop) → Prop
def dNoP  (ε : Env) (Q : Option Int → Env → Prop) : Prop := Q none ε
def dPart (f : DTE)  (ε : Env) (Q : Option Int → Env → Prop) : Prop := f ε fun r ε1 => match r.dat with
  | some (.int i) => Q (some i) ε1
  | _ => False
def dSl (φ : PyData → Option Int → Option Int → (R → Prop) → Prop) (f : DTE) (l h : DTO)  (ε : Env) (Q : R → Env → Prop) : Prop := f ε fun r ε1 => l ε1 fun i ε2 => h ε2 fun j ε3 => match r.dat with
  | some d => φ d i j fun r => Q r ε3
  | _ => False
end
end Lp

namespace Lp
open PySem PySem.Spec PyProof.Rows L2
structure DEnds where
  nx : Env → Prop
  rt : R → Env → Prop
  bk : Env → Prop := fun _ => False
  ct : Env → Prop := fun _ => False
structure DEnds.le (A B : DEnds) : Prop where
  nx : ∀ ε, A.nx ε → B.nx ε
  rt : ∀ r ε, A.rt r ε → B.rt r ε
  bk : ∀ ε, A.bk ε → B.bk ε
  ct : ∀ ε, A.ct ε → B.ct ε
theorem DEnds.le.refl (A : DEnds) : A.le A := ⟨fun _ h => h, fun _ _ h => h, fun _ h => h, fun _ h => h⟩
abbrev DTS := DEnds → Env → Prop
structure EndsOk (w : Wx) (Z : Zx) (D : Ends) (Δ : DEnds) : Prop where
  nx : ∀ (O : Addr → Prop) (σ : L2.St) (ε : Env) (L H : Hp), Rep w Z O L H σ ε → Δ.nx ε → D.nx σ H
  rt : ∀ (O : Addr → Prop) (σ : L2.St) (ε : Env) (L H : Hp) (v : V) (r : R), Rep w Z O L H σ ε → VR0 Z.H0 L H v r → Δ.rt r ε → D.rt v H
  bk : ∀ (O : Addr → Prop) (σ : L2.St) (ε : Env) (L H : Hp), Rep w Z O L H σ ε → Δ.bk ε → D.bk σ H
  ct : ∀ (O : Addr → Prop) (σ : L2.St) (ε : Env) (L H : Hp), Rep w Z O L H σ ε → Δ.ct ε → D.ct σ H
structure SS (w : Wx) (t : TS) (f : DTS) : Prop where
  mono : ∀ Δ Δ' ε, DEnds.le Δ Δ' → f Δ ε → f Δ' ε
  run : ∀ (Z : Zx) (O : Addr → Prop) (σ : L2.St) (ε : Env) (L H : Hp) (D : Ends) (Δ : DEnds), Rep w Z O L H σ ε → EndsOk w Z D Δ → f Δ ε → t D σ H
section
variable {w : Wx} {Z : Zx} {O : Addr → Prop} {σ : L2.St} {ε : Env} {L H : Hp}
theorem get_set {α : Type} {l : List α} {i j : Nat} {x y : α} (h : (l.set i x)[j]? = some y) : (i = j ∧ y = x ∧ j < l.length) ∨ (i ≠ j ∧ l[j]? = some y) := by
  rw [List.getElem?_set] at h
  split at h
  · rename_i e
    subst e
    split at h
    · cases h; exact .inl ⟨rfl, rfl, by assumption⟩
    · cases h
  · rename_i e
    exact .inr ⟨e, h⟩
/-- a slot takes a value -/
theorem Rep.put0 (x : Rep w Z O L H σ ε) {i : Nat} {v : V} {y : SV} (O' : Addr → Prop) (ho : ∀ a, O a → O' a) (hn : ∀ a, O' a → H a ≠ none ∧ Z.H0 a = none) (h : SlotR w Z O' L H (some v) y) (hd : Own y = true → ∀ a, v = .ref a → ¬ O a) : Rep w Z O' L H (σ.set i (some v)) (ε.set i y) := by
  have own : ∀ (j : Nat) (z : SV) (a : Addr), ε.s[j]? = some z → Own z = true → σ[j]? = some (some (.ref a)) → O a := by
    intro j z a hz ho ha
    obtain ⟨o, h1, h2⟩ := x.sl j z hz
    rw [ha] at h1
    cases h1
    cases z with
    | ow ds => obtain ⟨b, xs, e, h3, _⟩ := h2; cases e; exact h3
    | st S n => obtain ⟨b, e, h3, _⟩ := h2; cases e; exact h3
    | dco xs => obtain ⟨b, e, h3, _⟩ := h2; cases e; exact h3
    | sto M => obtain ⟨b, A, e, h3, _⟩ := h2; cases e; exact h3
    | _ => cases ho
  refine ⟨x.lh, x.pn, x.ex, x.bo, hn, ?_, fun j z hz => ?_, fun j k z z' a hjk hz hz' oz oz' hj hk => ?_, x.ph⟩
  · show (σ.set i (some v)).length = (ε.s.set i y).length
    rw [List.length_set, List.length_set]; exact x.len
  · rcases get_set hz with ⟨rfl, rfl, hl⟩ | ⟨ne, hz⟩
    · refine ⟨some v, ?_, h⟩
      rw [List.getElem?_set, if_pos rfl, if_pos (by rw [x.len]; exact hl)]
    · obtain ⟨o, h1, h2⟩ := x.sl j z hz
      refine ⟨o, by rw [List.getElem?_set, if_neg ne]; exact h1, ?_⟩
      cases z with
      | ow ds => obtain ⟨a, xs, e1, e2, e3⟩ := h2; exact ⟨a, xs, e1, ho a e2, e3⟩
      | st S n => obtain ⟨a, e1, e2, e3⟩ := h2; exact ⟨a, e1, ho a e2, e3⟩
      | dco xs => obtain ⟨a, e1, e2, e3⟩ := h2; exact ⟨a, e1, ho a e2, e3⟩
      | sto M => obtain ⟨a, A, e1, e2, e3⟩ := h2; exact ⟨a, A, e1, ho a e2, e3⟩
      | _ => exact h2
  · rcases get_set hz with ⟨rfl, rfl, hl⟩ | ⟨ne, hz1⟩
    · rcases get_set hz' with ⟨rfl, _, _⟩ | ⟨ne', hz'⟩
      · exact hjk rfl
      · rw [List.getElem?_set, if_pos rfl, if_pos (by rw [x.len]; exact hl)] at hj
        rw [List.getElem?_set, if_neg ne'] at hk
        exact hd oz a (Option.some.inj (Option.some.inj hj)) (own k z' a hz' oz' hk)
    · rw [List.getElem?_set, if_neg ne] at hj
      rcases get_set hz' with ⟨e1, e2, hl⟩ | ⟨ne', hz2⟩
      · subst e1
        subst e2
        rw [List.getElem?_set, if_pos rfl, if_pos (by rw [x.len]; exact hl)] at hk
        exact hd oz' a (Option.some.inj (Option.some.inj hk)) (own j z a hz1 oz hj)
      · rw [List.getElem?_set, if_neg ne'] at hk
        exact x.di j k z z' a hjk hz1 hz2 oz oz' hj hk
theorem Rep.sh (x : Rep w Z O L H σ ε) {i : Nat} {v : V} {d : PyData} (h : DV L v d) : Rep w Z O L H (σ.set i (some v)) (ε.set i (.sh d)) :=
  x.put0 O (fun _ h => h) x.oh ⟨v, rfl, h⟩ (fun z => nomatch z)
theorem Rep.exnS (x : Rep w Z O L H σ ε) {i : Nat} {v : V} {y : Xn} (h : XV w L v y) : Rep w Z O L H (σ.set i (some v)) (ε.set i (.exn y)) :=
  x.put0 O (fun _ h => h) x.oh ⟨v, rfl, h⟩ (fun z => nomatch z)
theorem Rep.rawS (x : Rep w Z O L H σ ε) {i : Nat} {v : V} : Rep w Z O L H (σ.set i (some v)) (ε.set i (.raw v)) :=
  x.put0 O (fun _ h => h) x.oh rfl (fun z => nomatch z)
theorem Rep.dsS (x : Rep w Z O L H σ ε) {i : Nat} {v : V} {xs : List DRow} (h : DVd L v xs) : Rep w Z O L H (σ.set i (some v)) (ε.set i (.dsh xs)) :=
  x.put0 O (fun _ h => h) x.oh ⟨v, rfl, h⟩ (fun e => nomatch e)
theorem Rep.genS (x : Rep w Z O L H σ ε) {i : Nat} {v : V} {g : Gn} (h : g.ok L v) : Rep w Z O L H (σ.set i (some v)) (ε.set i (.gen g)) :=
  x.put0 O (fun _ h => h) x.oh ⟨v, rfl, h⟩ (fun e => nomatch e)
/-- an object that nobody holds is published -/
theorem Rep.pubO (x : Rep w Z O L H σ ε) {a : Addr} {o : HO} (h2 : ¬ O a) (h3 : Z.H0 a = none) (h4 : L a = none) (h5 : H a = some o) : Rep w Z O (upd L a o) H σ ε := by
  have s1 : Same L (upd L a o) := same_upd h4
  refine ⟨same_pub x.lh h5, x.pn.trans s1, ⟨x.ex.ll.trans s1, x.ex.hh, x.ex.dom, fun b hb hd => ?_⟩, fun b hb => ?_, x.oh, x.len, fun i y hy => ?_, x.di, x.ph⟩
  · rw [upd_ne (ne_at hd h3)]; exact x.ex.fr b hb hd
  · obtain ⟨q1, q2, q3⟩ := x.bo b hb
    exact ⟨by rw [upd_ne (ne_at q3 h3)]; exact q1, q2, q3⟩
  · obtain ⟨o, q1, q2⟩ := x.sl i y hy
    refine ⟨o, q1, ?_⟩
    cases y with
    | un => trivial
    | sh d =>
      obtain ⟨v, e1, e2⟩ := q2
      exact ⟨v, e1, e2.to s1⟩
    | ow ds =>
      obtain ⟨b, ys, e1, e2, e3, e4, e5, e6⟩ := q2
      exact ⟨b, ys, e1, e2, by rw [upd_ne (fun z => h2 (by rw [← z]; exact e2))]; exact e3, e4, e5, e6.to s1⟩
    | bx => exact q2
    | st S n =>
      obtain ⟨b, e1, e2, e3, e4, e5⟩ := q2
      exact ⟨b, e1, e2, by rw [upd_ne (fun z => h2 (by rw [← z]; exact e2))]; exact e3, e4, e5⟩
    | raw u => exact q2
    | exn x => obtain ⟨v, e1, e2⟩ := q2; exact ⟨v, e1, e2.to s1⟩
    | dco xs =>
      obtain ⟨b, e1, e2, e3, e4, e5, e6⟩ := q2
      exact ⟨b, e1, e2, by rw [upd_ne (fun z => h2 (by rw [← z]; exact e2))]; exact e3, e4, e5, e6.to s1⟩
    | sto M =>
      obtain ⟨b, A, e1, e2, e3, e4, e5, e6⟩ := q2
      exact ⟨b, A, e1, e2, by rw [upd_ne (fun z => h2 (by rw [← z]; exact e2))]; exact e3, e4, e5, e6.to s1⟩
    | dsh xs => obtain ⟨v, e1, e2⟩ := q2; exact ⟨v, e1, e2.to s1⟩
    | gen g => obtain ⟨v, e1, e2⟩ := q2; exact ⟨v, e1, g.mono s1 e2⟩
/-- what is stored of a value: own or for all to see -/
def val (own : Bool) : R → Option SV
  | .sh d => some (.sh d)
  | .nw ds => some (if own = true then .ow ds else .sh (.list ds))
  | .raw v => some (.raw v)
  | .exn x => some (.exn x)
  | .dnw xs => some (if own = true then .dco xs else .dsh xs)
  | .dsh xs => some (.dsh xs)
  | .gen g => some (.gen g)
  | _ => none
/-- a new list at a -/
def nwAt (r : R) (v : V) (a : Addr) : Prop := ((∃ ds, r = .nw ds) ∨ ∃ xs, r = .dnw xs) ∧ v = .ref a
theorem Rep.put {Hs : Hp} (x : Rep w Z O L H σ ε) {i : Nat} {own : Bool} {v : V} {r : R} {y : SV} (h : VR w Z O σ Hs L H v r) (hy : val own r = some y) : ∃ O' L', Rep w Z O' L' H (σ.set i (some v)) (ε.set i y) ∧ Same L L' ∧ (∀ a, L a = none → ¬ nwAt r v a → L' a = none) ∧ ∀ a, O' a → O a ∨ nwAt r v a := by
  cases r with
  | sh d =>
    cases hy
    exact ⟨O, L, x.sh h, Same.refl L, fun a h _ => h, fun a h => .inl h⟩
  | nw ds =>
    cases own with
    | true =>
      cases hy
      obtain ⟨a, xs, rfl, h1, h2, h3, h4, h5, h6⟩ := h
      refine ⟨fun b => O b ∨ b = a, L, x.put0 (fun b => O b ∨ b = a) (fun b h => .inl h) (fun b hb => ?_) ⟨a, xs, rfl, .inr rfl, h4, h3, h5, h6⟩ (fun _ b e => by cases e; exact h2), Same.refl L, fun b h _ => h, fun b hb => hb.imp id fun z => ⟨.inl ⟨_, rfl⟩, by rw [z]⟩⟩
      rcases hb with hb | rfl
      · exact x.oh b hb
      · exact ⟨by rw [h5]; exact (fun z => nomatch z), h3⟩
    | false =>
      cases hy
      have h' := h
      obtain ⟨a, xs, rfl, h1, h2, h3, h4, h5, h6⟩ := h'
      have s1 : Same L (upd L a (.lst xs)) := same_upd h4
      obtain ⟨L2, X2, e2, d2⟩ : ∃ L2, Rep w Z O L2 H σ ε ∧ L2 = upd L a (.lst xs) ∧ DV L2 (.ref a) (.list ds) := by
        refine ⟨_, ⟨same_pub x.lh h5, x.pn.trans s1, ⟨x.ex.ll.trans s1, x.ex.hh, x.ex.dom, fun b hb hd => ?_⟩, fun b hb => ?_, x.oh, x.len, fun i y hy => ?_, x.di, x.ph⟩, rfl, .lst upd_same (h6.to s1)⟩
        · rw [upd_ne (ne_at hd h3)]; exact x.ex.fr b hb hd
        · obtain ⟨q1, q2, q3⟩ := x.bo b hb
          exact ⟨by rw [upd_ne (ne_at q3 h3)]; exact q1, q2, q3⟩
        · obtain ⟨o, q1, q2⟩ := x.sl i y hy
          refine ⟨o, q1, ?_⟩
          cases y with
          | un => trivial
          | sh d =>
            obtain ⟨v, e1, e2⟩ := q2
            exact ⟨v, e1, e2.to s1⟩
          | ow ds =>
            obtain ⟨b, ys, e1, e2, e3, e4, e5, e6⟩ := q2
            exact ⟨b, ys, e1, e2, by rw [upd_ne (fun z => h2 (by rw [← z]; exact e2))]; exact e3, e4, e5, e6.to s1⟩
          | bx => exact q2
          | st S n =>
            obtain ⟨b, e1, e2, e3, e4, e5⟩ := q2
            exact ⟨b, e1, e2, by rw [upd_ne (fun z => h2 (by rw [← z]; exact e2))]; exact e3, e4, e5⟩
          | raw u => exact q2
          | exn x => obtain ⟨v, e1, e2⟩ := q2; exact ⟨v, e1, e2.to s1⟩
          | dco xs =>
            obtain ⟨b, e1, e2, e3, e4, e5, e6⟩ := q2
            exact ⟨b, e1, e2, by rw [upd_ne (fun z => h2 (by rw [← z]; exact e2))]; exact e3, e4, e5, e6.to s1⟩
          | sto M =>
            obtain ⟨b, A, e1, e2, e3, e4, e5, e6⟩ := q2
            exact ⟨b, A, e1, e2, by rw [upd_ne (fun z => h2 (by rw [← z]; exact e2))]; exact e3, e4, e5, e6.to s1⟩
          | dsh xs => obtain ⟨v, e1, e2⟩ := q2; exact ⟨v, e1, e2.to s1⟩
          | gen g => obtain ⟨v, e1, e2⟩ := q2; exact ⟨v, e1, g.mono s1 e2⟩
      refine ⟨O, L2, X2.sh d2, by rw [e2]; exact s1, fun b hb nb => ?_, fun b hb => .inl hb⟩
      rw [e2, upd_ne (fun z => nb ⟨.inl ⟨_, rfl⟩, by rw [z]⟩)]; exact hb
  | raw u =>
    cases hy
    cases (show v = u from h)
    exact ⟨O, L, x.rawS, Same.refl L, fun a h _ => h, fun a h => .inl h⟩
  | exn y =>
    cases hy
    exact ⟨O, L, x.exnS h, Same.refl L, fun a h _ => h, fun a h => .inl h⟩
  | br i ds => cases hy
  | bx => cases hy
  | sr i S n => cases hy
  | dbr i xs => cases hy
  | srt i M => cases hy
  | dsh xs =>
    cases hy
    exact ⟨O, L, x.dsS h, Same.refl L, fun a h _ => h, fun a h => .inl h⟩
  | gen g =>
    cases hy
    exact ⟨O, L, x.genS h, Same.refl L, fun a h _ => h, fun a h => .inl h⟩
  | dnw xs =>
    cases own with
    | true =>
      cases hy
      obtain ⟨a, rfl, h1, h2, h3, h4, h5, h6⟩ := h
      refine ⟨fun b => O b ∨ b = a, L, x.put0 (fun b => O b ∨ b = a) (fun b h => .inl h) (fun b hb => ?_) ⟨a, rfl, .inr rfl, h4, h3, h5, h6⟩ (fun _ b e => by cases e; exact h2), Same.refl L, fun b h _ => h, fun b hb => hb.imp id fun z => ⟨.inr ⟨_, rfl⟩, by rw [z]⟩⟩
      rcases hb with hb | rfl
      · exact x.oh b hb
      · exact ⟨h5.ne, h3⟩
    | false =>
      cases hy
      obtain ⟨a, rfl, h1, h2, h3, h4, ⟨ob, h5⟩, h6⟩ := h
      have s1 : Same L (upd L a (DctO ob a xs)) := same_upd h4
      obtain ⟨L2, X2, e2, d2⟩ : ∃ L2, Rep w Z O L2 H σ ε ∧ L2 = upd L a (DctO ob a xs) ∧ DVd L2 (.ref a) xs :=
        ⟨_, x.pubO h2 h3 h4 h5, rfl, a, rfl, ⟨ob, upd_same⟩, h6.to s1⟩
      refine ⟨O, L2, X2.dsS d2, by rw [e2]; exact s1, fun b hb nb => ?_, fun b hb => .inl hb⟩
      rw [e2, upd_ne (fun z => nb ⟨.inr ⟨_, rfl⟩, by rw [z]⟩)]; exact hb
end
section
variable {w : Wx} {ta tb tc : TE} {f g h : DTE} {t u : TS} {p q : DTS}
def dNext  (Δ : DEnds) (ε : Env) : Prop := Δ.nx ε
theorem ss_next : SS w tNext dNext := ⟨fun _ _ ε l z => l.nx ε z, fun Z O σ ε L H D Δ X E z => E.nx O σ ε L H X z⟩
def dSeq (p q : DTS)  (Δ : DEnds) (ε : Env) : Prop := p { Δ with nx := q Δ } ε
theorem ss_seq (hp : SS w t p) (hq : SS w u q) : SS w (tSeq t u) (dSeq p q) :=
  ⟨fun Δ Δ' ε l z => hp.mono { Δ with nx := q Δ } _ ε ⟨fun ε z => hq.mono _ _ ε l z, l.rt, l.bk, l.ct⟩ z,
   fun Z O σ ε L H D Δ X E z => hp.run Z O σ ε L H _ { Δ with nx := q Δ } X ⟨fun O σ ε L H X z => hq.run Z O σ ε L H D Δ X E z, E.rt, E.bk, E.ct⟩ z⟩
def dBreak  (Δ : DEnds) (ε : Env) : Prop := Δ.bk ε
def dCont  (Δ : DEnds) (ε : Env) : Prop := Δ.ct ε
def dNever  (_ : DEnds) (_ : Env) : Prop := False
def dDrop (f : DTE)  (Δ : DEnds) (ε : Env) : Prop := f ε fun _ ε1 => Δ.nx ε1
def R.ret : R → Option R
  | .sh d => some (.sh d)
  | .nw ds => some (.nw ds)
  | .br _ ds => some (.nw ds)
  | .dnw xs => some (.dnw xs)
  | .dbr _ xs => some (.dnw xs)
  | .dsh xs => some (.dsh xs)
  | .gen g => some (.gen g)
  | _ => none
def dRet (f : DTE)  (Δ : DEnds) (ε : Env) : Prop := f ε fun r ε1 => match r.ret with
  | some r => Δ.rt r ε1
  | none => False
theorem VR.ret {Z : Zx} {O : Addr → Prop} {σ : L2.St} {Hs L H : Hp} {v : V} {r r' : R} (x : VR w Z O σ Hs L H v r) (e : r.ret = some r') : VR0 Z.H0 L H v r' := by
  cases r with
  | sh d => cases e; exact x
  | nw ds =>
    cases e
    obtain ⟨a, xs, rfl, h1, h2, h3, h4, h5, h6⟩ := x
    exact ⟨a, xs, rfl, h3, h4, h5, h6⟩
  | br i ds =>
    cases e
    obtain ⟨a, xs, rfl, h1, h2, h3, h4, h5, h6⟩ := x
    exact ⟨a, xs, rfl, h3, h4, h5, h6⟩
  | bx => cases e
  | raw u => cases e
  | sr i S n => cases e
  | exn y => cases e
  | dnw xs =>
    cases e
    obtain ⟨a, rfl, h1, h2, h3, h4, h5, h6⟩ := x
    exact ⟨a, rfl, h3, h4, h5, h6⟩
  | dbr i xs =>
    cases e
    obtain ⟨a, rfl, h1, h2, h3, h4, h5, h6⟩ := x
    exact ⟨a, rfl, h3, h4, h5, h6⟩
  | srt i M => cases e
  | dsh xs => cases e; exact x
  | gen g => cases e; exact x
theorem ss_ret (hf : SE w ta f) : SS w (tRet ta) (dRet f) := by
  constructor
  · intro Δ Δ' ε l z
    refine hf.mono _ _ _ (fun r ε1 z => ?_) z
    split at z
    · exact l.rt _ _ z
    · exact z.elim
  · intro Z O σ ε L H D Δ X E z
    refine hf.run Z O σ ε L H _ X (hf.mono _ _ _ (fun r ε1 z => ?_) z)
    intro v L1 H1 X1 e1 r1
    split at z
    · rename_i r' hr
      exact E.rt O σ ε1 L1 H1 v r' X1 (r1.ret hr) z
    · exact z.elim
def dRetN  (Δ : DEnds) (ε : Env) : Prop := Δ.rt (.sh .none) ε
def dIfS (c : DTT) (p q : DTS)  (Δ : DEnds) (ε : Env) : Prop := c ε fun b ε1 => if b = true then p Δ ε1 else q Δ ε1
theorem ss_if {c : TT} {k : DTT} (hc : ST w c k) (hp : SS w t p) (hq : SS w u q) : SS w (tIfS c t u) (dIfS k p q) := by
  constructor
  · intro Δ Δ' ε l z
    refine hc.mono _ _ _ (fun b ε1 z => ?_) z
    cases b with
    | true => exact iteT (hp.mono _ _ _ l (by rw [if_pos rfl] at z; exact z))
    | false => exact iteF (hq.mono _ _ _ l (by rw [if_neg Bool.false_ne_true] at z; exact z))
  · intro Z O σ ε L H D Δ X E z
    refine hc.run Z O σ ε L H _ X (hc.mono _ _ _ (fun b ε1 z => ?_) z)
    intro L1 H1 X1 e1
    cases b with
    | true => exact iteT (hp.run Z O σ ε1 L1 H1 D Δ X1 E (by rw [if_pos rfl] at z; exact z))
    | false => exact iteF (hq.run Z O σ ε1 L1 H1 D Δ X1 E (by rw [if_neg Bool.false_ne_true] at z; exact z))
def dSetG (own : Bool) (i : Nat) (f : DTE)  (Δ : DEnds) (ε : Env) : Prop := f ε fun r ε1 => match val own r with
  | some x => Δ.nx (ε1.set i x)
  | none => False
theorem ss_set (own : Bool) {i : Nat} (hf : SE w ta f) : SS w (tAsg ta (gName i)) (dSetG own i f) := by
  constructor
  · intro Δ Δ' ε l z
    refine hf.mono _ _ _ (fun r ε1 z => ?_) z
    split at z
    · exact l.nx _ z
    · exact z.elim
  · intro Z O σ ε L H D Δ X E z
    refine hf.run Z O σ ε L H _ X (hf.mono _ _ _ (fun r ε1 z => ?_) z)
    intro v L1 H1 X1 e1 r1
    split at z
    · rename_i x hx
      obtain ⟨O', L', X', _⟩ := X1.put (i := i) r1 hx
      exact E.nx O' _ _ L' H1 X' z
    · exact z.elim
def dPar (i : Nat) (oi : Bool) (j : Nat) (oj : Bool) (f g : DTE)  (Δ : DEnds) (ε : Env) : Prop := f ε fun x ε1 => g ε1 fun y ε2 => match val oi x, val oj y with
  | some a, some b => Δ.nx ((ε2.set i a).set j b)
  | _, _ => False
theorem VR.nwAt {Z : Zx} {O : Addr → Prop} {σ : L2.St} {Hs L H : Hp} {v : V} {r : R} {a : Addr} (x : VR w Z O σ Hs L H v r) (e : Lp.nwAt r v a) : H a ≠ none := by
  obtain ⟨⟨ds, rfl⟩ | ⟨ys, rfl⟩, rfl⟩ := e
  · obtain ⟨b, xs, e, h1, h2, h3, h4, h5, h6⟩ := x
    cases e
    rw [h5]; exact fun z => nomatch z
  · obtain ⟨b, e, h1, h2, h3, h4, h5, h6⟩ := x
    cases e
    exact h5.ne
def dPar3 (i : Nat) (oi : Bool) (j : Nat) (oj : Bool) (k : Nat) (ok : Bool) (f g h : DTE)  (Δ : DEnds) (ε : Env) : Prop := f ε fun x ε1 => g ε1 fun y ε2 => h ε2 fun z ε3 => match val oi x, val oj y, val ok z with
  | some a, some b, some c => Δ.nx (((ε3.set i a).set j b).set k c)
  | _, _, _ => False
end
end Lp

namespace Lp
open PySem PySem.Spec PyProof.Rows L2
section
variable {w : Wx} {Z : Zx} {O : Addr → Prop} {σ : L2.St} {ε : Env} {L H : Hp}
end
section
variable {w : Wx} {ta tb tc te : TE} {f g h : DTE} {t u : TS} {p q : DTS} {K : PySem.W.Frag}
def dAppend (i : Nat) (f : DTE)  (Δ : DEnds) (ε : Env) : Prop := match ε.s[i]? with
  | some (.ow _) => f ε fun r ε1 => match r.pub, ε1.s[i]? with
    | .sh d, some (.ow ds) => ds.length < sizeLine ∧ Δ.nx (ε1.set i (.ow (ds ++ [d])))
    | _, _ => False
  | _ => False
/-- xs.append(ys.pop(e)) -/
def dAppPop (i j : Nat) (f : DTE)  (Δ : DEnds) (ε : Env) : Prop := match ε.s[i]?, ε.s[j]? with
  | some (.ow _), some (.ow _) => f ε fun r ε1 => match r.dat, ε1.s[i]?, ε1.s[j]? with
    | some (.int k), some (.ow ds), some (.ow es) => 0 ≤ k ∧ k < (es.length : Int) ∧ es.length < 1000000 ∧ ds.length < sizeLine ∧ ∃ d, es[k.toNat]? = some d ∧ Δ.nx ((ε1.set j (.ow (es.eraseIdx k.toNat))).set i (.ow (ds ++ [d])))
    | _, _, _ => False
  | _, _ => False
theorem DVs.erase {H : Hp} : ∀ {vs : List V} {ds : List PyData} (n : Nat), DVs H vs ds → DVs H (vs.eraseIdx n) (ds.eraseIdx n)
  | _, _, _, .nil => .nil
  | _, _, 0, .cons a r => r
  | _, _, n + 1, .cons a r => .cons a (r.erase n)
/-- xs[e] = e' -/
def dSetIx (i : Nat) (f g : DTE)  (Δ : DEnds) (ε : Env) : Prop := f ε fun r ε1 => match r.pub with
  | .sh d => match ε1.s[i]? with
    | some (.ow _) => g ε1 fun k ε2 => match k.dat, ε2.s[i]? with
      | some (.int j), some (.ow ds) => ∃ m, ixN ds.length j = some m ∧ Δ.nx (ε2.set i (.ow (ds.set m d)))
      | _, _ => False
    | _ => False
  | _ => False
/-- xs += e, xs an own list -/
def dExt (i : Nat) (f : DTE)  (Δ : DEnds) (ε : Env) : Prop := match ε.s[i]? with
  | some (.ow _) => f ε fun r ε1 => match r.dat, ε1.s[i]? with
    | some (.list es), some (.ow ds) => ds.length + es.length ≤ sizeLine ∧ Δ.nx (ε1.set i (.ow (ds ++ es)))
    | _, _ => False
  | _ => False
/-- x op= e -/
def dAug (φ : PyData → PyData → (R → Prop) → Prop) (i : Nat) (f : DTE)  (Δ : DEnds) (ε : Env) : Prop := match ε.s[i]? with
  | some (.sh a) => f ε fun r ε1 => match r.dat with
    | some b => φ a b fun q => match val false q with
      | some y => Δ.nx (ε1.set i y)
      | none => False
    | none => False
  | _ => False
def dSet0 (i : Nat)  (Δ : DEnds) (ε : Env) : Prop := Δ.nx (ε.set i (.st (fun _ => false) 0))
def dSAdd (i : Nat) (f : DTE)  (Δ : DEnds) (ε : Env) : Prop := match ε.s[i]? with
  | some (.st _ _) => f ε fun r ε1 => match r.dat, ε1.s[i]? with
    | some (.int k), some (.st S n) => n + 1 < scanBound ∧ Δ.nx (ε1.set i (.st (fun j => S j || decide (j = k)) (if S k = true then n else n + 1)))
    | _, _ => False
  | _ => False
def dSNotIn (f g : DTE)  (ε : Env) (Q : R → Env → Prop) : Prop := f ε fun x ε1 => g ε1 fun y ε2 => match x.dat, y with
  | some (.int k), .sr _ S _ => Q (.sh (.bool (!S k))) ε2
  | _, _ => False
end
end Lp

namespace Lp
open PySem PySem.Spec PyProof.Rows L2
/-- a list or a tuple -/
def iSeq (K : PySem.W.Frag) (tl : TE) : TI := fun σ H R => tl σ H fun x H1 => ∃ a, x = .ref a ∧ (((∃ xs, SqL K H1 a xs) ∧ R (Itl K a) H1) ∨ ((∃ xs, SqT K H1 a xs) ∧ R (Itt K a) H1))
theorem pi_seq {X : Cx} {tg o : Expr} {to : TE} (ho : PE X o to) : PI X tg o (iSeq X.K to) := by
  constructor
  intro pins s σ H R I want
  refine thn (ho.run pins s σ H _ I want) ?_
  rintro u s' ⟨_, H', J, rel, a, rfl, ways⟩
  cases rel
  have fp : ∀ b ∈ [s'.heap.objs.size], FpOk X pins H' b := fun b hb => by
    cases List.mem_singleton.mp hb
    exact J.fpOk (Nat.le_refl _) (J.hok.fresh (Nat.le_refl _))
  rcases ways with ⟨⟨xs, at_a⟩, go⟩ | ⟨⟨xs, at_a⟩, go⟩
  · obtain ⟨vals, _, lst, _⟩ := J.list at_a
    refine wpAny_pyIter_list lst.isList ⟨s'.heap.objs.size, [s'.heap.objs.size], _, _, H', rfl, ?_, turn_list a _, ⟨_, Heap.get?_push_size _ rfl, rfl, rfl⟩, fp, go⟩
    exact J.kept (t' := s'.toks) fun _ _ q => Heap.get?_push_of_some _ q
  · obtain ⟨vals, _, tup, _⟩ := J.tuple at_a
    have tup' : s'.heap.IsTuple a vals.toArray := tup
    refine wpAny_pyIter_tuple tup' ⟨s'.heap.objs.size, [s'.heap.objs.size], _, _, H', rfl, ?_, turn_tuple a _, ⟨_, Heap.get?_push_size _ rfl, rfl, rfl⟩, fp, go⟩
    exact J.kept (t' := s'.toks) fun _ _ q => Heap.get?_push_of_some _ q
/-- the items, while what is walked stands still -/
structure WalkS (pk : Bool) (L : Hp) (J : It) (ds : List PyData) : Prop where
  go : ∀ i L' H', Same L L' → Same L' H' → i < ds.length → J.go i H'
  stop : ∀ L' H', Same L L' → Same L' H' → J.stop ds.length H'
  yld : ∀ (i : Nat) d L' H' x H2, Same L L' → Same L' H' → ds[i]? = some d → J.yld i H' x H2 → ∃ L2, Ext none L' H' L2 H2 ∧ Same L2 H2 ∧ VI pk L2 H2 x d
structure WalkE (pk : Bool) (b : Option Addr) (L H : Hp) (J : It) (ds : List PyData) : Prop where
  go : ∀ i L' H', Ext b L H L' H' → Same L' H' → i < ds.length → J.go i H'
  stop : ∀ L' H', Ext b L H L' H' → Same L' H' → J.stop ds.length H'
  yld : ∀ (i : Nat) d L' H' x H2, Ext b L H L' H' → Same L' H' → ds[i]? = some d → J.yld i H' x H2 → ∃ L2, Ext none L' H' L2 H2 ∧ Same L2 H2 ∧ VI pk L2 H2 x d
theorem WalkS.e {pk : Bool} {b : Option Addr} {L H : Hp} {J : It} {ds : List PyData} (x : WalkS pk L J ds) : WalkE pk b L H J ds :=
  ⟨fun i L' H' e s h => x.go i L' H' e.ll s h, fun L' H' e s => x.stop L' H' e.ll s, fun i d L' H' y H2 e s h => x.yld i d L' H' y H2 e.ll s h⟩
abbrev DTI := Env → (List PyData → Bool → Env → Prop) → Prop
structure SI (w : Wx) (pk : Bool) (t : TI) (f : DTI) : Prop where
  mono : ∀ ε (A B : List PyData → Bool → Env → Prop), (∀ r b ε', A r b ε' → B r b ε') → f ε A → f ε B
  run : ∀ (Z : Zx) (O : Addr → Prop) (σ : L2.St) (ε : Env) (L H : Hp) (R : It → Hp → Prop), Rep w Z O L H σ ε → f ε (fun ds fl ε' => ∀ J L' H', Rep w Z O L' H' σ ε' → Ext Z.b L H L' H' → WalkE pk Z.b L' H' J ds → (fl = true → WalkS pk L' J ds) → R J H') → t σ H R
section
variable {w : Wx} {K : PySem.W.Frag} {ta tb te : TE} {f g : DTE}
theorem walkS_list {L : Hp} {a : Addr} {xs : List V} {ds : List PyData} (h : L a = some (.lst xs)) (r : DVs L xs ds) : WalkS false L (Itl K a) ds := by
  have hl := r.len
  refine ⟨fun i L' H' s1 s2 hi => ?_, fun L' H' s1 s2 => ?_, fun i d L' H' x H2 s1 s2 hd y => ?_⟩
  · exact ⟨xs, xs[i]'(by omega), SqL.of (s2 _ _ (s1 _ _ h)), List.getElem?_eq_getElem (by omega)⟩
  · exact ⟨xs, SqL.of (s2 _ _ (s1 _ _ h)), by omega⟩
  · obtain ⟨rfl, y2⟩ := y
    have hx := y2 xs (SqL.of (s2 _ _ (s1 _ _ h)))
    obtain ⟨v, h1, h2⟩ := r.get hd
    rw [hx] at h1
    cases h1
    exact ⟨L', Ext.refl _ _ _, s2, h2.to s1⟩
theorem walkS_tup {L : Hp} {a : Addr} {xs : List V} {ds : List PyData} (h : Sol L a xs) (r : DVs L xs ds) : WalkS false L (Itt K a) ds := by
  have hl := r.len
  refine ⟨fun i L' H' s1 s2 hi => ?_, fun L' H' s1 s2 => ?_, fun i d L' H' x H2 s1 s2 hd y => ?_⟩
  · exact ⟨xs, xs[i]'(by omega), ((h.to s1).to s2).seq, List.getElem?_eq_getElem (by omega)⟩
  · exact ⟨xs, ((h.to s1).to s2).seq, by omega⟩
  · obtain ⟨rfl, y2⟩ := y
    have hx := y2 xs (((h.to s1).to s2).seq)
    obtain ⟨v, h1, h2⟩ := r.get hd
    rw [hx] at h1
    cases h1
    exact ⟨L', Ext.refl _ _ _, s2, h2.to s1⟩
theorem walkE_list {b : Option Addr} {L H : Hp} {a : Addr} {xs : List V} {ds : List PyData} (hb : b ≠ some a) (h : H a = some (.lst xs)) (r : DVs L xs ds) : WalkE false b L H (Itl K a) ds := by
  have hl := r.len
  refine ⟨fun i L' H' e s2 hi => ?_, fun L' H' e s2 => ?_, fun i d L' H' x H2 e s2 hd y => ?_⟩
  · exact ⟨xs, xs[i]'(by omega), SqL.of (e.hh _ _ h hb), List.getElem?_eq_getElem (by omega)⟩
  · exact ⟨xs, SqL.of (e.hh _ _ h hb), by omega⟩
  · obtain ⟨rfl, y2⟩ := y
    have hx := y2 xs (SqL.of (e.hh _ _ h hb))
    obtain ⟨v, h1, h2⟩ := r.get hd
    rw [hx] at h1
    cases h1
    exact ⟨L', Ext.refl _ _ _, s2, h2.to e.ll⟩
def dIter (f : DTE)  (ε : Env) (Q : List PyData → Bool → Env → Prop) : Prop := f ε fun r ε1 => match r.pub with
  | .sh (.list ds) => Q ds true ε1
  | .sh (.tuple ds) => Q ds true ε1
  | .br _ ds => Q ds false ε1
  | _ => False
theorem si_seq (hf : SE w ta f) : SI w false (iSeq K ta) (dIter f) := by
  constructor
  · intro ε A B h q
    refine hf.mono _ _ _ (fun r ε1 q => ?_) q
    split at q
    · exact h _ _ _ q
    · exact h _ _ _ q
    · exact h _ _ _ q
    · exact q.elim
  · intro Z O σ ε L H R X q
    refine hf.run Z O σ ε L H _ X (hf.mono _ _ _ (fun r ε1 q => ?_) q)
    intro v L1 H1 X1 e1 r1
    obtain ⟨L2, X2, e2, r2⟩ := publ X1 e1 r1
    split at q
    · rename_i ds hd
      rw [hd] at r2
      cases (show DV L2 v (.list ds) from r2) with
      | lst h1 h2 =>
        have W := walkS_list (K := K) h1 h2
        exact ⟨_, rfl, .inl ⟨⟨_, SqL.of (X2.lh _ _ h1)⟩, q _ L2 H1 X2 e2 W.e fun _ => W⟩⟩
    · rename_i ds hd
      rw [hd] at r2
      cases (show DV L2 v (.tuple ds) from r2) with
      | tup h1 h2 =>
        have W := walkS_tup (K := K) h1 h2
        exact ⟨_, rfl, .inr ⟨⟨_, (h1.to X2.lh).seq⟩, q _ L2 H1 X2 e2 W.e fun _ => W⟩⟩
    · rename_i i ds hd
      rw [hd] at r2
      obtain ⟨a, xs, rfl, h1, h2, h3, h4, h5, h6⟩ := r2
      exact ⟨a, rfl, .inl ⟨⟨_, SqL.of h5⟩, q _ L2 H1 X2 e2 (walkE_list (X2.nob h3) h5 h6) (fun z => nomatch z)⟩⟩
    · exact q.elim
/-- the ints from lo on, n of them -/
def rgD (lo : Int) (n : Nat) : List PyData := (List.range n).map fun i => .int (lo + (i : Nat))
theorem rgD_len (lo : Int) (n : Nat) : (rgD lo n).length = n := by unfold rgD; rw [List.length_map, List.length_range]
theorem rgD_get {lo : Int} {n i : Nat} {d : PyData} (h : (rgD lo n)[i]? = some d) : i < n ∧ d = .int (lo + (i : Nat)) := by
  have hi : i < n := by
    have := (List.getElem?_eq_some_iff.mp h).1
    rwa [rgD_len] at this
  unfold rgD at h
  rw [List.getElem?_map, List.getElem?_range hi] at h
  cases h
  exact ⟨hi, rfl⟩
theorem walkS_rg {L : Hp} {lo : Int} {n : Nat} : WalkS false L (Itr lo n) (rgD lo n) := by
  refine ⟨fun i L' H' s1 s2 hi => ?_, fun L' H' s1 s2 => ?_, fun i d L' H' x H2 s1 s2 hd y => ?_⟩
  · rw [rgD_len] at hi; exact hi
  · rw [rgD_len]; exact Nat.le_refl n
  · obtain ⟨rfl, rfl⟩ := y
    obtain ⟨_, rfl⟩ := rgD_get hd
    exact ⟨L', Ext.refl _ _ _, s2, .int _⟩
def dRng1 (f : DTA)  (ε : Env) (Q : List PyData → Bool → Env → Prop) : Prop := f ε fun rs ε1 => match rs with
  | [.sh (.int j)] => (-(2 ^ 62) ≤ j ∧ j < 2 ^ 62) ∧ Q (rgD 0 j.toNat) true ε1
  | _ => False
theorem si_rng1 {n : Nat} {t : TA} {f : DTA} (hf : SA w n t f) : SI w false (iRng1 t) (dRng1 f) := by
  constructor
  · intro ε A B h q
    refine hf.mono _ _ _ (fun r ε1 q => ?_) q
    split at q
    · exact ⟨q.1, h _ _ _ q.2⟩
    · exact q.elim
  · intro Z O σ ε L H R X q
    refine hf.run Z O σ ε L H _ X (hf.mono _ _ _ (fun r ε1 q => ?_) q)
    intro vs L1 H1 X1 e1 r1 hl np
    split at q
    · rename_i j
      cases r1 with
      | cons r1 r2 =>
        cases r2
        cases (show DV L1 _ (.int j) from r1)
        exact ⟨j, rfl, q.1.1, q.1.2, q.2 _ L1 H1 X1 e1 walkS_rg.e fun _ => walkS_rg⟩
    · exact q.elim
def dRng2 (f : DTA)  (ε : Env) (Q : List PyData → Bool → Env → Prop) : Prop := f ε fun rs ε1 => match rs with
  | [.sh (.int i), .sh (.int j)] => (-(2 ^ 62) ≤ i ∧ i < 2 ^ 62 ∧ -(2 ^ 62) ≤ j ∧ j < 2 ^ 62) ∧ Q (rgD i (j - i).toNat) true ε1
  | _ => False
end
abbrev DTG := PyData → Env → (Env → Prop) → Prop
/-- but for the slots js all is as it was -/
def But (js : List Nat) (σ σ' : L2.St) : Prop := σ'.length = σ.length ∧ ∀ i : Nat, i ∉ js → σ'[i]? = σ[i]?
structure SG (w : Wx) (pk : Bool) (js : List Nat) (g : TG) (γ : DTG) : Prop where
  mono : ∀ d ε (A B : Env → Prop), (∀ ε', A ε' → B ε') → γ d ε A → γ d ε B
  run : ∀ (Z : Zx) (O : Addr → Prop) (σ : L2.St) (ε : Env) (L H : Hp) (v : V) (d : PyData) (Q : L2.St → Hp → Prop), Rep w Z O L H σ ε → VI pk L H v d → γ d ε (fun ε' => ∀ σ', Rep w Z O L H σ' ε' → But js σ σ' → Q σ' H) → g v σ H Q
abbrev DTGs := List PyData → Env → (Env → Prop) → Prop
structure SGs (w : Wx) (js : List Nat) (g : TGs) (γ : DTGs) : Prop where
  mono : ∀ d ε (A B : Env → Prop), (∀ ε', A ε' → B ε') → γ d ε A → γ d ε B
  run : ∀ (Z : Zx) (O : Addr → Prop) (σ : L2.St) (ε : Env) (L H : Hp) (v : List V) (d : List PyData) (Q : L2.St → Hp → Prop), Rep w Z O L H σ ε → DVs L v d → γ d ε (fun ε' => ∀ σ', Rep w Z O L H σ' ε' → But js σ σ' → Q σ' H) → g v σ H Q
section
variable {w : Wx} {K : PySem.W.Frag}
def dName (i : Nat)  (d : PyData) (ε : Env) (Q : Env → Prop) : Prop := Q (ε.set i (.sh d))
theorem sg_name {i : Nat} : SG w false [i] (gName i) (dName i) := ⟨fun _ _ _ _ h q => h _ q, fun Z O σ ε L H v d Q X r q => q _ (X.sh r) ⟨List.length_set, fun j hj => by
  rw [List.getElem?_set, if_neg (fun e => hj (by rw [e]; exact List.mem_singleton.mpr rfl))]⟩⟩
def dGNil  (ds : List PyData) (ε : Env) (Q : Env → Prop) : Prop := match ds with
  | [] => Q ε
  | _ => False
def dGCons (γ : DTG) (γs : DTGs)  (ds : List PyData) (ε : Env) (Q : Env → Prop) : Prop := match ds with
  | d :: ds => γ d ε fun ε1 => γs ds ε1 Q
  | _ => False
theorem sgs_nil : SGs w [] gNil dGNil := by
  constructor
  · intro ds ε A B h q
    cases ds with
    | nil => exact h _ q
    | cons _ _ => exact q.elim
  · intro Z O σ ε L H v d Q X r q
    cases r with
    | nil => exact ⟨rfl, q _ X ⟨rfl, fun _ _ => rfl⟩⟩
    | cons _ _ => exact q.elim
theorem sgs_cons {g : TG} {gs : TGs} {γ : DTG} {γs : DTGs} {js ks : List Nat} (hg : SG w false js g γ) (hs : SGs w ks gs γs) : SGs w (js ++ ks) (gCons g gs) (dGCons γ γs) := by
  constructor
  · intro ds ε A B h q
    cases ds with
    | nil => exact q.elim
    | cons d ds => exact hg.mono _ _ _ _ (fun ε1 q => hs.mono _ _ _ _ h q) q
  · intro Z O σ ε L H v d Q X r q
    cases r with
    | nil => exact q.elim
    | cons r rr =>
      refine ⟨_, _, rfl, hg.run Z O σ ε L H _ _ _ X r (hg.mono _ _ _ _ (fun ε1 q σ1 X1 b1 => ?_) q)⟩
      refine hs.run Z O σ1 ε1 L H _ _ _ X1 rr (hs.mono _ _ _ _ (fun ε2 q σ2 X2 b2 => ?_) q)
      exact q σ2 X2 ⟨b2.1.trans b1.1, fun i hi => (b2.2 i fun h => hi (List.mem_append_right _ h)).trans (b1.2 i fun h => hi (List.mem_append_left _ h))⟩
def dGTup (n : Nat) (γs : DTGs)  (d : PyData) (ε : Env) (Q : Env → Prop) : Prop := match d with
  | .tuple ds => ds.length = n ∧ γs ds ε Q
  | _ => False
theorem sg_tup {pk : Bool} {n : Nat} {gs : TGs} {γs : DTGs} {js : List Nat} (hs : SGs w js gs γs) : SG w pk js (gTup K n gs) (dGTup n γs) := by
  constructor
  · intro d ε A B h q
    cases d with
    | tuple ds => exact ⟨q.1, hs.mono _ _ _ _ h q.2⟩
    | _ => exact q.elim
  · intro Z O σ ε L H v d Q X r q
    have solid : DV L v d → gTup K n gs v σ H Q := fun r => by
      cases r with
      | tup h1 h2 => exact ⟨_, _, rfl, (h1.to X.lh).seq, by rw [h2.len]; exact q.1, hs.run Z O σ ε L H _ _ _ X h2 q.2⟩
      | _ => exact q.elim
    cases pk with
    | false => exact solid r
    | true =>
      rcases r with r | ⟨a, xs, ds, rfl, rfl, h1, h2⟩
      · exact solid r
      · exact ⟨_, _, rfl, SqT.of h1, by rw [h2.len]; exact q.1, hs.run Z O σ ε L H _ _ _ X h2 q.2⟩
variable {ta : TE} {f : DTE}
def dAsg (f : DTE) (γ : DTG)  (Δ : DEnds) (ε : Env) : Prop := f ε fun r ε1 => match r.pub with
  | .sh d => γ d ε1 Δ.nx
  | _ => False
def forD (γ : DTG) (p : DTS) (Δ : DEnds) : List PyData → Env → Prop
  | [], ε => Δ.nx ε
  | d :: ds, ε => γ d ε fun ε1 => p { nx := forD γ p Δ ds, rt := Δ.rt, bk := Δ.nx, ct := forD γ p Δ ds } ε1
def dFor (i : DTI) (γ : DTG) (p : DTS)  (Δ : DEnds) (ε : Env) : Prop := i ε fun ds fl ε1 => fl = true ∧ forD γ p Δ ds ε1
/-- what is known of the pinned view may be forgotten -/
theorem Rep.unpin {Z : Zx} {O : Addr → Prop} {σ : L2.St} {ε : Env} {L H P : Hp} (h : Same Z.P P) (ph : w.Φ Z) (x : Rep w { Z with P := P } O L H σ ε) : Rep w Z O L H σ ε :=
  ⟨x.lh, h.trans x.pn, x.ex, x.bo, x.oh, x.len, x.sl, x.di, ph⟩
theorem Rep.pin {Z : Zx} {O : Addr → Prop} {σ : L2.St} {ε : Env} {L H P : Hp} (h0 : Same Z.P P) (h : Same P L) (x : Rep w Z O L H σ ε) : Rep w { Z with P := P } O L H σ ε :=
  ⟨x.lh, h, x.ex, x.bo, x.oh, x.len, x.sl, x.di, w.up _ _ h0 x.ph⟩
theorem forD_mono {pk : Bool} {γ : DTG} {p : DTS} {t : TS} {g : TG} {js : List Nat} (hg : SG w pk js g γ) (hp : SS w t p) {Δ Δ' : DEnds} (l : DEnds.le Δ Δ') : ∀ (ds : List PyData) (ε : Env), forD γ p Δ ds ε → forD γ p Δ' ds ε
  | [], ε, z => l.nx ε z
  | d :: ds, ε, z => hg.mono _ _ _ _ (fun ε1 z => hp.mono { nx := forD γ p Δ ds, rt := Δ.rt, bk := Δ.nx, ct := forD γ p Δ ds } _ ε1 ⟨forD_mono hg hp l ds, l.rt, l.nx, forD_mono hg hp l ds⟩ z) z
theorem ss_for {pk : Bool} {wi : TI} {i : DTI} {g : TG} {γ : DTG} {t : TS} {p : DTS} {js : List Nat} (hi : SI w pk wi i) (hg : SG w pk js g γ) (hp : SS w t p) : SS w (tFor wi g t) (dFor i γ p) := by
  constructor
  · intro Δ Δ' ε l z
    exact hi.mono _ _ _ (fun ds b ε1 z => ⟨z.1, forD_mono hg hp l ds ε1 z.2⟩) z
  · intro Z O σ ε L H D Δ X E z
    refine hi.run Z O σ ε L H _ X (hi.mono _ _ _ (fun ds b ε1 z => ?_) z)
    intro J L1 H1 X1 e1 _ W
    obtain ⟨hb, z⟩ := z
    have W := W hb
    have sP := X1.pn
    refine ⟨fun i m σ H => i + m = ds.length ∧ ∃ O L ε, Rep w { Z with P := L1 } O L H σ ε ∧ forD γ p Δ (ds.drop i) ε, ⟨ds.length, by omega, O, L1, ε1, X1.pin X1.pn (Same.refl _), by rw [List.drop_zero]; exact z⟩, ?_⟩
    rintro i m σ2 H2 ⟨him, O2, L2, ε2, X2, z2⟩
    by_cases hlt : i < ds.length
    · refine .inr ⟨W.go i L2 H2 X2.pn X2.lh hlt, fun σ' H' => ∃ O L ε, Rep w { Z with P := L1 } O L H' σ' ε ∧ forD γ p Δ (ds.drop (i + 1)) ε, fun σ' H' q => ⟨m - 1, by omega, by omega, q⟩, fun x H' y => ?_⟩
      have hd : ds[i]? = some ds[i] := List.getElem?_eq_getElem hlt
      rw [List.drop_eq_getElem_cons hlt] at z2
      obtain ⟨L3, e3, s3, r3⟩ := W.yld i ds[i] L2 H2 x H' X2.pn X2.lh hd y
      have X3 := X2.step e3 s3
      refine hg.run _ O2 σ2 ε2 L3 H' x ds[i] _ X3 r3 (hg.mono _ _ _ _ (fun ε3 z3 σ3 X4 _ => ?_) z2)
      refine hp.run _ O2 σ3 ε3 L3 H' _ { nx := forD γ p Δ (ds.drop (i + 1)), rt := Δ.rt, bk := Δ.nx, ct := forD γ p Δ (ds.drop (i + 1)) } X4 ⟨fun O σ ε L H X z => ⟨O, L, ε, X, z⟩, fun O σ ε L H v r X q z => E.rt O σ ε L H v r (X.unpin sP X1.ph) q z, fun O σ ε L H X z => E.nx O σ ε L H (X.unpin sP X1.ph) z, fun O σ ε L H X z => ⟨O, L, ε, X, z⟩⟩ z3
    · have e : i = ds.length := by omega
      subst e
      rw [List.drop_length] at z2
      exact .inl ⟨W.stop L2 H2 X2.pn X2.lh, E.nx O2 σ2 ε2 L2 H2 (X2.unpin sP X1.ph) z2⟩
def whileN (c : DTT) (p : DTS) (Δ : DEnds) : Nat → Env → Prop
  | 0, _ => False
  | n + 1, ε => c ε fun b ε1 => if b = true then p { nx := whileN c p Δ n, rt := Δ.rt, bk := Δ.nx, ct := whileN c p Δ n } ε1 else Δ.nx ε1
def dWhile (c : DTT) (p : DTS)  (Δ : DEnds) (ε : Env) : Prop := ∃ n, whileN c p Δ n ε
end
end Lp

namespace Lp
open PySem PySem.Spec PyProof.Rows L2
theorem Rep.exts {w : Wx} {Z : Zx} {O : Addr → Prop} {σ : L2.St} {ε : Env} {L H L' H' : Hp} {c : Nat} (x : Rep w Z O L H σ ε) (e : Ext Z.b L H L' H') (s : Same L' H') (hc : ∀ b, Z.b = some b → Box H' b c) : Rep w Z O L' H' σ ⟨ε.s, c⟩ := by
  refine ⟨s, x.pn.trans e.ll, x.ex.trans e, fun b hb => ?_, fun a h => ⟨e.dom a (x.oh a h).1, (x.oh a h).2⟩, x.len, fun i y hy => ?_, x.di, x.ph⟩
  · obtain ⟨h1, h2, h3⟩ := x.bo b hb
    exact ⟨e.fr b h1 h2.there, hc b hb, h3⟩
  · obtain ⟨o, h1, h2⟩ := x.sl i y hy
    refine ⟨o, h1, ?_⟩
    cases y with
    | un => trivial
    | sh d =>
      obtain ⟨v, e1, e2⟩ := h2
      exact ⟨v, e1, e2.to e.ll⟩
    | ow ds =>
      obtain ⟨a, xs, e1, e2, e3, e4, e5, e6⟩ := h2
      exact ⟨a, xs, e1, e2, e.fr a e3 (by rw [e5]; exact (fun z => nomatch z)), e4, e.hh _ _ e5 (x.nob e4), e6.to e.ll⟩
    | bx => exact h2
    | st S n =>
      obtain ⟨a, e1, e2, e3, e4, e5⟩ := h2
      exact ⟨a, e1, e2, e.fr a e3 (by rw [e5]; exact (fun z => nomatch z)), e4, e.hh _ _ e5 (x.nob e4)⟩
    | raw u => exact h2
    | exn x => obtain ⟨v, e1, e2⟩ := h2; exact ⟨v, e1, e2.to e.ll⟩
    | dco xs =>
      obtain ⟨a, e1, e2, e3, e4, ⟨ob, e5⟩, e6⟩ := h2
      exact ⟨a, e1, e2, e.fr a e3 (by rw [e5]; exact (fun z => nomatch z)), e4, ⟨ob, e.hh _ _ e5 (x.nob e4)⟩, e6.to e.ll⟩
    | sto M =>
      obtain ⟨a, A, e1, e2, e3, e4, e5, e6⟩ := h2
      exact ⟨a, A, e1, e2, e.fr a e3 (by rw [e5]; exact (fun z => nomatch z)), e4, e.hh _ _ e5 (x.nob e4), e6.to e.ll⟩
    | dsh xs => obtain ⟨v, e1, e2⟩ := h2; exact ⟨v, e1, e2.to e.ll⟩
    | gen g => obtain ⟨v, e1, e2⟩ := h2; exact ⟨v, e1, g.mono e.ll e2⟩
abbrev DSp := List SV → Nat → (R → Nat → Prop) → Prop
def MonF (F : DSp) : Prop := ∀ args c (A B : R → Nat → Prop), (∀ r c', A r c' → B r c') → F args c A → F args c B
def CallZ (b : Option Addr) (L H : Hp) (c : Nat) : Prop := Same L H ∧ ∀ a, b = some a → L a = none ∧ Box H a c
def ArgR (b : Option Addr) (L : Hp) (v : V) : SV → Prop
  | .sh d => DV L v d
  | .bx => ∃ a, b = some a ∧ v = .ref a
  | .raw u => v = u
  | .dsh xs => DVd L v xs
  | .gen g => g.ok L v
  | _ => False
inductive ArgsR (b : Option Addr) (L : Hp) : List V → List SV → Prop
  | nil : ArgsR b L [] []
  | cons {v : V} {vs : List V} {x : SV} {xs : List SV} : ArgR b L v x → ArgsR b L vs xs → ArgsR b L (v :: vs) (x :: xs)
def spD (n : Nat) (F : DSp) : Sp := fun vs H Q _ => ∃ (b : Option Addr) (L : Hp) (c : Nat) (args : List SV), vs.length = n ∧ CallZ b L H c ∧ ArgsR b L vs args ∧
  F args c fun r c' => ∀ v L' H', CallZ b L' H' c' → Ext b L H L' H' → VR0 H L' H' v r → Q v H'
def R.arg : R → Option SV
  | .sh d => some (.sh d)
  | .br _ ds => some (.sh (.list ds))
  | .bx => some .bx
  | .raw v => some (.raw v)
  | .dsh xs => some (.dsh xs)
  | .gen g => some (.gen g)
  | _ => none
def argsOf : List R → Option (List SV)
  | [] => some []
  | r :: rs => match r.arg, argsOf rs with
    | some x, some xs => some (x :: xs)
    | _, _ => none
def hasBr : List R → Bool
  | [] => false
  | .br _ _ :: _ => true
  | _ :: rs => hasBr rs
def immR : R → Bool
  | .sh d => imm d
  | .nw ds => imms ds
  | _ => false
def dArgs (F : DSp) (rs : List R) (ε : Env) (Q : R → Env → Prop) : Prop := match argsOf rs with
  | some args => F args ε.c fun r c => match hasBr rs with
    | true => immR r = true ∧ Q r ⟨ε.s, c⟩
    | false => Q r ⟨ε.s, c⟩
  | none => False
theorem dArgs_mono {F : DSp} (hF : MonF F) {rs : List R} {ε : Env} {A B : R → Env → Prop} (h : ∀ r ε, A r ε → B r ε) (q : dArgs F rs ε A) : dArgs F rs ε B := by
  unfold dArgs at q ⊢
  split at q
  · refine hF _ _ _ _ (fun r c q => ?_) q
    split at q
    · exact ⟨q.1, h _ _ q.2⟩
    · exact h _ _ q
  · exact q.elim
section
variable {w : Wx} {Z : Zx} {O : Addr → Prop} {σ : L2.St} {ε : Env} {L H Hs : Hp}
theorem args_plain : ∀ {vs : List V} {rs : List R} {args : List SV}, VRs w Z O σ Hs L H vs rs → argsOf rs = some args → hasBr rs = false → ArgsR Z.b L vs args
  | _, _, _, .nil, e, _ => by cases e; exact .nil
  | _, r :: rs, args, .cons a b, e, h => by
    unfold argsOf at e
    split at e
    · rename_i x xs hx hxs
      cases e
      have h2 : hasBr rs = false := by cases r <;> first | exact h | cases h
      refine .cons ?_ (args_plain b hxs h2)
      cases r with
      | sh d => cases hx; exact a
      | br i ds => cases h
      | bx => cases hx; exact a
      | raw u => cases hx; exact a
      | nw ds => cases hx
      | sr i S n => cases hx
      | exn y => cases hx
      | dnw xs => cases hx
      | dbr i xs => cases hx
      | srt i M => cases hx
      | dsh xs => cases hx; exact a
      | gen g => cases hx; exact a
    · cases e
/-- the lists that slots own and arguments lend -/
def lent (σ : L2.St) (rs : List R) (a : Addr) : Prop := ∃ i ds, R.br i ds ∈ rs ∧ σ[i]? = some (some (.ref a))
theorem args_lent {L2 : Hp} (s : Same L L2) : ∀ {vs : List V} {rs : List R} {args : List SV}, VRs w Z O σ Hs L H vs rs → argsOf rs = some args → (∀ a, lent σ rs a → L2 a = H a) → ArgsR Z.b L2 vs args
  | _, _, _, .nil, e, _ => by cases e; exact .nil
  | _, r :: rs, args, .cons x y, e, h => by
    unfold argsOf at e
    split at e
    · rename_i z zs hz hzs
      cases e
      refine .cons ?_ (args_lent s y hzs fun a ⟨i, ds, h1, h2⟩ => h a ⟨i, ds, List.mem_cons_of_mem _ h1, h2⟩)
      cases r with
      | sh d => cases hz; exact DV.to x s
      | br i ds =>
        cases hz
        obtain ⟨a, xs, rfl, h1, h2, h3, h4, h5, h6⟩ := x
        exact .lst (by rw [h a ⟨i, ds, List.mem_cons_self, h1⟩]; exact h5) (h6.to s)
      | bx => cases hz; exact x
      | raw u => cases hz; exact x
      | nw ds => cases hz
      | sr i S n => cases hz
      | exn y => cases hz
      | dnw xs => cases hz
      | dbr i xs => cases hz
      | srt i M => cases hz
      | dsh xs => cases hz; exact DVd.to s x
      | gen g => cases hz; exact g.mono s x
    · cases e
theorem lent_own : ∀ {vs : List V} {rs : List R} {a : Addr}, VRs w Z O σ Hs L H vs rs → lent σ rs a → O a ∧ Z.H0 a = none ∧ L a = none ∧ ∃ xs, H a = some (.lst xs)
  | _, _, _, .nil, h => by obtain ⟨i, ds, h1, _⟩ := h; cases h1
  | _, r :: rs, a, .cons x y, h => by
    obtain ⟨i, ds, h1, h2⟩ := h
    rcases List.mem_cons.mp h1 with rfl | h1
    · obtain ⟨b, xs, _, g1, g2, g3, g4, g5, g6⟩ := x
      rw [h2] at g1
      cases g1
      exact ⟨g2, g3, g4, xs, g5⟩
    · exact lent_own y ⟨i, ds, h1, h2⟩
open Classical in
theorem run_args {n : Nat} {F : DSp} (hF : MonF F) {vs : List V} {rs : List R} {Q : VK} {E : XK} {L0 H0 : Hp} (X : Rep w Z O L H σ ε) (e : Ext Z.b L0 H0 L H) (r : VRs w Z O σ Hs L H vs rs) (hn : vs.length = n)
    (q : dArgs F rs ε fun r ε' => ∀ v L' H', Rep w Z O L' H' σ ε' → Ext Z.b L0 H0 L' H' → VR w Z O σ H0 L' H' v r → Q v H') : spD n F vs H Q E := by
  unfold dArgs at q
  split at q
  · rename_i args ha
    have cz : ∀ b, Z.b = some b → L b = none ∧ Box H b ε.c := fun b hb => ⟨(X.bo b hb).1, (X.bo b hb).2.1⟩
    cases hb : hasBr rs with
    | false =>
      rw [hb] at q
      refine ⟨Z.b, L, ε.c, args, hn, ⟨X.lh, cz⟩, args_plain r ha hb, hF _ _ _ _ (fun r c q => ?_) q⟩
      intro v L' H' z' e' r'
      exact q v L' H' (X.exts e' z'.1 fun b hb => (z'.2 b hb).2) (e.trans e') ((r'.vr X).back e)
    | true =>
      rw [hb] at q
      let L2 : Hp := fun a => if lent σ rs a then H a else L a
      have h1 : ∀ a, lent σ rs a → L2 a = H a := fun a h => if_pos h
      have h0 : ∀ a, ¬ lent σ rs a → L2 a = L a := fun a h => if_neg h
      have s1 : Same L L2 := fun a o h => by
        by_cases q : lent σ rs a
        · rw [h1 a q]; exact X.lh a o h
        · rw [h0 a q]; exact h
      have s2 : Same L2 H := fun a o h => by
        by_cases q : lent σ rs a
        · rw [h1 a q] at h; exact h
        · rw [h0 a q] at h; exact X.lh a o h
      refine ⟨Z.b, L2, ε.c, args, hn, ⟨s2, fun b hb => ⟨?_, (cz b hb).2⟩⟩, args_lent s1 r ha h1, hF _ _ _ _ (fun u c q => ?_) q⟩
      · rw [h0 b fun h => (X.bo b hb).2.2 (lent_own r h).2.1]; exact (cz b hb).1
      intro v L' H' z' e' r'
      obtain ⟨hi, q⟩ := q
      let L3 : Hp := fun a => if lent σ rs a then none else L' a
      have k1 : ∀ a, lent σ rs a → L3 a = none := fun a h => if_pos h
      have k0 : ∀ a, ¬ lent σ rs a → L3 a = L' a := fun a h => if_neg h
      have s3 : Same L3 H' := fun a o h => by
        by_cases q : lent σ rs a
        · rw [k1 a q] at h; cases h
        · rw [k0 a q] at h; exact z'.1 a o h
      have e3 : Ext Z.b L H L3 H' := by
        refine ⟨fun a o h => ?_, e'.hh, e'.dom, fun a h d => ?_⟩
        · by_cases q : lent σ rs a
          · rw [(lent_own r q).2.2.1] at h; cases h
          · rw [k0 a q]; exact e'.ll a o (s1 a o h)
        · by_cases q : lent σ rs a
          · exact k1 a q
          · rw [k0 a q]; exact e'.fr a (by rw [h0 a q]; exact h) d
      have tups : ∀ a xs, Sol L' a xs → Sol L3 a xs := fun a xs ⟨o, ho, h⟩ => by
        by_cases q : lent σ rs a
        · obtain ⟨_, _, _, ys, hy⟩ := lent_own r q
          have := e'.ll a _ (by rw [h1 a q]; exact hy)
          rw [this] at h; cases h
        · exact ⟨o, ho, by rw [k0 a q]; exact h⟩
      have r3 : VR0 H L3 H' v u := by
        cases u with
        | sh d => exact DV.imm tups d v hi r'
        | nw ds =>
          obtain ⟨a, xs, rfl, g1, g2, g3, g4⟩ := r'
          refine ⟨a, xs, rfl, g1, ?_, g3, DVs.imm tups ds xs hi g4⟩
          by_cases q : lent σ rs a
          · exact k1 a q
          · rw [k0 a q]; exact g2
        | dnw xs => cases hi
        | dsh xs => cases hi
        | gen g => cases hi
        | _ => exact r'.elim
      exact q v L3 H' (X.exts e3 s3 fun b hb => (z'.2 b hb).2) (e.trans e3) ((r3.vr X).back e)
  · exact q.elim
end
section
variable {w : Wx} {K : PySem.W.Frag} {ta te : TE} {f : DTE}
def dCall (F : DSp) (f : DTA)  (ε : Env) (Q : R → Env → Prop) : Prop := f ε fun rs ε1 => dArgs F rs ε1 Q
theorem se_call {n : Nat} {F : DSp} {t : TA} {f : DTA} {E : XK} (hF : MonF F) (hf : SA w n t f) : SE w (tCall (spD n F) [] E t) (dCall F f) := by
  constructor
  · intro ε A B h q
    exact hf.mono _ _ _ (fun rs ε1 q => dArgs_mono hF h q) q
  · intro Z O σ ε L H Q X q
    refine hf.run Z O σ ε L H _ X (hf.mono _ _ _ (fun rs ε1 q => ?_) q)
    intro vs L1 H1 X1 e1 r1 hl np
    rw [List.append_nil]
    exact run_args hF X1 e1 r1 (by rw [r1.len, hl]) q
def dCallR (F : DSp) (f : DTA)  (ε : Env) (Q : R → Env → Prop) : Prop := f ε fun rs ε1 => dArgs F rs.reverse ε1 Q
theorem VRs.snoc {Z : Zx} {O : Addr → Prop} {σ : L2.St} {Hs L H : Hp} {v : V} {r : R} (x : VR w Z O σ Hs L H v r) : ∀ {vs : List V} {rs : List R}, VRs w Z O σ Hs L H vs rs → VRs w Z O σ Hs L H (vs ++ [v]) (rs ++ [r])
  | _, _, .nil => .cons x .nil
  | _, _, .cons a b => .cons a (VRs.snoc x b)
def wipeE (ε : Env) : List Nat → List SV
  | [] => ε.s
  | v :: vs => (wipeE ε vs).set v .un
theorem wipe_get (σ : L2.St) (i : Nat) : ∀ vs : List Nat, (wipe σ vs)[i]? = if i ∈ vs then (if i < σ.length then some none else none) else σ[i]?
  | [] => by rw [if_neg List.not_mem_nil]; rfl
  | v :: vs => by
    unfold wipe
    rw [List.getElem?_set, wipe_length, wipe_get σ i vs]
    by_cases e : v = i
    · subst e
      rw [if_pos rfl, if_pos List.mem_cons_self]
    · rw [if_neg e]
      by_cases m : i ∈ vs
      · rw [if_pos m, if_pos (List.mem_cons_of_mem _ m)]
      · rw [if_neg m, if_neg (fun h => (List.mem_cons.mp h).elim (fun q => e q.symm) m)]
theorem wipe_but {σ σ' : L2.St} {vs : List Nat} (h : But vs (wipe σ vs) σ') : wipe σ' vs = wipe σ vs := by
  have hl : σ'.length = σ.length := by rw [h.1, wipe_length]
  refine List.ext_getElem? fun i => ?_
  rw [wipe_get, wipe_get]
  by_cases m : i ∈ vs
  · rw [if_pos m, if_pos m, hl]
  · rw [if_neg m, if_neg m, h.2 i m, wipe_get, if_neg m]
theorem wipeE_len (ε : Env) : ∀ vs : List Nat, (wipeE ε vs).length = ε.s.length
  | [] => rfl
  | v :: vs => by unfold wipeE; rw [List.length_set, wipeE_len ε vs]
theorem wipeE_get (ε : Env) (i : Nat) : ∀ (vs : List Nat) (x : SV), (wipeE ε vs)[i]? = some x → (i ∈ vs ∧ x = .un) ∨ (i ∉ vs ∧ ε.s[i]? = some x)
  | [], x, h => .inr ⟨List.not_mem_nil, h⟩
  | v :: vs, x, h => by
    unfold wipeE at h
    rcases get_set h with ⟨rfl, rfl, _⟩ | ⟨ne, h⟩
    · exact .inl ⟨List.mem_cons_self, rfl⟩
    · rcases wipeE_get ε i vs x h with ⟨m, e⟩ | ⟨m, e⟩
      · exact .inl ⟨List.mem_cons_of_mem _ m, e⟩
      · exact .inr ⟨fun q => (List.mem_cons.mp q).elim (fun z => ne z.symm) m, e⟩
theorem Rep.wipe {Z : Zx} {O : Addr → Prop} {σ : L2.St} {ε : Env} {L H : Hp} (x : Rep w Z O L H σ ε) (vs : List Nat) : Rep w Z O L H (L2.wipe σ vs) ⟨wipeE ε vs, ε.c⟩ := by
  refine ⟨x.lh, x.pn, x.ex, x.bo, x.oh, ?_, fun i y hy => ?_, fun i j y z a hij hy hz oy oz hi hj => ?_, x.ph⟩
  · show (L2.wipe σ vs).length = (wipeE ε vs).length
    rw [wipe_length, wipeE_len]; exact x.len
  · have hl : i < σ.length := by
      have := (List.getElem?_eq_some_iff.mp hy).1
      rw [wipeE_len] at this
      rw [x.len]; exact this
    rcases wipeE_get ε i vs y hy with ⟨m, rfl⟩ | ⟨m, e⟩
    · exact ⟨none, by rw [wipe_get, if_pos m, if_pos hl], trivial⟩
    · obtain ⟨o, h1, h2⟩ := x.sl i y e
      exact ⟨o, by rw [wipe_get, if_neg m]; exact h1, h2⟩
  · rcases wipeE_get ε i vs y hy with ⟨m, rfl⟩ | ⟨m, e⟩
    · cases oy
    · rcases wipeE_get ε j vs z hz with ⟨m', rfl⟩ | ⟨m', e'⟩
      · cases oz
      · rw [wipe_get, if_neg m] at hi
        rw [wipe_get, if_neg m'] at hj
        exact x.di i j y z a hij e e' oy oz hi hj
def lcD (γ : DTG) (c : DTT) (f : DTE) (vs : List Nat) (s : List SV) (Q : R → Env → Prop) : List PyData → List PyData → Nat → Prop
  | [], acc, n => Q (.nw acc) ⟨s, n⟩
  | d :: ds, acc, n => γ d ⟨wipeE ⟨s, n⟩ vs, n⟩ fun ε1 => c ε1 fun b ε2 => if b = true then f ε2 fun r ε3 => match r.pub with
      | .sh e => acc.length < sizeLine ∧ lcD γ c f vs s Q ds (acc ++ [e]) ε3.c
      | _ => False
    else lcD γ c f vs s Q ds acc ε2.c
def dLc (i : DTI) (γ : DTG) (c : DTT) (f : DTE) (vs : List Nat)  (ε : Env) (Q : R → Env → Prop) : Prop := i ε fun ds _ ε1 => lcD γ c f vs ε1.s Q ds [] ε1.c
theorem lcD_mono {pk : Bool} {g : TG} {γ : DTG} {tt : TT} {c : DTT} {js vs : List Nat} {s : List SV} {A B : R → Env → Prop} (hg : SG w pk js g γ) (hc : ST w tt c) (hf : SE w te f) (h : ∀ r ε, A r ε → B r ε) : ∀ (ds acc : List PyData) (n : Nat), lcD γ c f vs s A ds acc n → lcD γ c f vs s B ds acc n
  | [], acc, n, z => h _ _ z
  | d :: ds, acc, n, z => by
    refine hg.mono _ _ _ _ (fun ε1 z => hc.mono _ _ _ (fun b ε2 z => ?_) z) z
    cases b with
    | true =>
      rw [if_pos rfl] at z ⊢
      refine hf.mono _ _ _ (fun r ε3 z => ?_) z
      split at z
      · exact ⟨z.1, lcD_mono hg hc hf h ds _ _ z.2⟩
      · exact z.elim
    | false =>
      rw [if_neg Bool.false_ne_true] at z ⊢
      exact lcD_mono hg hc hf h ds _ _ z
theorem se_lc {pk : Bool} {wi : TI} {i : DTI} {g : TG} {γ : DTG} {tt : TT} {c : DTT} {vs : List Nat} (hi : SI w pk wi i) (hg : SG w pk vs g γ) (hc : ST w tt c) (hf : SE w te f) : SE w (tLc wi g tt te vs) (dLc i γ c f vs) := by
  constructor
  · intro ε A B h z
    exact hi.mono _ _ _ (fun ds b ε1 z => lcD_mono hg hc hf h ds [] _ z) z
  · intro Z O σ ε L H Q X z
    refine hi.run Z O σ ε L H _ X (hi.mono _ _ _ (fun ds b ε1 z => ?_) z)
    intro J L1 H1 X1 e1 W _ D nD
    have eD : Ext none L1 H1 L1 (upd H1 D (.lst [])) := Ext.own nD
    have X1' := X1.step eD (same_own X1.lh (X1.lh.free nD))
    have n0 : Z.H0 D = none := X1.ex.free nD
    have nO : ¬ O D := fun o => (X1.oh D o).1 nD
    have bD : Z.b ≠ some D := X1.nob n0
    refine ⟨fun k m H2 => k + m = ds.length ∧ ∃ L2 n acc xs, Rep w Z O L2 H2 σ ⟨ε1.s, n⟩ ∧ Ext Z.b L1 H1 L2 H2 ∧ H2 D = some (.lst xs) ∧ DVs L2 xs acc ∧ L2 D = none ∧ lcD γ c f vs ε1.s (fun r ε' => ∀ v L' H', Rep w Z O L' H' σ ε' → Ext Z.b L H L' H' → VR w Z O σ H L' H' v r → Q v H') (ds.drop k) acc n,
      ⟨ds.length, by omega, L1, ε1.c, [], [], X1', eD.any, upd_same, .nil, X1.lh.free nD, by rw [List.drop_zero]; exact z⟩, ?_⟩
    rintro k m H2 ⟨hkm, L2, n, acc, xs, X2, e2, hD, rD, lD, z2⟩
    have e2' := e2
    by_cases hlt : k < ds.length
    · refine .inr ⟨W.go k L2 H2 e2' X2.lh hlt, fun H' => ∃ L2 n acc xs, Rep w Z O L2 H' σ ⟨ε1.s, n⟩ ∧ Ext Z.b L1 H1 L2 H' ∧ H' D = some (.lst xs) ∧ DVs L2 xs acc ∧ L2 D = none ∧ lcD γ c f vs ε1.s (fun r ε' => ∀ v L' H', Rep w Z O L' H' σ ε' → Ext Z.b L H L' H' → VR w Z O σ H L' H' v r → Q v H') (ds.drop (k + 1)) acc n,
        fun H' q => ⟨m - 1, by omega, by omega, q⟩, fun x H' y => ?_⟩
      have hd : ds[k]? = some ds[k] := List.getElem?_eq_getElem hlt
      rw [List.drop_eq_getElem_cons hlt] at z2
      obtain ⟨L3, e3, s3, r3⟩ := W.yld k ds[k] L2 H2 x H' e2' X2.lh hd y
      have X3 := X2.step e3 s3
      have hD3 := e3.hh D _ hD (fun z => nomatch z)
      have lD3 : L3 D = none := e3.fr D lD (by rw [hD]; exact (fun z => nomatch z))
      refine hg.run Z O _ _ L3 H' x ds[k] _ (X3.wipe vs) r3 (hg.mono _ _ _ _ (fun ε3 z3 σ3 X4 b3 => ⟨wipe_but b3, ?_⟩) z2)
      refine hc.run Z O σ3 ε3 L3 H' _ X4 (hc.mono _ _ _ (fun b ε4 z4 => ?_) z3)
      intro L5 H5 X5 e5
      have hD5 := e5.hh D _ hD3 bD
      have lD5 : L5 D = none := e5.fr D lD3 (by rw [hD3]; exact (fun z => nomatch z))
      have e35 := (e3.any (b := Z.b)).trans e5
      cases b with
      | true =>
        rw [if_pos rfl] at z4 ⊢
        refine hf.run Z O σ3 ε4 L5 H5 _ X5 (hf.mono _ _ _ (fun r ε6 z6 => ?_) z4)
        intro v L6 H6 X6 e6 r6
        split at z6
        · rename_i d' hd'
          obtain ⟨L7, X7, e7, r7⟩ := publ X6 e6 r6
          rw [hd'] at r7
          have hD6 := e7.hh D _ hD5 bD
          have lD7 : L7 D = none := e7.fr D lD5 (by rw [hD5]; exact (fun z => nomatch z))
          have et := e35.trans e7
          have rD7 : DVs L7 xs acc := rD.to et.ll
          have X8 : Rep w Z O L7 H6 σ ⟨ε1.s, ε6.c⟩ := X2.exts et X7.lh fun b hb => (X7.bo b hb).2.1
          refine ⟨xs, hD6, by rw [rD7.len]; exact z6.1, L7, ε6.c, acc ++ [d'], xs ++ [v], ?_, ?_, upd_same, rD7.app (.one r7), lD7, z6.2⟩
          · refine ⟨same_own X8.lh lD7, X8.pn, ⟨X8.ex.ll, fun a o h nb => ?_, fun a h => ?_, X8.ex.fr⟩, fun b hb => ?_, fun a h => ⟨?_, (X8.oh a h).2⟩, X8.len, fun i y hy => ?_, X8.di, X8.ph⟩
            · rw [upd_ne (ne_of_none h n0)]; exact X8.ex.hh a o h nb
            · by_cases q : a = D
              · rw [q, upd_same]; exact (fun z => nomatch z)
              · rw [upd_ne q]; exact X8.ex.dom a h
            · obtain ⟨q1, q2, q3⟩ := X8.bo b hb
              exact ⟨q1, q2.keep (upd_ne (ne_at q3 n0)), q3⟩
            · rw [upd_ne (fun q => nO (by rw [← q]; exact h))]; exact (X8.oh a h).1
            · obtain ⟨o, q1, q2⟩ := X8.sl i y hy
              refine ⟨o, q1, ?_⟩
              cases y with
              | ow ds =>
                obtain ⟨a, ys, g1, g2, g3, g4, g5, g6⟩ := q2
                exact ⟨a, ys, g1, g2, g3, g4, by rw [upd_ne (fun q => nO (by rw [← q]; exact g2))]; exact g5, g6⟩
              | st S n =>
                obtain ⟨a, g1, g2, g3, g4, g5⟩ := q2
                exact ⟨a, g1, g2, g3, g4, by rw [upd_ne (fun q => nO (by rw [← q]; exact g2))]; exact g5⟩
              | dco xs =>
                obtain ⟨a, g1, g2, g3, g4, ⟨ob, g5⟩, g6⟩ := q2
                exact ⟨a, g1, g2, g3, g4, ⟨ob, by rw [upd_ne (fun q => nO (by rw [← q]; exact g2))]; exact g5⟩, g6⟩
              | sto M =>
                obtain ⟨a, A, g1, g2, g3, g4, g5, g6⟩ := q2
                exact ⟨a, A, g1, g2, g3, g4, by rw [upd_ne (fun q => nO (by rw [← q]; exact g2))]; exact g5, g6⟩
              | _ => exact q2
          · have e27 := e2.trans et
            refine ⟨e27.ll, fun a o h nb => ?_, fun a h => ?_, e27.fr⟩
            · rw [upd_ne (ne_of_none h nD)]; exact e27.hh a o h nb
            · by_cases q : a = D
              · rw [q, upd_same]; exact (fun z => nomatch z)
              · rw [upd_ne q]; exact e27.dom a h
        · exact z6.elim
      | false =>
        rw [if_neg Bool.false_ne_true] at z4 ⊢
        have X8 : Rep w Z O L5 H5 σ ⟨ε1.s, ε4.c⟩ := X2.exts e35 X5.lh fun b hb => (X5.bo b hb).2.1
        exact ⟨L5, ε4.c, acc, xs, X8, e2.trans e35, hD5, rD.to e35.ll, lD5, z4⟩
    · have e : k = ds.length := by omega
      subst e
      rw [List.drop_length] at z2
      refine .inl ⟨W.stop L2 H2 e2' X2.lh, z2 _ L2 H2 X2 (e1.trans e2') ⟨D, xs, rfl, e1.free nD, nO, n0, lD, hD, rD⟩⟩
def env0 (args : List SV) (k : Nat) (c : Nat) : Env := ⟨args ++ List.replicate k .un, c⟩
def defF (k : Nat) (p : DTS) (args : List SV) (c : Nat) (Q : R → Nat → Prop) : Prop := p { nx := fun ε => Q (.sh .none) ε.c, rt := fun r ε => Q r ε.c } (env0 args k c)
theorem ArgsR.len {b : Option Addr} {L : Hp} : ∀ {vs : List V} {xs : List SV}, ArgsR b L vs xs → vs.length = xs.length
  | _, _, .nil => rfl
  | _, _, .cons _ r => by rw [List.length_cons, List.length_cons, r.len]
theorem ArgsR.get {b : Option Addr} {L : Hp} : ∀ {vs : List V} {xs : List SV} {i : Nat} {x : SV}, ArgsR b L vs xs → xs[i]? = some x → ∃ v, vs[i]? = some v ∧ ArgR b L v x
  | _, _, _, _, .nil, e => by simp at e
  | _, _, 0, _, .cons a _, e => by simp at e; subst e; exact ⟨_, rfl, a⟩
  | _, _, i + 1, x, .cons _ r, e => by
    obtain ⟨v, h1, h2⟩ := ArgsR.get (i := i) (x := x) r (by simpa using e)
    exact ⟨v, by simpa using h1, h2⟩
theorem rep_start {N : List Str} {b : Option Addr} {L H : Hp} {c k : Nat} {vs : List V} {args : List SV} (z : CallZ b L H c) (a : ArgsR b L vs args) (hk : N.length = vs.length + k) (ph : w.Φ ⟨b, L, H, fun _ => none⟩) : Rep w ⟨b, L, H, fun _ => none⟩ (fun _ => False) L H (start N vs) (env0 args k c) := by
  have hl := a.len
  have un : ∀ (i : Nat) (x : SV), (env0 args k c).s[i]? = some x → (∃ v, vs[i]? = some v ∧ ArgR b L v x) ∨ (vs.length ≤ i ∧ x = .un) := by
    intro i x hx
    have hx : (args ++ List.replicate k SV.un)[i]? = some x := hx
    by_cases hi : i < args.length
    · rw [List.getElem?_append_left hi] at hx
      exact .inl (a.get hx)
    · rw [List.getElem?_append_right (by omega)] at hx
      have := List.mem_of_getElem? hx
      exact .inr ⟨by omega, List.eq_of_mem_replicate this⟩
  have nown : ∀ (i : Nat) (x : SV), (env0 args k c).s[i]? = some x → Own x = true → False := by
    intro i x hx ho
    rcases un i x hx with ⟨v, _, r⟩ | ⟨_, rfl⟩
    · cases x with
      | ow ds => exact r
      | st S n => exact r
      | dco xs => exact r
      | sto M => exact r
      | _ => cases ho
    · cases ho
  refine ⟨z.1, (fun _ _ h => nomatch h), Ext.refl _ _ _, fun d hd => ⟨(z.2 d hd).1, (z.2 d hd).2, (z.2 d hd).2.there⟩, fun _ h => h.elim, ?_, fun i x hx => ?_, fun i j x y d _ hx _ ox => (nown i x hx ox).elim, ph⟩
  · show (start N vs).length = (args ++ List.replicate k SV.un).length
    unfold L2.start
    rw [List.length_append, List.length_map, List.length_replicate, List.length_append, List.length_replicate]
    omega
  · have hi : i < vs.length + k := by
      have := (List.getElem?_eq_some_iff.mp hx).1
      have e : (env0 args k c).s.length = args.length + k := by
        show (args ++ List.replicate k SV.un).length = _
        rw [List.length_append, List.length_replicate]
      omega
    rcases un i x hx with ⟨v, h1, r⟩ | ⟨h1, rfl⟩
    · have hv : i < vs.length := (List.getElem?_eq_some_iff.mp h1).1
      refine ⟨some v, ?_, ?_⟩
      · unfold L2.start
        rw [List.getElem?_append_left (by rw [List.length_map]; exact hv), List.getElem?_map, h1]; rfl
      · cases x with
        | sh d => exact ⟨v, rfl, r⟩
        | bx =>
          obtain ⟨d, h2, rfl⟩ := r
          exact ⟨d, h2, rfl⟩
        | raw u =>
          cases (show v = u from r)
          rfl
        | dsh xs => exact ⟨v, rfl, r⟩
        | gen g => exact ⟨v, rfl, r⟩
        | _ => exact r.elim
    · refine ⟨none, ?_, trivial⟩
      unfold L2.start
      rw [List.getElem?_append_right (by rw [List.length_map]; exact h1), List.getElem?_replicate, if_pos (by rw [List.length_map]; omega)]
end
section
variable {P : Program} {w : World} {K : PySem.W.Frag} {mg : Str → Option Value} {base : Heap}
theorem run_def {N ps : List Str} {t : TS} {p : DTS} {k : Nat} (hp : SS (W0 w) t p) (hk : N.length = ps.length + k) {vs : List V} {H : Hp} {Q : VK} {E : XK} (h : spD ps.length (defF k p) vs H Q E) : t { nx := fun _ H' => Q .non H', rt := Q } (start N vs) H := by
  obtain ⟨b, L, c, args, hn, z, a, q⟩ := h
  refine hp.run _ _ _ _ L H _ _ (rep_start (w := W0 w) z a (by omega) trivial) ?_ q
  refine ⟨fun O σ ε L' H' X q => ?_, fun O σ ε L' H' v r X hr q => ?_, fun O σ ε L' H' X q => q.elim, fun O σ ε L' H' X q => q.elim⟩
  · exact q .non L' H' ⟨X.lh, fun a ha => ⟨(X.bo a ha).1, (X.bo a ha).2.1⟩⟩ X.ex DV.non
  · exact q v L' H' ⟨X.lh, fun a ha => ⟨(X.bo a ha).1, (X.bo a ha).2.1⟩⟩ X.ex hr
theorem spD_len {n : Nat} {F : DSp} {vs : List V} {H : Hp} {Q : VK} {E : XK} (h : spD n F vs H Q E) : vs.length = n := by
  obtain ⟨b, L, c, args, hn, _⟩ := h
  exact hn
theorem spD_imp {n : Nat} {F G : DSp} (h : ∀ args c Q, F args c Q → G args c Q) {vs : List V} {H : Hp} {Q : VK} {E : XK} (x : spD n F vs H Q E) : spD n G vs H Q E := by
  obtain ⟨b, L, c, args, hn, z, a, q⟩ := x
  exact ⟨b, L, c, args, hn, z, a, h _ _ _ q⟩
/-- a def by its data -/
theorem okD {x qual : Str} {st : Stmt} {f : Addr} {fd : FuncData} {N ps : List Str} {k j : Nat} {p : DTS} {F : DSp} (G : Fun K x qual st f fd) (S : FnScope N ps (defScope st)) (hj : N.length = ps.length + j)
    (body : ∀ (cdv : Value) (A : Around) (outer : List PySem.Env) (s : Shared) (H : Hp) (E : XK), Room k (A.deeper (envOfC qual (defScope st) s.heap.objs.size f cdv)) → ∃ t, PSs (cxOf CX0 P w K mg base N qual (defScope st) f cdv A outer s H E).nox (defBody st) t ∧ SS (W0 w) t p)
    (h : ∀ args c Q, F args c Q → defF j p args c Q) : FnOk P w K mg base CX0 (k + 1) f fd ps (spD ps.length F) := by
  refine G.ok S (fun vs H Q E h => spD_len h) fun cdv A outer s H vs Q E hr q => ?_
  obtain ⟨t, ht, hs⟩ := body cdv A outer s H E hr
  exact ⟨t, ht, run_def hs hj (spD_imp h q)⟩
end
end Lp

namespace Lp
open PySem PySem.Spec PyProof.Rows L2
theorem op_or {X : Cx} {f : Value → Value → Sem Value} {r r' : R2} (h : OpR X f r) (h' : OpR X f r') : OpR X f (fun x y H Q => r x y H Q ∨ r' x y H Q) :=
  fun pins s σ H x y v u Q I rx ry q => q.elim (h pins s σ H x y v u Q I rx ry) (h' pins s σ H x y v u Q I rx ry)
theorem sl_or {X : Cx} {r r' : V → Option Int → Option Int → Hp → VK → Prop} (h : SlR X r) (h' : SlR X r') : SlR X (fun x l u H Q => r x l u H Q ∨ r' x l u H Q) := by
  intro pins s σ H x v vl vu lo hi sl Q I rx hs pl pu q
  rcases q with q | q
  · exact h pins s σ H x v vl vu lo hi sl Q I rx hs pl pu q
  · exact h' pins s σ H x v vl vu lo hi sl Q I rx hs pl pu q
/-- ints in, an int out -/
def φI (h : Int → Int → Int)  (x y : PyData) (Q : R → Prop) : Prop := match x, y with
  | .int i, .int j => Q (.sh (.int (h i j)))
  | _, _ => False
def φB (h : Int → Int → Bool)  (x y : PyData) (Q : R → Prop) : Prop := match x, y with
  | .int i, .int j => Q (.sh (.bool (h i j)))
  | _, _ => False
def φC (C : Int → Int → Prop) (h : Int → Int → Int)  (x y : PyData) (Q : R → Prop) : Prop := match x, y with
  | .int i, .int j => C i j ∧ Q (.sh (.int (h i j)))
  | _, _ => False
theorem r2_I {h : Int → Int → Int} : R2K (rI0 fun i j => .int (h i j)) (φI h) := by
  constructor
  · intro x y A B hAB q
    unfold φI at q ⊢
    split at q
    · exact hAB _ q
    · exact q.elim
  · intro L H x y dx dy Q s hx hy q
    unfold φI at q
    split at q
    · exact ⟨_, _, hx.int, hy.int, q _ L H (Ext.refl _ _ _) s (.int _)⟩
    · exact q.elim
theorem r2_C {C : Int → Int → Prop} {h : Int → Int → Int} : R2K (rI C fun i j => .int (h i j)) (φC C h) := by
  constructor
  · intro x y A B hAB q
    unfold φC at q ⊢
    split at q
    · exact ⟨q.1, hAB _ q.2⟩
    · exact q.elim
  · intro L H x y dx dy Q s hx hy q
    unfold φC at q
    split at q
    · exact ⟨_, _, hx.int, hy.int, q.1, q.2 _ L H (Ext.refl _ _ _) s (.int _)⟩
    · exact q.elim
def φNeg (x : PyData) (Q : R → Prop) : Prop := match x with
  | .int i => Q (.sh (.int (-i)))
  | _ => False
abbrev rAdd (K : PySem.W.Frag) : R2 := fun x y H Q => rI0 (fun i j => .int (i + j)) x y H Q ∨ (rCat x y H Q ∨ rCatS K x y H Q)
theorem op_addA {X : Cx} : OpR X (binaryOp .Add) (rAdd X.K) := op_or op_add (op_or op_cat op_catS)
def φAdd  (x y : PyData) (Q : R → Prop) : Prop := match x, y with
  | .int i, .int j => Q (.sh (.int (i + j)))
  | .list a, .list b => a.length + b.length ≤ sizeLine ∧ Q (.nw (a ++ b))
  | .tuple a, .tuple b => a.length + b.length ≤ sizeLine ∧ Q (.sh (.tuple (a ++ b)))
  | _, _ => False
theorem DVs.nil_iff {H : Hp} {vs : List V} {ds : List PyData} (h : DVs H vs ds) : vs = [] ↔ ds = [] := by
  cases h with
  | nil => exact ⟨fun _ => rfl, fun _ => rfl⟩
  | cons _ _ => exact ⟨(fun z => nomatch z), (fun z => nomatch z)⟩
theorem r2_add {K : PySem.W.Frag} : R2K (rAdd K) φAdd := by
  constructor
  · intro x y A B hAB q
    unfold φAdd at q ⊢
    split at q
    · exact hAB _ q
    · exact ⟨q.1, hAB _ q.2⟩
    · exact ⟨q.1, hAB _ q.2⟩
    · exact q.elim
  · intro L H x y dx dy Q s hx hy q
    unfold φAdd at q
    split at q
    · exact .inl ⟨_, _, hx.int, hy.int, q _ L H (Ext.refl _ _ _) s (.int _)⟩
    · obtain ⟨a, xs, rfl, h1, h2⟩ := hx.lst s
      obtain ⟨b, ys, rfl, h3, h4⟩ := hy.lst s
      refine .inr (.inl ⟨a, b, xs, ys, rfl, rfl, h1, h3, by rw [h2.len, h4.len]; exact q.1, fun p np => ?_⟩)
      exact q.2 _ L _ (Ext.own np) (same_own s (s.free np)) ⟨p, _, rfl, np, s.free np, upd_same, h2.app h4⟩
    · obtain ⟨a, xs, rfl, h1, h2⟩ := hx.tup
      obtain ⟨b, ys, rfl, h3, h4⟩ := hy.tup
      refine .inr (.inr ⟨a, b, xs, ys, rfl, rfl, (h1.to s).seq, (h3.to s).seq, by rw [h2.len, h4.len]; exact q.1, fun e => ?_, fun e => ?_, fun p o np no => ?_⟩)
      · have e2 := h2.nil_iff.mp e
        rw [e2, List.nil_append] at q
        exact q.2 _ L H (Ext.refl _ _ _) s (.tup h3 h4)
      · have e2 := h4.nil_iff.mp e
        rw [e2, List.append_nil] at q
        exact q.2 _ L H (Ext.refl _ _ _) s (.tup h1 h2)
      · have e1 : Ext none L H (upd L p (.frz o (.tup (xs ++ ys)))) (upd H p (.frz o (.tup (xs ++ ys)))) := Ext.new s np
        exact q.2 _ _ _ e1 (same_both s) (.tup ⟨o, no, upd_same⟩ ((h2.app h4).to e1.ll))
    · exact q.elim
abbrev rMulA : R2 := fun x y H Q => rI CMulW (fun i j => .int (i * j)) x y H Q ∨ rRep x y H Q
theorem op_mulA {X : Cx} : OpR X (binaryOp .Mult) rMulA := op_or op_mulW op_rep
def φMul  (x y : PyData) (Q : R → Prop) : Prop := match x, y with
  | .int i, .int j => CMulW i j ∧ Q (.sh (.int (i * j)))
  | .list a, .int k => (-(2 ^ 63) ≤ k ∧ k < 2 ^ 63 ∧ a.length * k.toNat ≤ sizeLine) ∧ Q (.nw (List.replicate k.toNat a).flatten)
  | _, _ => False
theorem DVs.rep {H : Hp} {vs : List V} {ds : List PyData} (h : DVs H vs ds) : ∀ n : Nat, DVs H (List.replicate n vs).flatten (List.replicate n ds).flatten
  | 0 => .nil
  | n + 1 => by rw [List.replicate_succ, List.replicate_succ, List.flatten_cons, List.flatten_cons]; exact h.app (h.rep n)
theorem r2_mul : R2K rMulA φMul := by
  constructor
  · intro x y A B hAB q
    unfold φMul at q ⊢
    split at q
    · exact ⟨q.1, hAB _ q.2⟩
    · exact ⟨q.1, hAB _ q.2⟩
    · exact q.elim
  · intro L H x y dx dy Q s hx hy q
    unfold φMul at q
    split at q
    · exact .inl ⟨_, _, hx.int, hy.int, q.1, q.2 _ L H (Ext.refl _ _ _) s (.int _)⟩
    · obtain ⟨a, xs, rfl, h1, h2⟩ := hx.lst s
      refine .inr ⟨a, _, xs, rfl, hy.int, h1, q.1.1, q.1.2.1, by rw [h2.len]; exact q.1.2.2, fun p np => ?_⟩
      exact q.2 _ L _ (Ext.own np) (same_own s (s.free np)) ⟨p, _, rfl, np, s.free np, upd_same, h2.rep _⟩
    · exact q.elim
def PyData.its : PyData → Option (List PyData)
  | .list ds => some ds
  | .tuple ds => some ds
  | _ => none
def φIx  (x y : PyData) (Q : R → Prop) : Prop := match PyData.its x, y with
  | some ds, .int i => ∃ d, atI ds i = some d ∧ Q (.sh d)
  | _, _ => False
theorem atI_dv {H : Hp} {vs : List V} {ds : List PyData} {i : Int} {d : PyData} (h : DVs H vs ds) (e : atI ds i = some d) : ∃ v, atI vs i = some v ∧ DV H v d := by
  unfold atI at e ⊢
  rw [← h.len] at e
  cases hx : ixN vs.length i with
  | none => rw [hx] at e; cases e
  | some j =>
    rw [hx] at e
    exact h.get e
theorem r2_ix {K : PySem.W.Frag} : R2K (rIx K) φIx := by
  constructor
  · intro x y A B hAB q
    unfold φIx at q ⊢
    split at q
    · obtain ⟨d, h1, h2⟩ := q
      exact ⟨d, h1, hAB _ h2⟩
    · exact q.elim
  · intro L H x y dx dy Q s hx hy q
    unfold φIx at q
    split at q
    · rename_i ds i hd
      obtain ⟨d, e, q⟩ := q
      cases dx with
      | list es =>
        cases hd
        obtain ⟨a, xs, rfl, h1, h2⟩ := hx.lst s
        obtain ⟨v, h3, h4⟩ := atI_dv h2 e
        exact .inl ⟨a, xs, i, v, rfl, hy.int, SqL.of h1, h3, q v L H (Ext.refl _ _ _) s h4⟩
      | tuple es =>
        cases hd
        obtain ⟨a, xs, rfl, h1, h2⟩ := hx.tup
        obtain ⟨v, h3, h4⟩ := atI_dv h2 e
        exact .inr (.inl ⟨a, xs, i, v, rfl, hy.int, (h1.to s).seq, h3, q v L H (Ext.refl _ _ _) s h4⟩)
      | _ => cases hd
    · exact q.elim
def cutD (ds : List PyData) (lo hi : Option Int) : List PyData := (ds.drop (HT.sIx ds.length 0 lo)).take (HT.sIx ds.length ds.length hi - HT.sIx ds.length 0 lo)
theorem cut_dv {H : Hp} {vs : List V} {ds : List PyData} (h : DVs H vs ds) (lo hi : Option Int) : DVs H (cutV vs lo hi) (cutD ds lo hi) := by
  unfold cutV cutD
  rw [h.len]
  exact (h.drop _).take _
def φSl (x : PyData) (l h : Option Int) (Q : R → Prop) : Prop := match x with
  | .list ds => Q (.nw (cutD ds l h))
  | .tuple ds => Q (.sh (.tuple (cutD ds l h)))
  | _ => False
abbrev rSlB (K : PySem.W.Frag) : V → Option Int → Option Int → Hp → VK → Prop := fun x l u H Q => rSlL K x l u H Q ∨ rSlS K x l u H Q
theorem sl_both {X : Cx} : SlR X (rSlB X.K) := sl_or sl_list sl_tupS
abbrev rEqI : R2 := rI0 fun i j => .bl (decide (i = j))
theorem op_eqI {X : Cx} : OpR X (compareOp .Eq) rEqI := fun pins s σ H x y v u Q I rx ry q => by
  obtain ⟨i, j, rfl, rfl, q⟩ := q
  refine op_eq pins s σ H _ _ v u Q I rx ry ⟨rfl, ?_⟩
  have e : decide (V.int i = V.int j) = decide (i = j) := by simp
  rw [e]; exact q
abbrev rNeI : R2 := rI0 fun i j => .bl (!decide (i = j))
theorem op_neI {X : Cx} : OpR X (compareOp .NotEq) rNeI := fun pins s σ H x y v u Q I rx ry q => by
  obtain ⟨i, j, rfl, rfl, q⟩ := q
  refine op_ne pins s σ H _ _ v u Q I rx ry ⟨rfl, ?_⟩
  have e : decide (V.int i = V.int j) = decide (i = j) := by simp
  rw [e]; exact q
/-- two texts -/
abbrev rEqS : R2 := fun x y H Q => ∃ a b : Str, x = .str a ∧ y = .str b ∧ Q (.bl (decide (a = b))) H
theorem op_eqS {X : Cx} : OpR X (compareOp .Eq) rEqS := fun pins s σ H x y v u Q I rx ry q => by
  obtain ⟨i, j, rfl, rfl, q⟩ := q
  refine op_eq pins s σ H _ _ v u Q I rx ry ⟨rfl, ?_⟩
  have e : decide (V.str i = V.str j) = decide (i = j) := by simp
  rw [e]; exact q
abbrev rNeS : R2 := fun x y H Q => ∃ a b : Str, x = .str a ∧ y = .str b ∧ Q (.bl (!decide (a = b))) H
theorem op_neS {X : Cx} : OpR X (compareOp .NotEq) rNeS := fun pins s σ H x y v u Q I rx ry q => by
  obtain ⟨i, j, rfl, rfl, q⟩ := q
  refine op_ne pins s σ H _ _ v u Q I rx ry ⟨rfl, ?_⟩
  have e : decide (V.str i = V.str j) = decide (i = j) := by simp
  rw [e]; exact q
abbrev rEqA (K : PySem.W.Frag) : R2 := fun x y H Q => rEqI x y H Q ∨ (rEqS x y H Q ∨ rEqD K x y H Q)
abbrev rNeA (K : PySem.W.Frag) : R2 := fun x y H Q => rNeI x y H Q ∨ (rNeS x y H Q ∨ rNeD K x y H Q)
theorem op_eqA {X : Cx} (hu : X.A.units + 64 < cLine) : OpR X (compareOp .Eq) (rEqA X.K) := op_or op_eqI (op_or op_eqS (op_eqD hu))
theorem op_neA {X : Cx} (hu : X.A.units + 64 < cLine) : OpR X (compareOp .NotEq) (rNeA X.K) := op_or op_neI (op_or op_neS (op_neD hu))
def φEq (neg : Bool)  (x y : PyData) (Q : R → Prop) : Prop := match x, y with
  | .int i, .int j => Q (.sh (.bool (if neg then !decide (i = j) else decide (i = j))))
  | .str i, .str j => Q (.sh (.bool (if neg then !decide (i = j) else decide (i = j))))
  | x, y => (SeqAt.shaped x = true ∧ SeqAt.shaped y = true) ∧ Q (.sh (.bool (if neg then !PyData.eqv x y else PyData.eqv x y)))
theorem φEq_mono {neg : Bool} {x y : PyData} {A B : R → Prop} (hAB : ∀ r, A r → B r) (q : φEq neg x y A) : φEq neg x y B := by
  cases x <;> cases y <;> first | exact hAB _ q | exact ⟨q.1, hAB _ q.2⟩
theorem r2_eq {K : PySem.W.Frag} : R2K (rEqA K) (φEq false) := by
  constructor
  · intro x y A B hAB q
    exact φEq_mono hAB q
  · intro L H x y dx dy Q s hx hy q
    unfold φEq at q
    split at q
    · exact .inl ⟨_, _, hx.int, hy.int, q _ L H (Ext.refl _ _ _) s (.bl _)⟩
    · exact .inr (.inl ⟨_, _, hx.str, hy.str, q _ L H (Ext.refl _ _ _) s (.bl _)⟩)
    · exact .inr (.inr ⟨_, _, DV.dp _ _ (sh_nd q.1.1) (hx.dv s), DV.dp _ _ (sh_nd q.1.2) (hy.dv s), q.1.1, q.1.2, q.2 _ L H (Ext.refl _ _ _) s (.bl _)⟩)
theorem r2_ne {K : PySem.W.Frag} : R2K (rNeA K) (φEq true) := by
  constructor
  · intro x y A B hAB q
    exact φEq_mono hAB q
  · intro L H x y dx dy Q s hx hy q
    unfold φEq at q
    split at q
    · exact .inl ⟨_, _, hx.int, hy.int, q _ L H (Ext.refl _ _ _) s (.bl _)⟩
    · exact .inr (.inl ⟨_, _, hx.str, hy.str, q _ L H (Ext.refl _ _ _) s (.bl _)⟩)
    · exact .inr (.inr ⟨_, _, DV.dp _ _ (sh_nd q.1.1) (hx.dv s), DV.dp _ _ (sh_nd q.1.2) (hy.dv s), q.1.1, q.1.2, q.2 _ L H (Ext.refl _ _ _) s (.bl _)⟩)
def isN : PyData → Bool
  | .none => true
  | _ => false
theorem isN_V {L H : Hp} {v : V} {d : PyData} (h : VL L H v d) : decide (v = .non) = isN d := by
  cases d with
  | none => rw [h.non]; rfl
  | bool b => rw [h.bl]; rfl
  | int i => rw [h.int]; rfl
  | str x => rw [h.str]; rfl
  | list ds =>
    rcases h with h | ⟨a, xs, es, e, rfl, _⟩
    · cases h; rfl
    · rfl
  | tuple ds => obtain ⟨a, xs, rfl, _⟩ := h.tup; rfl
  | dict _ =>
    rcases h with h | ⟨a, xs, es, e, rfl, _⟩
    · cases h <;> rfl
    · rfl
def φIsN (neg : Bool)  (x y : PyData) (Q : R → Prop) : Prop := match y with
  | .none => Q (.sh (.bool (if neg then !isN x else isN x)))
  | _ => False
abbrev rIsN : R2 := fun x y H Q => y = .non ∧ Q (.bl (decide (x = .non))) H
theorem r2_isN : R2K rIsN (φIsN false) := by
  constructor
  · intro x y A B hAB q
    cases y <;> first | exact hAB _ q | exact q.elim
  · intro L H x y dx dy Q s hx hy q
    cases dy with
    | none => exact ⟨hy.non, q _ L H (Ext.refl _ _ _) s (by rw [isN_V hx]; exact .bl _)⟩
    | _ => exact q.elim
theorem its_seq {K : PySem.W.Frag} {L H : Hp} {v : V} {d : PyData} {ds : List PyData} (h : VL L H v d) (s : Same L H) (e : PyData.its d = some ds) : ∃ a xs, v = .ref a ∧ (SqL K H a xs ∨ SqT K H a xs) ∧ DVs L xs ds := by
  cases d with
  | list es =>
    cases e
    obtain ⟨a, xs, rfl, h1, h2⟩ := h.lst s
    exact ⟨a, xs, rfl, .inl (SqL.of h1), h2⟩
  | tuple es =>
    cases e
    obtain ⟨a, xs, rfl, h1, h2⟩ := h.tup
    exact ⟨a, xs, rfl, .inr (h1.to s).seq, h2⟩
  | _ => cases e
end Lp

namespace Lp
open PySem PySem.Spec PyProof.Rows L2
abbrev IL (ns : List Int) : List V := ns.map V.int
abbrev dI (ns : List Int) : List PyData := ns.map PyData.int
/-- all ints of ns lie in 0 .. n - 1 -/
def Low (n : Nat) (ns : List Int) : Prop := ∀ z ∈ ns, 0 ≤ z ∧ z < (n : Int)
theorem Low.app {n : Nat} {fs : List Int} {z : Int} (h : Low n fs) (h0 : 0 ≤ z) (h1 : z < (n : Int)) : Low n (fs ++ [z]) := fun y hy => by
  rcases List.mem_append.mp hy with h2 | h2
  · exact h y h2
  · rw [List.mem_singleton] at h2
    subst h2; exact ⟨h0, h1⟩
theorem Low.set {n : Nat} {fs : List Int} {z : Int} {i : Nat} (h : Low n fs) (h0 : 0 ≤ z) (h1 : z < (n : Int)) : Low n (fs.set i z) := fun y hy => by
  rcases List.mem_or_eq_of_mem_set hy with h2 | h2
  · exact h y h2
  · subst h2; exact ⟨h0, h1⟩
theorem Low.at {n : Nat} {fs : List Int} {z : Int} {i : Nat} (h : Low n fs) (e : fs[i]? = some z) : 0 ≤ z ∧ z < (n : Int) := h z (List.mem_of_getElem? e)
/-- data that are all ints -/
def intsD : List PyData → Option (List Int)
  | [] => some []
  | .int i :: ds => match intsD ds with
    | some ns => some (i :: ns)
    | none => none
  | _ :: _ => none
def boolsD : List PyData → Option (List Bool)
  | [] => some []
  | .bool i :: ds => match boolsD ds with
    | some ns => some (i :: ns)
    | none => none
  | _ :: _ => none
abbrev dB (bs : List Bool) : List PyData := bs.map PyData.bool
theorem boolsD_dB : ∀ bs : List Bool, boolsD (dB bs) = some bs
  | [] => rfl
  | x :: r => by
    show (match boolsD (dB r) with | some ns => some (x :: ns) | none => none) = _
    rw [boolsD_dB r]
theorem boolsD_is : ∀ {ds : List PyData} {ns : List Bool}, boolsD ds = some ns → ds = dB ns
  | [], _, h => by cases h; rfl
  | .bool i :: ds, ns, h => by
    unfold boolsD at h
    split at h
    · rename_i ms hm
      cases h
      rw [boolsD_is hm]; rfl
    · cases h
  | .none :: _, _, h => by cases h
  | .int _ :: _, _, h => by cases h
  | .str _ :: _, _, h => by cases h
  | .list _ :: _, _, h => by cases h
  | .tuple _ :: _, _, h => by cases h
  | .dict _ :: _, _, h => by cases h
theorem bools_dvs {H : Hp} : ∀ {vs : List V} {ns : List Bool}, DVs H vs (dB ns) → vs = ns.map V.bl
  | _, [], .nil => rfl
  | _, _ :: _, .cons (.bl _) r => by rw [bools_dvs r]; rfl
/-- data that are all tuples of ints, none empty -/
def tupsD : List PyData → Option (List (List Int))
  | [] => some []
  | .tuple es :: ds => match intsD es, tupsD ds with
    | some (n :: ns), some nss => some ((n :: ns) :: nss)
    | _, _ => none
  | _ :: _ => none
abbrev dT (nss : List (List Int)) : List PyData := nss.map fun ns => .tuple (dI ns)
end Lp

namespace Lp
open PySem PySem.Spec PyProof.Rows L2
theorem lex_eq : ∀ xs ys : List Int, HT.lexLt xs ys = false → HT.lexLt ys xs = false → xs = ys
  | [], [], _, _ => rfl
  | [], _ :: _, h, _ => by cases h
  | _ :: _, [], _, h => by cases h
  | x :: xs, y :: ys, h1, h2 => by
    rw [HT.lexLt_cons] at h1 h2
    by_cases e : x = y
    · rw [if_pos e] at h1
      rw [if_pos e.symm] at h2
      rw [e, lex_eq xs ys h1 h2]
    · rw [if_neg e] at h1
      rw [if_neg (Ne.symm e)] at h2
      have := of_decide_eq_false h1
      have := of_decide_eq_false h2
      omega
section
variable {prog : Program} {w : World} {A : Around} {E : Value → Shared → Prop} {s : Shared}
/-- what is asked of the values: tuples of ints, none empty -/
def KeyOk (h : Heap) (k : Value → List Int) (vs : List Value) : Prop := ∀ v ∈ vs, TS.TupInts h v (k v) ∧ k v ≠ []
theorem KeyOk.keeps {h h' : Heap} {k : Value → List Int} {vs : List Value} (x : KeyOk h k vs) (q : ∀ b o, h.get? b = some o → o.cls = .type "tuple" → h'.get? b = some o) : KeyOk h' k vs := fun v hv => ⟨(x v hv).1.keeps q, (x v hv).2⟩
end
section
variable {X : Cx}
end
end Lp

namespace Lp
open PySem PySem.Spec PyProof.Rows L2
end Lp

namespace Lp
open PySem PySem.Spec PyProof.Rows L2
section
variable {prog : Program} {w : World} {A : Around} {E : Value → Shared → Prop} {s : Shared} {l : Addr}
end
section
variable {X : Cx}
end
end Lp

namespace Lp
open PySem PySem.Spec PyProof.Rows L2
def φLen  (ds : List PyData) (Q : R → Prop) : Prop := match ds with
  | [d] => match PyData.its d with
    | some es => Q (.sh (.int es.length))
    | none => False
  | _ => False
abbrev rLen (K : PySem.W.Frag) : List V → Hp → VK → Prop := fun xs H Q => ∃ p ys, xs = [.ref p] ∧ (SqL K H p ys ∨ SqT K H p ys) ∧ Q (.int ys.length) H
theorem rc_len {K : PySem.W.Frag} : RCK (rLen K) φLen := by
  constructor
  · intro x A B hAB q
    unfold φLen at q ⊢
    split at q
    · split at q
      · exact hAB _ q
      · exact q.elim
    · exact q.elim
  · intro L H xs ds Q s hx q
    unfold φLen at q
    split at q
    · split at q
      · rename_i es he
        cases hx with
        | cons h1 h2 =>
          cases h2
          obtain ⟨a, ys, rfl, k1, k2⟩ := its_seq (K := K) h1 s he
          exact ⟨a, ys, rfl, k1, by rw [k2.len]; exact q _ L H (Ext.refl _ _ _) s (.int _)⟩
      · exact q.elim
    · exact q.elim
def φList  (ds : List PyData) (Q : R → Prop) : Prop := match ds with
  | [d] => match PyData.its d with
    | some es => Q (.nw es)
    | none => False
  | _ => False
def φTuple  (ds : List PyData) (Q : R → Prop) : Prop := match ds with
  | [d] => match PyData.its d with
    | some es => Q (.sh (.tuple es))
    | none => False
  | _ => False
def φAbs  (ds : List PyData) (Q : R → Prop) : Prop := match ds with
  | [.int i] => Q (.sh (.int (if i < 0 then -i else i)))
  | _ => False
theorem rc_abs : RCK (fun xs H Q => ∃ i, xs = [.int i] ∧ Q (.int (if i < 0 then -i else i)) H) φAbs := by
  constructor
  · intro x A B hAB q
    unfold φAbs at q ⊢
    split at q
    · exact hAB _ q
    · exact q.elim
  · intro L H xs ds Q s hx q
    unfold φAbs at q
    split at q
    · cases hx with
      | cons h1 h2 =>
        cases h2
        cases h1.int
        exact ⟨_, rfl, q _ L H (Ext.refl _ _ _) s (.int _)⟩
    · exact q.elim
def φInt  (ds : List PyData) (Q : R → Prop) : Prop := match ds with
  | [.int i] => Q (.sh (.int i))
  | [.bool b] => Q (.sh (.int (if b then 1 else 0)))
  | _ => False
def φMax  (ds : List PyData) (Q : R → Prop) : Prop := match ds with
  | [.int i, .int j] => Q (.sh (.int (if j > i then j else i)))
  | _ => False
def φAll (any : Bool)  (ds : List PyData) (Q : R → Prop) : Prop := match ds with
  | [.list es] => match boolsD es with
    | some bs => Q (.sh (.bool (if any then bs.any id else bs.all id)))
    | none => False
  | _ => False
theorem rc_all {K : PySem.W.Frag} : RCK (rAll K) (φAll false) := by
  constructor
  · intro x A B hAB q
    unfold φAll at q ⊢
    split at q
    · split at q
      · exact hAB _ q
      · exact q.elim
    · exact q.elim
  · intro L H xs ds Q s hx q
    unfold φAll at q
    split at q
    · split at q
      · rename_i ns hn
        cases hx with
        | cons h1 h2 =>
          cases h2
          obtain ⟨a, ys, rfl, k1, k2⟩ := h1.lst s
          rw [boolsD_is hn] at k2
          cases bools_dvs k2
          exact ⟨a, ns, rfl, SqL.of k1, q _ L H (Ext.refl _ _ _) s (.bl _)⟩
      · exact q.elim
    · exact q.elim
section
variable {w : Wx} {K : PySem.W.Frag} {te : TE} {f : DTE}
/-- RS: the items of nss, each once, ascending -/
def Asc (nss RS : List (List Int)) : Prop := RS.Nodup ∧ RS.Pairwise (fun x y => HT.lexLt y x = false) ∧ ∀ k, k ∈ RS ↔ k ∈ nss
/-- sorted(set(xs)), xs a list of tuples of ints -/
def dSortSet (f : DTE)  (ε : Env) (Q : R → Env → Prop) : Prop := f ε fun r ε1 => match r.dat with
  | some (.list ds) => match tupsD ds with
    | some nss => nss.length < 64 ∧ ∀ RS, Asc nss RS → Q (.nw (dT RS)) ε1
    | none => False
  | _ => False
def dListRg (f : DTE)  (ε : Env) (Q : R → Env → Prop) : Prop := f ε fun r ε1 => match r.dat with
  | some (.int n) => n ≤ 16777216 ∧ -(2 ^ 62) ≤ n ∧ Q (.nw (rgD 0 n.toNat)) ε1
  | _ => False
end
section
variable {X : Cx}
end
section
variable {w : Wx} {K : PySem.W.Frag} {ta te : TE} {f g : DTE}
/-- the first place of an int among ints -/
def dIndex (f g : DTE)  (ε : Env) (Q : R → Env → Prop) : Prop := f ε fun x ε1 => match x.dat.bind PyData.its with
  | some ds => g ε1 fun y ε2 => match y.dat, intsD ds with
    | some (.int k), some ns => k ∈ ns ∧ Q (.sh (.int (ns.idxOf k : Nat))) ε2
    | _, _ => False
  | none => False
theorem idx_get {ms : List Int} {z : Int} (h : z ∈ ms) : ms[ms.idxOf z]? = some z := by
  have hl := List.idxOf_lt_length_of_mem h
  rw [List.getElem?_eq_getElem hl, List.getElem_idxOf hl]
end
end Lp

namespace Lp
open PySem PySem.Spec PyProof.Rows L2
section
variable {w : Wx} {K : PySem.W.Frag} {ta te : TE} {f g : DTE}
def enD (ds : List PyData) : List PyData := ds.mapIdx fun i d => .tuple [.int (i : Nat), d]
theorem enD_len (ds : List PyData) : (enD ds).length = ds.length := by unfold enD; rw [List.length_mapIdx]
theorem enD_get {ds : List PyData} {i : Nat} {e : PyData} (h : (enD ds)[i]? = some e) : ∃ d, ds[i]? = some d ∧ e = .tuple [.int (i : Nat), d] := by
  unfold enD at h
  rw [List.getElem?_mapIdx] at h
  cases q : ds[i]? with
  | none => rw [q] at h; cases h
  | some d => rw [q] at h; cases h; exact ⟨d, rfl, rfl⟩
theorem walkS_enum {L : Hp} {a : Addr} {xs : List V} {ds : List PyData} (h : L a = some (.lst xs)) (r : DVs L xs ds) : WalkS true L (Ite K a) (enD ds) := by
  have hl := r.len
  refine ⟨fun i L' H' s1 s2 hi => ?_, fun L' H' s1 s2 => ?_, fun i d L' H' x H2 s1 s2 hd y => ?_⟩
  · rw [enD_len] at hi
    exact ⟨xs, xs[i]'(by omega), SqL.of (s2 _ _ (s1 _ _ h)), List.getElem?_eq_getElem (by omega)⟩
  · rw [enD_len]
    exact ⟨xs, SqL.of (s2 _ _ (s1 _ _ h)), by omega⟩
  · obtain ⟨T, z, rfl, nT, rfl, y2⟩ := y
    have hx := y2 xs (SqL.of (s2 _ _ (s1 _ _ h)))
    obtain ⟨d', hd', rfl⟩ := enD_get hd
    obtain ⟨v, h1, h2⟩ := r.get hd'
    rw [hx] at h1
    cases h1
    exact ⟨L', Ext.own nT, same_own s2 (s2.free nT), .inr ⟨T, _, _, rfl, rfl, upd_same, .cons (.int _) (.cons (h2.to s1) .nil)⟩⟩
def dEnum (f : DTA)  (ε : Env) (Q : List PyData → Bool → Env → Prop) : Prop := f ε fun rs ε1 => match rs with
  | [.sh (.list ds)] => Q (enD ds) true ε1
  | _ => False
def zipDs (xs ys : List PyData) : List PyData := List.zipWith (fun a b => .tuple [a, b]) xs ys
theorem zipDs_len (xs ys : List PyData) : (zipDs xs ys).length = min xs.length ys.length := by unfold zipDs; rw [List.length_zipWith]
theorem zipDs_get {xs ys : List PyData} {i : Nat} {e : PyData} (h : (zipDs xs ys)[i]? = some e) : ∃ a b, xs[i]? = some a ∧ ys[i]? = some b ∧ e = .tuple [a, b] := by
  unfold zipDs at h
  rw [List.getElem?_zipWith] at h
  cases q : xs[i]? with
  | none => rw [q] at h; cases h
  | some a =>
    rw [q] at h
    cases q2 : ys[i]? with
    | none => rw [q2] at h; cases h
    | some b => rw [q2] at h; cases h; exact ⟨a, b, rfl, rfl, rfl⟩
theorem walkS_zipL {L : Hp} {a b : Addr} {xs ys : List V} {ds es : List PyData} (h : L a = some (.lst xs)) (k : L b = some (.lst ys)) (r : DVs L xs ds) (q : DVs L ys es) : WalkS true L (Itz K a b) (zipDs ds es) := by
  have hl := r.len
  have kl := q.len
  refine ⟨fun i L' H' s1 s2 hi => ?_, fun L' H' s1 s2 => ?_, fun i d L' H' x H2 s1 s2 hd y => ?_⟩
  · rw [zipDs_len] at hi
    exact ⟨xs, ys, xs[i]'(by omega), ys[i]'(by omega), SqL.of (s2 _ _ (s1 _ _ h)), SqL.of (s2 _ _ (s1 _ _ k)), List.getElem?_eq_getElem (by omega), List.getElem?_eq_getElem (by omega)⟩
  · rw [zipDs_len]
    exact ⟨xs, ys, SqL.of (s2 _ _ (s1 _ _ h)), SqL.of (s2 _ _ (s1 _ _ k)), by omega⟩
  · obtain ⟨T, z, z', rfl, nT, rfl, y2, y3⟩ := y
    have hx := y2 xs (SqL.of (s2 _ _ (s1 _ _ h)))
    have hy := y3 ys (SqL.of (s2 _ _ (s1 _ _ k)))
    obtain ⟨d', e', hd', he', rfl⟩ := zipDs_get hd
    obtain ⟨v, h1, h2⟩ := r.get hd'
    obtain ⟨u, k1, k2⟩ := q.get he'
    rw [hx] at h1
    rw [hy] at k1
    cases h1
    cases k1
    exact ⟨L', Ext.own nT, same_own s2 (s2.free nT), .inr ⟨T, _, _, rfl, rfl, upd_same, .cons (h2.to s1) (.cons (k2.to s1) .nil)⟩⟩
theorem walkS_zipT {L : Hp} {a b : Addr} {xs ys : List V} {ds es : List PyData} (h : Sol L a xs) (k : Sol L b ys) (r : DVs L xs ds) (q : DVs L ys es) : WalkS true L (RZ.ItzT K a b) (zipDs ds es) := by
  have hl := r.len
  have kl := q.len
  refine ⟨fun i L' H' s1 s2 hi => ?_, fun L' H' s1 s2 => ?_, fun i d L' H' x H2 s1 s2 hd y => ?_⟩
  · rw [zipDs_len] at hi
    exact ⟨xs, ys, xs[i]'(by omega), ys[i]'(by omega), ((h.to s1).to s2).seq, ((k.to s1).to s2).seq, List.getElem?_eq_getElem (by omega), List.getElem?_eq_getElem (by omega)⟩
  · rw [zipDs_len]
    exact ⟨xs, ys, ((h.to s1).to s2).seq, ((k.to s1).to s2).seq, by omega⟩
  · obtain ⟨T, z, z', rfl, nT, rfl, y2, y3⟩ := y
    have hx := y2 xs ((h.to s1).to s2).seq
    have hy := y3 ys ((k.to s1).to s2).seq
    obtain ⟨d', e', hd', he', rfl⟩ := zipDs_get hd
    obtain ⟨v, h1, h2⟩ := r.get hd'
    obtain ⟨u, k1, k2⟩ := q.get he'
    rw [hx] at h1
    rw [hy] at k1
    cases h1
    cases k1
    exact ⟨L', Ext.own nT, same_own s2 (s2.free nT), .inr ⟨T, _, _, rfl, rfl, upd_same, .cons (h2.to s1) (.cons (k2.to s1) .nil)⟩⟩
def dZip (f : DTA)  (ε : Env) (Q : List PyData → Bool → Env → Prop) : Prop := f ε fun rs ε1 => match rs with
  | [.sh (.list xs), .sh (.list ys)] => Q (zipDs xs ys) true ε1
  | [.sh (.tuple xs), .sh (.tuple ys)] => Q (zipDs xs ys) true ε1
  | _ => False
theorem si_zip {n : Nat} {t : TA} {f : DTA} (hf : SA w n t f) : SI w true (RZ.iZipA K t) (dZip f) := by
  constructor
  · intro ε A B h q
    refine hf.mono _ _ _ (fun r ε1 q => ?_) q
    split at q
    · exact h _ _ _ q
    · exact h _ _ _ q
    · exact q.elim
  · intro Z O σ ε L H R X q
    refine hf.run Z O σ ε L H _ X (hf.mono _ _ _ (fun r ε1 q => ?_) q)
    intro vs L1 H1 X1 e1 r1 hl np
    split at q
    · rename_i xs ys
      cases r1 with
      | cons r1 r2 =>
        cases r2 with
        | cons r2 r3 =>
          cases r3
          cases (show DV L1 _ (.list xs) from r1) with
          | lst h1 h2 =>
            cases (show DV L1 _ (.list ys) from r2) with
            | lst k1 k2 =>
              have W := walkS_zipL (K := K) h1 k1 h2 k2
              exact ⟨_, _, _, _, rfl, .inl ⟨SqL.of (X1.lh _ _ h1), SqL.of (X1.lh _ _ k1), q _ L1 H1 X1 e1 W.e fun _ => W⟩⟩
    · rename_i xs ys
      cases r1 with
      | cons r1 r2 =>
        cases r2 with
        | cons r2 r3 =>
          cases r3
          cases (show DV L1 _ (.tuple xs) from r1) with
          | tup h1 h2 =>
            cases (show DV L1 _ (.tuple ys) from r2) with
            | tup k1 k2 =>
              have W := walkS_zipT (K := K) h1 k1 h2 k2
              exact ⟨_, _, _, _, rfl, .inr ⟨(h1.to X1.lh).seq, (k1.to X1.lh).seq, q _ L1 H1 X1 e1 W.e fun _ => W⟩⟩
    · exact q.elim
def scD (γ : DTG) (f : DTE) (vs : List Nat) (s : List SV) (Q : R → Env → Prop) : List PyData → List (List Int) → Nat → Prop
  | [], acc, n => ∀ RS, Asc acc RS → Q (.nw (dT RS)) ⟨s, n⟩
  | d :: ds, acc, n => γ d ⟨wipeE ⟨s, n⟩ vs, n⟩ fun ε1 => f ε1 fun r ε3 => match r with
      | .sh (.tuple es) => match intsD es with
        | some (x :: ns) => acc.length + 1 < 64 ∧ scD γ f vs s Q ds (acc ++ [x :: ns]) ε3.c
        | _ => False
      | _ => False
def dSortSc (i : DTI) (γ : DTG) (f : DTE) (vs : List Nat)  (ε : Env) (Q : R → Env → Prop) : Prop := i ε fun ds _ ε1 => scD γ f vs ε1.s Q ds [] ε1.c
end
section
variable {w : Wx} {K : PySem.W.Frag} {te : TE} {f : DTE}
def tyD : PyData → String
  | .none => "NoneType"
  | .bool _ => "bool"
  | .int _ => "int"
  | .str _ => "str"
  | .list _ => "list"
  | .tuple _ => "tuple"
  | .dict _ => "dict"
/-- what a value is, dicts with keys that are tuples, too -/
def TyY (K : PySem.W.Frag) (H : Hp) (x : V) (t : Value) : Prop := TyX K H x t ∨ (t = .type "dict" ∧ ∃ a xs, x = .ref a ∧ IsDct H a xs)
theorem kit_ofY {X : Cx} {pins : List (Addr × Obj)} {σ : L2.St} {H : Hp} {s : Shared} {x : V} {u t : Value} (I : Inv X pins σ H s) (rx : RelV x u) (ty : TyY X.K H x t) : ∃ P : Heap → Prop, PySem.W.KitX X.K u t P ∧ P s.heap ∧ u ≠ .builtin "__main__.__loader__#opaque" := by
  rcases ty with ty | ⟨rfl, a, xs, rfl, ob, x1⟩
  · exact kit_of I rx ty
  · cases (show u = Value.ref a from rx)
    obtain ⟨_, _, _, ys, _, o, es, ep, ho, hx, _⟩ := (I.hok a _ x1).1.2
    exact ⟨_, PySem.W.kitx_dict, ⟨o, ho, hx.1⟩, fun z => nomatch z⟩
def rIsiY (K : PySem.W.Frag) : List V → Hp → VK → Prop := fun xs H Q => ∃ (x c : V) (t u : Value) (b : Bool), xs = [x, c] ∧ ClsV c u ∧ TyY K H x t ∧ PySem.W.kitOne K t u = some b ∧ Q (.bl b) H
def rIsiTY (K : PySem.W.Frag) : List V → Hp → VK → Prop := fun xs H Q => ∃ (x : V) (tp : Addr) (cs : List V) (t : Value) (us : List Value) (b : Bool), xs = [x, .ref tp] ∧ H tp = some (.tup cs) ∧ Paired ClsV cs us ∧ TyY K H x t ∧ PySem.W.kitAny K t us = some b ∧ Q (.bl b) H
theorem call_isiY {X : Cx} : CallR X (.builtin "isinstance") (rIsiY X.K) := by
  intro pins s σ H xs us Q I r h
  obtain ⟨x, c, t, u, b, rfl, k, ty, e, q⟩ := h
  obtain ⟨u1, u2, rfl, r1, r2⟩ := vals2 r
  have e2 := k.eq r2
  subst e2
  obtain ⟨P, Z, p, hx⟩ := kit_ofY I r1 ty
  exact PySem.W.kia_one Z I.kIn p e hx fun tk => ⟨.bl b, H, I.tok tk, rfl, q⟩
theorem call_isiTY {X : Cx} : CallR X (.builtin "isinstance") (rIsiTY X.K) := by
  intro pins s σ H xs us Q I r h
  obtain ⟨x, tp, cs, t, ws, b, rfl, hT, k, ty, e, q⟩ := h
  obtain ⟨u1, u2, rfl, r1, r2⟩ := vals2 r
  cases (show u2 = Value.ref tp from r2)
  obtain ⟨P, Z, p, hx⟩ := kit_ofY I r1 ty
  obtain ⟨_, its, rv, o, h1, h2, n, h3⟩ := (show ObjOk X.prog X.w H s.heap tp (.tup cs) from I.hok tp _ hT)
  have e3 := ClsV.all k rv
  subst e3
  obtain ⟨oc, od, dt, sl⟩ := o
  simp only at h2 h3
  subst h2 h3
  exact PySem.W.kia_tup Z I.kIn p h1 e hx fun tk => ⟨.bl b, H, I.tok tk, rfl, q⟩
theorem tyX_of {L H : Hp} {v : V} {d : PyData} (h : VL L H v d) (s : Same L H) : TyY K H v (.type (tyD d)) := by
  cases d with
  | none => rw [h.non]; exact .inl (.base .non)
  | bool b => rw [h.bl]; exact .inl (.base (.bl _))
  | int i => rw [h.int]; exact .inl (.base (.int _))
  | str x => rw [h.str]; exact .inl (.base (.str _))
  | list ds =>
    obtain ⟨a, xs, rfl, h1, _⟩ := h.lst s
    exact .inl (.base (.lst h1))
  | tuple ds =>
    obtain ⟨a, xs, rfl, h1, _⟩ := h.tup
    obtain ⟨o, _, e⟩ := h1.to s
    exact .inl (.fTuple e)
  | dict _ =>
    rcases h with h | ⟨a, xs, es, e, _⟩
    · cases h with
      | dct e _ _ => exact .inr ⟨rfl, _, _, rfl, e.to s⟩
      | dci e _ _ _ => exact .inl (.fDict (s _ _ e))
    · cases e
/-- is a value of type a one of type b -/
def isaT (a b : String) : Bool := a == b || (a == "bool" && b == "int")
def TyIn (T : String) : Prop := T = "int" ∨ T = "bool" ∨ T = "str" ∨ T = "list" ∨ T = "tuple"
theorem kit_all : ∀ a ∈ ["NoneType", "bool", "int", "str", "list", "tuple", "dict"], ∀ b ∈ ["int", "bool", "str", "list", "tuple"], kitB a b = some (isaT a b) := by decide +kernel
theorem kit_tyD {T : String} (hT : TyIn T) (d : PyData) : kitB (tyD d) T = some (isaT (tyD d) T) := by
  refine kit_all _ ?_ _ ?_
  · cases d <;> simp [tyD]
  · rcases hT with rfl | rfl | rfl | rfl | rfl <;> simp
def dIsi (T : String) (f : DTE)  (ε : Env) (Q : R → Env → Prop) : Prop := f ε fun r ε1 => match r.dat with
  | some d => Q (.sh (.bool (isaT (tyD d) T))) ε1
  | none => False
theorem se_isi {T : String} (hT : TyIn T) (hf : SE w te f) : SE w (tCB (rIsiY K) (tCons te (tCons (tC (.ty T)) tNil))) (dIsi T f) := by
  constructor
  · intro ε A B h q
    refine hf.mono _ _ _ (fun r ε1 q => ?_) q
    split at q
    · exact h _ _ q
    · exact q.elim
  · intro Z O σ ε L H Q X q
    refine hf.run Z O σ ε L H _ X (hf.mono _ _ _ (fun r ε1 q => ?_) q)
    intro v L1 H1 X1 e1 r1
    split at q
    · rename_i d hd
      exact ⟨v, .ty T, .type (tyD d), .type T, _, rfl, .ty T, tyX_of (r1.vl hd) X1.lh, kit_ty (kit_tyD hT d), q _ L1 H1 X1 e1 (.bl _)⟩
    · exact q.elim
/-- isinstance(x, (list, tuple)) -/
def dIsi2 (T T' : String) (f : DTE)  (ε : Env) (Q : R → Env → Prop) : Prop := f ε fun r ε1 => match r.dat with
  | some d => Q (.sh (.bool (isaT (tyD d) T || isaT (tyD d) T'))) ε1
  | none => False
theorem se_isi2 {T T' : String} (hT : TyIn T) (hT' : TyIn T') (hf : SE w te f) : SE w (tCB (rIsiTY K) (tCons te (tCons (tTup (tCons (tC (.ty T)) (tCons (tC (.ty T')) tNil))) tNil))) (dIsi2 T T' f) := by
  constructor
  · intro ε A B h q
    refine hf.mono _ _ _ (fun r ε1 q => ?_) q
    split at q
    · exact h _ _ q
    · exact q.elim
  · intro Z O σ ε L H Q X q
    refine hf.run Z O σ ε L H _ X (hf.mono _ _ _ (fun r ε1 q => ?_) q)
    intro v L1 H1 X1 e1 r1
    split at q
    · rename_i d hd
      refine ⟨by show 2 ≤ sizeLine; decide, fun p np => ?_⟩
      have e2 : Ext none L1 H1 L1 (upd H1 p (.tup [.ty T, .ty T'])) := Ext.own np
      have X2 := X1.step e2 (same_own X1.lh (X1.lh.free np))
      refine ⟨v, p, _, .type (tyD d), [.type T, .type T'], _, rfl, upd_same, .cons (.ty T) (.cons (.ty T') .nil), tyX_of ((r1.mono X1 e2.any).vl hd) X2.lh, ?_, q _ L1 _ X2 (e1.trans e2.any) (.bl _)⟩
      refine kitAny_cons (kit_ty (kit_tyD hT d)) (fun h => ?_) (fun h => by rw [h]; rfl)
      refine kitAny_cons (kit_ty (kit_tyD hT' d)) (fun h' => ?_) (fun h' => by rw [h', Bool.or_true])
      rw [h, h']; rfl
    · exact q.elim
end
end Lp

namespace Lp
open PySem PySem.Spec PyProof.Rows L2
/-- the module's names that are the built-ins' -/
structure Bi (mg : Str → Option Value) : Prop where
  len : mg "len" = none
  list : mg "list" = none
  tuple : mg "tuple" = none
  range : mg "range" = none
  enumerate : mg "enumerate" = none
  all : mg "all" = none
  isinstance : mg "isinstance" = none
  zip : mg "zip" = none
  abs : mg "abs" = none
  int : mg "int" = none
  str : mg "str" = none
  bool : mg "bool" = none
  repr : mg "repr" = none
  set : mg "set" = none
  min : mg "min" = none
  max : mg "max" = none
  sorted : mg "sorted" = none
  sum : mg "sum" = none
  any : mg "any" = none
def φIsB  (x y : PyData) (Q : R → Prop) : Prop := match x, y with
  | .bool a, .bool b => Q (.sh (.bool (decide (a = b))))
  | _, _ => False
def dNotT (f : DTE)  (ε : Env) (Q : R → Env → Prop) : Prop := f ε fun r ε1 => match r.dat.bind truD with
  | some k => Q (.sh (.bool (!k))) ε1
  | _ => False
section
variable {X : Cx} {K : PySem.W.Frag}
theorem ixK (e : X.K = K) : IxR X (rIx K) := e ▸ ix_seq
theorem slK (e : X.K = K) : SlR X (rSlB K) := e ▸ sl_both
theorem addK (e : X.K = K) : OpR X (binaryOp .Add) (rAdd K) := e ▸ op_addA
theorem eqK (e : X.K = K) (hu : X.A.units + 64 < cLine) : OpR X (compareOp .Eq) (rEqA K) := e ▸ op_eqA hu
theorem neK (e : X.K = K) (hu : X.A.units + 64 < cLine) : OpR X (compareOp .NotEq) (rNeA K) := e ▸ op_neA hu
theorem lenK (e : X.K = K) : CallR X (.builtin "len") (rLen K) := e ▸ call_len_seq
theorem tupleK (e : X.K = K) : CallR X (.type "tuple") (rTuple K) := e ▸ call_tupleS
theorem allK (e : X.K = K) (hc : X.calm = true) : CallR X (.builtin "all") (rAll K) := e ▸ cr_all hc
theorem seqK {tg o : Expr} {to : TE} (e : X.K = K) (ho : PE X o to) : PI X tg o (iSeq K to) := e ▸ pi_seq ho
theorem gtupK {es : List Expr} {k : Nat} {t : TGs} {n : Nat} {pos : Pos} (e : X.K = K) (h : PG X (.Tuple es k pos) (gTup X.K n t)) : PG X (.Tuple es k pos) (gTup K n t) := e ▸ h
theorem isiK (e : X.K = K) : CallR X (.builtin "isinstance") (rIsiY K) := e ▸ call_isiY
theorem isiTK (e : X.K = K) : CallR X (.builtin "isinstance") (rIsiTY K) := e ▸ call_isiTY
theorem zipA {ta : TA} {p pos tpos : Pos} {elts : List Expr} {kk : Nat} {a a' : Expr} (e : X.K = K) (hg : Gl X "zip") (hm : X.mg "zip" = none) (ha : PA X [a, a'] ta) (hs : starEach [a, a'] X.env = (false, eval a X.env) :: starEach [a'] X.env := by rfl) (hpl : (backTo pos (starEach [a'] X.env)).any (·.1) = false := by rfl) : PI X (.Tuple elts kk tpos) (.Call (.Name "zip" p) [a, a'] [] pos) (RZ.iZipA K ta) := e ▸ RZ.pi_zipA hg hm ha hs hpl
end
/-- a def that may be called -/
structure Cal (P : Program) (w : World) (K : PySem.W.Frag) (mg : Str → Option Value) (base : Heap) (x : Str) (k : Nat) (ps : List Str) (sp : Sp) (f : Addr) (fd : FuncData) : Prop where
  ok : FnOk P w K mg base CX0 k f fd ps sp
  g : mg x = some (.ref f)
  kp : PySem.W.keepIn K (.ref f) = true
  bd : Binds K fd ps []
def KbR (fd : FuncData) (ps : List Str) : Prop := ∀ (s : Shared) (ws : List Value), ws.length = ps.length → BindsTo s fd ⟨[], ps.reverse.zip ws⟩ (ps.zip ws.reverse)
theorem Fun.kbr {K : PySem.W.Frag} {x qual : Str} {st : Stmt} {f : Addr} {fd : FuncData} {ps : List Str} (F : Fun K x qual st f fd)
    (h : ∀ (kV doc pm : Value) (an : Option Addr) (cdv ct : Value) (ws : List Value), ws.length = ps.length → bindArgs (PySem.W.fnOf x qual (defArgs st) (defBody st) (defScope st) .none kV doc pm an cdv ct) ⟨[], ps.reverse.zip ws⟩ = pure (ps.zip ws.reverse)) : KbR fd ps := by
  obtain ⟨oc, od, kV, doc, pm, an, cdv, ct, osl, rfl, lk, hcd⟩ := F.ex
  exact fun s ws hl => .of_eq (h kV doc pm an cdv ct ws hl)
section
variable {P : Program} {w : World} {K : PySem.W.Frag} {mg : Str → Option Value} {base : Heap}
end
def Dx (K : PySem.W.Frag) (x : Str) (st : Stmt) : Prop := ∃ (f : Addr) (oc : Value) (od an : Option Addr) (sl : Array (Option Value)) (kV dc pm cd ct : Value), PySem.W.nsIn K mainGlobals x = some (some (.ref f)) ∧
  K.lookup f = some ⟨oc, od, .func (PySem.W.fnOf x x (defArgs st) (defBody st) (defScope st) .none kV dc pm an cd ct), sl⟩ ∧ PySem.W.codeIn K cd x = true ∧ PySem.W.keepIn K (.ref f) = true
theorem dx_mk {K : PySem.W.Frag} {x : Str} {st : Stmt} {f : Addr} {oc : Value} {od an : Option Addr} {sl : Array (Option Value)} {kV dc pm cd ct : Value} (a : PySem.W.nsIn K mainGlobals x = some (some (.ref f)))
    (l : K.lookup f = some ⟨oc, od, .func (PySem.W.fnOf x x (defArgs st) (defBody st) (defScope st) .none kV dc pm an cd ct), sl⟩) (c : PySem.W.codeIn K cd x = true) (k : PySem.W.keepIn K (.ref f) = true) : Dx K x st := ⟨f, oc, od, an, sl, kV, dc, pm, cd, ct, a, l, c, k⟩
theorem Dx.fn {K : PySem.W.Frag} {x : Str} {st : Stmt} {h : Heap} {mg : Str → Option Value} (d : Dx K x st) (X : K.In h) (G : h.Ns mainGlobals mg) : ∃ f fd, Fun K x x st f fd ∧ mg x = some (.ref f) := by
  obtain ⟨f, oc, od, an, sl, kV, dc, pm, cd, ct, a, l, c, k⟩ := d
  exact ⟨f, _, fun_mk l c k, PySem.W.mg_of X G a⟩
structure Zs (K : PySem.W.Frag) : Prop where
  len : PySem.W.nsIn K mainGlobals "len" = some none
  list : PySem.W.nsIn K mainGlobals "list" = some none
  tuple : PySem.W.nsIn K mainGlobals "tuple" = some none
  range : PySem.W.nsIn K mainGlobals "range" = some none
  enumerate : PySem.W.nsIn K mainGlobals "enumerate" = some none
  all : PySem.W.nsIn K mainGlobals "all" = some none
  isinstance : PySem.W.nsIn K mainGlobals "isinstance" = some none
  zip : PySem.W.nsIn K mainGlobals "zip" = some none
  abs : PySem.W.nsIn K mainGlobals "abs" = some none
  int : PySem.W.nsIn K mainGlobals "int" = some none
  str : PySem.W.nsIn K mainGlobals "str" = some none
  bool : PySem.W.nsIn K mainGlobals "bool" = some none
  repr : PySem.W.nsIn K mainGlobals "repr" = some none
  set : PySem.W.nsIn K mainGlobals "set" = some none
  min : PySem.W.nsIn K mainGlobals "min" = some none
  max : PySem.W.nsIn K mainGlobals "max" = some none
  sorted : PySem.W.nsIn K mainGlobals "sorted" = some none
  sum : PySem.W.nsIn K mainGlobals "sum" = some none
  any : PySem.W.nsIn K mainGlobals "any" = some none
theorem Zs.bi {K : PySem.W.Frag} {h : Heap} {mg : Str → Option Value} (z : Zs K) (X : K.In h) (G : h.Ns mainGlobals mg) : Bi mg := by
  constructor
  · exact PySem.W.mg_none_of X G z.len
  · exact PySem.W.mg_none_of X G z.list
  · exact PySem.W.mg_none_of X G z.tuple
  · exact PySem.W.mg_none_of X G z.range
  · exact PySem.W.mg_none_of X G z.enumerate
  · exact PySem.W.mg_none_of X G z.all
  · exact PySem.W.mg_none_of X G z.isinstance
  · exact PySem.W.mg_none_of X G z.zip
  · exact PySem.W.mg_none_of X G z.abs
  · exact PySem.W.mg_none_of X G z.int
  · exact PySem.W.mg_none_of X G z.str
  · exact PySem.W.mg_none_of X G z.bool
  · exact PySem.W.mg_none_of X G z.repr
  · exact PySem.W.mg_none_of X G z.set
  · exact PySem.W.mg_none_of X G z.min
  · exact PySem.W.mg_none_of X G z.max
  · exact PySem.W.mg_none_of X G z.sorted
  · exact PySem.W.mg_none_of X G z.sum
  · exact PySem.W.mg_none_of X G z.any
abbrev FnT (x : Str) (st : Stmt) (kV doc pm : Value) (an : Option Addr) (cdv ct : Value) : FuncData := PySem.W.fnOf x x (defArgs st) (defBody st) (defScope st) .none kV doc pm an cdv ct
section
variable {K : PySem.W.Frag} {x : Str} {st : Stmt} {f : Addr} {fd : FuncData} {p p' p'' : Str} (F : Fun K x x st f fd)
include F
theorem b1 (h : ∀ kV doc pm an cdv ct u, bindArgs (FnT x st kV doc pm an cdv ct) ⟨[u], []⟩ = pure [(p, u)]) : Binds K fd [p] [] :=
  F.binds fun kV doc pm an cdv ct us hl => match us, hl with | [u], _ => h kV doc pm an cdv ct u
theorem b2 (h : ∀ kV doc pm an cdv ct u v, bindArgs (FnT x st kV doc pm an cdv ct) ⟨[u, v], []⟩ = pure [(p, u), (p', v)]) : Binds K fd [p, p'] [] :=
  F.binds fun kV doc pm an cdv ct us hl => match us, hl with | [u, v], _ => h kV doc pm an cdv ct u v
theorem b3 (h : ∀ kV doc pm an cdv ct u v t, bindArgs (FnT x st kV doc pm an cdv ct) ⟨[u, v, t], []⟩ = pure [(p, u), (p', v), (p'', t)]) : Binds K fd [p, p', p''] [] :=
  F.binds fun kV doc pm an cdv ct us hl => match us, hl with | [u, v, t], _ => h kV doc pm an cdv ct u v t
theorem r1 (h : ∀ kV doc pm an cdv ct u, bindArgs (FnT x st kV doc pm an cdv ct) ⟨[], [(p, u)]⟩ = pure [(p, u)]) : KbR fd [p] :=
  Fun.kbr F fun kV doc pm an cdv ct us hl => match us, hl with | [u], _ => h kV doc pm an cdv ct u
theorem r2 (h : ∀ kV doc pm an cdv ct u v, bindArgs (FnT x st kV doc pm an cdv ct) ⟨[], [(p', u), (p, v)]⟩ = pure [(p, v), (p', u)]) : KbR fd [p, p'] :=
  Fun.kbr F fun kV doc pm an cdv ct us hl => match us, hl with | [u, v], _ => h kV doc pm an cdv ct u v
theorem r3 (h : ∀ kV doc pm an cdv ct u v t, bindArgs (FnT x st kV doc pm an cdv ct) ⟨[], [(p'', u), (p', v), (p, t)]⟩ = pure [(p, t), (p', v), (p'', u)]) : KbR fd [p, p', p''] :=
  Fun.kbr F fun kV doc pm an cdv ct us hl => match us, hl with | [u, v, t], _ => h kV doc pm an cdv ct u v t
end
theorem Cal.up {P : Program} {w : World} {K : PySem.W.Frag} {mg : Str → Option Value} {base : Heap} {x : Str} {j k : Nat} {ps : List Str} {sp : Sp} {f : Addr} {fd : FuncData} (c : Cal P w K mg base x j ps sp f fd) (h : j ≤ k) : Cal P w K mg base x k ps sp f fd := ⟨c.ok.mono h, c.g, c.kp, c.bd⟩
end Lp

namespace Lp
open PySem PySem.Spec PyProof.Rows L2
section
variable {P : Program} {w : World} {K : PySem.W.Frag} {mg : Str → Option Value} {base : Heap}
end
end Lp

namespace Lp
open PySem PySem.Spec PyProof.Rows L2
abbrev tupIt (t : Addr) : Obj := { cls := .type "tuple_iterator", data := .fields #[.ref t, .int 0 0] }
abbrev enumOf (it : Addr) : Obj := { cls := .type "enumerate", data := .fields #[.none, .bool false, .ref it, rawInt 0, .none, .none] }
theorem meets_enT (t : Addr) (its : Array Value) : Meets (Builtin.«enumerate.__new__» ⟨[.type "enumerate", .ref t], []⟩) (fun _ R s => s.heap.IsTuple t its ∧
    R (.ok (.ret (.ref (s.heap.push (tupIt t)).objs.size))) { s with heap := (s.heap.push (tupIt t)).push (enumOf s.heap.objs.size) }) :=
  .of_wp fun prog w A R s h => by
    obtain ⟨hp, g, d, tk, os⟩ := s
    obtain ⟨ht, h⟩ := h
    have sub := sub_enumerate
    have goIt : ∀ {A' : Around} {X : Value → Shared → Prop} {Q : Value → Shared → Prop}, Q (.ref hp.objs.size) ⟨hp.push (tupIt t), g, d, tk, os⟩ → wpAny (model prog w) A' (pyIter (.ref t)) Q X ⟨hp, g, d, tk, os⟩ :=
      fun q => wpAny_pyIter_tuple ht q
    wp_walk using goIt
    refine wpAny_stack_any fun st => wpAny_pure ?_
    split
    · rename_i c _ _ _ _ _
      cases (c == Value.type "enumerate") <;> (wp_walk using goIt; exact ⟨_, rfl, h⟩)
    · wp_walk using goIt
      exact ⟨_, rfl, h⟩
theorem call_enT {prog : Program} {w : World} {A : Around} {X : Value → Shared → Prop} {s : Shared} {t : Addr} {its : Array Value} {Q : Value → Shared → Prop} (ht : s.heap.IsTuple t its)
    (h : ∀ h', IsEnum h' (s.heap.objs.size + 1) s.heap.objs.size 0 .none → h'.IsTupleIter s.heap.objs.size t 0 → (∀ b o, s.heap.get? b = some o → h'.get? b = some o) → Q (.ref (s.heap.objs.size + 1)) { s with heap := h' }) :
    wpAny (model prog w) A (call (.type "enumerate") [.ref t]) Q X s := by
  refine callType_new F.called_enumerate (by decide) (F.typeCall_enumerate_1 _) (F.newCall_enumerate_1 _) (fun obj => F.args_object_init_2 obj _) F.entry_enumerate_new (meets_enT t its) ⟨ht, ?_⟩
  have z1 : (s.heap.push (tupIt t)).objs.size = s.heap.objs.size + 1 := Heap.size_push ..
  show _ ∧ _
  rw [z1]
  have made : IsEnum ((s.heap.push (tupIt t)).push (enumOf s.heap.objs.size)) (s.heap.objs.size + 1) s.heap.objs.size 0 .none := by
    have y := Heap.get?_push_size (s.heap.push (tupIt t)) (o := enumOf s.heap.objs.size) rfl
    rw [z1] at y
    exact y
  exact ⟨⟨_, made, rfl⟩, h _ made ⟨_, Heap.get?_push_of_some _ (Heap.get?_push_size _ rfl), rfl, rfl⟩ fun b o x => Heap.get?_push_of_some _ (Heap.get?_push_of_some _ x)⟩
/-- the tuple at a, each item in a new pair -/
def IteT (K : PySem.W.Frag) (a : Addr) : It :=
  ⟨fun i H => ∃ (xs : List V) (x : V), SqT K H a xs ∧ xs[i]? = some x, fun i H v H' => ∃ T x, v = .ref T ∧ H T = none ∧ H' = upd H T (.tup [.int (i : Nat), x]) ∧ ∀ xs, SqT K H a xs → xs[i]? = some x, fun i H => ∃ xs : List V, SqT K H a xs ∧ xs.length ≤ i⟩
theorem apartT {h : Heap} {a e it : Addr} {its : Array Value} {k : Int} {old : Value} {i : Nat} (p : h.IsTuple a its) (he : IsEnum h e it k old) (hit : h.IsTupleIter it a i) : a ≠ it ∧ e ∉ [it, a] ∨ e = it := by
  obtain ⟨o, ho, hc, _⟩ := p
  obtain ⟨o2, h2, c2, _⟩ := hit
  have n1 : a ≠ it := fun z => by
    rw [z, h2] at ho
    cases ho
    rw [hc] at c2
    injection c2 with c3
    exact absurd c3 (by decide)
  have n2 : e ≠ a := fun z => by
    have he2 : h.get? e = some _ := he
    rw [z, ho] at he2
    have := congrArg (fun x => (Option.map Obj.cls x)) he2
    simp only [Option.map_some, Option.some.injEq] at this
    rw [hc] at this
    injection this with c3
    exact absurd c3 (by decide)
  by_cases q : e = it
  · exact .inr q
  · exact .inl ⟨n1, by simp [q, n2]⟩
theorem turn_enT {P : Program} {w : World} {K : PySem.W.Frag} {elts : List Expr} {kk : Nat} {tpos : Pos} (a e it : Addr) :
    Turn P w K (.Tuple elts kk tpos) (IteT K a) [e, it] e (fun i h => (∃ old, IsEnum h e it ((i : Nat) : Int) old) ∧ h.IsTupleIter it a i ∧ e ≠ it) where
  mem := by simp
  obj := fun i h st b hb => by
    obtain ⟨⟨old, he⟩, ⟨o, ho, hc, hd⟩, _⟩ := st
    rcases (show b = e ∨ b = it by simpa using hb) with z | z
    · subst z; exact ⟨_, he, fun v q => nomatch q⟩
    · subst z; exact ⟨o, ho, fun v q => by rw [hd] at q; cases q⟩
  keep := fun i h h' st k => by
    obtain ⟨⟨old, he⟩, hi, ne⟩ := st
    exact ⟨⟨old, k e (by simp) _ he⟩, hi.at fun o q => k it (by simp) o q, ne⟩
  item := by
    intro X hP hw hK hc i pins s σ H E I hf st hg
    subst hP hw hK
    obtain ⟨⟨old, he⟩, hit, ne⟩ := st
    obtain ⟨xs, x, hq, hx⟩ := hg
    obtain ⟨its, rv, p, few⟩ := I.tuple hq
    obtain ⟨u, hu, ru⟩ := rv.get hx
    have el : e < s.heap.objs.size := Heap.lt_size he
    have il : it < s.heap.objs.size := by obtain ⟨_, q, _⟩ := hit; exact Heap.lt_size q
    obtain ⟨n1, n2⟩ := (apartT p he hit).resolve_right ne
    have iu : i < its.toArray.size := by
      have := (List.getElem?_eq_some_iff.mp hu).1
      simpa using this
    refine wpAny_pyNext_enum_itemD (Draws.tuple (A := X.A.in1) (I.ok.hd hc) it a n1 its.toArray) he ⟨hit, p⟩ iu ne n2 fun y h' tk hy ho st' hT hsz hk => ?_
    have yu : y = u := by
      have hy2 : its.toArray[i]? = some y := hy
      rw [List.getElem?_toArray, hu] at hy2
      exact (Option.some.inj hy2).symm
    subst yu
    refine ⟨_, rfl, wpAny_letOwnedTupleGo_enum (s := { s with heap := h', toks := tk + 1 }) ho fun h2 he2 sb => ?_⟩
    have hT2 : h2.get? s.heap.objs.size = some { cls := .type "tuple", data := .seq #[.int i tk, y] } := (sb.2 _ (Nat.ne_of_gt el)).trans hT
    have pair : ObjOk X.prog X.w (upd H s.heap.objs.size (.tup [.int (i : Nat), x])) h2 s.heap.objs.size (.tup [.int (i : Nat), x]) :=
      ⟨by show 2 ≤ sizeLine; decide, [.int i tk, y], .cons ⟨_, rfl⟩ (.cons ru .nil), ⟨_, hT2, rfl, _, rfl⟩⟩
    have J : Inv X pins σ (upd H s.heap.objs.size (.tup [.int (i : Nat), x])) { s with heap := h2, toks := tk + 1 } :=
      I.turnedNew (ch := [e, it]) (fun b ob hb q => (sb.2 b (fun z => hb (by simp [z]))).trans (hk b ob (fun z => hb (by simp [z])) (fun z => hb (by simp [z])) q)) hf (Nat.le_refl _) pair
    refine ⟨.ref s.heap.objs.size, _, J, rfl, ⟨_, x, rfl, I.hok.fresh (Nat.le_refl _), rfl, fun ys hy => by rw [I.tuple_inj hy hq]; exact hx⟩, ⟨⟨y, ?_⟩, st'.1.at fun o q => (sb.2 it (Ne.symm ne)).trans q, ne⟩, fun b hb => ?_⟩
    · rw [show ((i + 1 : Nat) : Int) = (i : Int) + 1 by omega]; exact he2
    · have bl : b < s.heap.objs.size := by
        rcases (show b = e ∨ b = it by simpa using hb) with z | z
        · subst z; exact el
        · subst z; exact il
      rw [upd_ne (Nat.ne_of_lt bl)]
      exact (hf b hb).1
  done := by
    intro X hP hw hK hc i pins s σ H E I hf st hg
    subst hP hw hK
    obtain ⟨⟨old, he⟩, hit, ne⟩ := st
    obtain ⟨xs, hq, hx⟩ := hg
    obtain ⟨its, rv, p, few⟩ := I.tuple hq
    obtain ⟨n1, n2⟩ := (apartT p he hit).resolve_right ne
    obtain ⟨f0, f1, f2, f3, f4, f5⟩ := hf it (by simp)
    have hl := rv.length
    have hT : s.TypeIs (.ref e) "enumerate" := ⟨_, he, rfl⟩
    unfold pyNext
    refine wpAny_bind (wpAny_attempt (wpAny_callSpecial?_slot (name := Str.ofString "__next__") hT F.slot_enumerate_next
      (wpAny_call_entry F.slot_enumerate_next hT F.entry_enumerate_next ?_ (F.args_enumerate_next_1 _))))
    show wpAny _ _ (field (.ref e) 2 >>= _) _ _ _
    refine wpAny_bind (wpAny_field he rfl (x := .ref it) rfl ?_)
    refine wpAny_bind (wpAny_nextOf_tuple_end (A := X.A.in1) (I.ok.hd hc) hit p (by simp; omega) fun h' x eb hx' => ?_)
    obtain ⟨o, ho, hc'⟩ := hx'
    refine wpAny_bind (wpAny_isInstance (T := "StopIteration") (b := true) ⟨o, ho, hc'⟩ isSubtype_stop ?_)
    exact wpAny_pure ⟨rfl, I.turned (t' := s.toks) (fun b o hb q => eb b o hb q) f0 f1 f3 f4 f5⟩
  self := fun A i s Q E st h => by
    obtain ⟨⟨_, he⟩, _⟩ := st
    exact wpAny_pyIter_enum he h
/-- enumerate(e): a list or a tuple -/
def iEnA (K : PySem.W.Frag) (ta : TA) : TI := fun σ H R => ta σ H fun vs H1 => ∃ a xs, vs = [.ref a] ∧ ((SqL K H1 a xs ∧ R (Ite K a) H1) ∨ (SqT K H1 a xs ∧ R (IteT K a) H1))
theorem pi_enA {X : Cx} {e : Expr} {ta : TA} {p pos tpos : Pos} {elts : List Expr} {kk : Nat} (hg : Gl X "enumerate") (hm : X.mg "enumerate" = none) (ha : PA X [e] ta) (hs : starEach [e] X.env = [(false, eval e X.env)] := by rfl) :
    PI X (.Tuple elts kk tpos) (.Call (.Name "enumerate" p) [e] [] pos) (iEnA X.K ta) := by
  refine ⟨fun pins s σ H R I h => ?_⟩
  refine Call_ (ld_blt I hg hm boot_enumerate (PyProof.Rows.callWith_type1 (thn (ha.run pos pins s σ H _ I h) fun us s1 ⟨vs, H1, I1, r1, q1⟩ => ?_) hs rfl))
  obtain ⟨a, xs, rfl, ways⟩ := q1
  cases r1 with
  | cons r rr =>
    cases rr
    cases r
    have fresh : ∀ b, b ∈ [s1.heap.objs.size + 1, s1.heap.objs.size] → s1.heap.objs.size ≤ b := fun b hb => by
      rcases (show b = s1.heap.objs.size + 1 ∨ b = s1.heap.objs.size by simpa using hb) with z | z <;> omega
    rcases ways with ⟨hq, q⟩ | ⟨hq, q⟩
    · obtain ⟨its, rv, pl, few⟩ := I1.list hq
      refine call_enumerate_list pl.isList fun h' he hit hsz hk => wpAny_pyIter_enum he ?_
      exact ⟨s1.heap.objs.size + 1, _, _, _, H1, rfl, I1.kept (t' := s1.toks) hk, turn_enum a (s1.heap.objs.size + 1) s1.heap.objs.size, ⟨⟨.none, he⟩, hit, Nat.succ_ne_self _⟩, fun b hb => I1.fpOk (fresh b hb) (I1.hok.fresh (fresh b hb)), q⟩
    · obtain ⟨its, rv, pt, few⟩ := I1.tuple hq
      refine call_enT pt fun h' he hit hk => wpAny_pyIter_enum he ?_
      exact ⟨s1.heap.objs.size + 1, _, _, _, H1, rfl, I1.kept (t' := s1.toks) hk, turn_enT a (s1.heap.objs.size + 1) s1.heap.objs.size, ⟨⟨.none, he⟩, hit, Nat.succ_ne_self _⟩, fun b hb => I1.fpOk (fresh b hb) (I1.hok.fresh (fresh b hb)), q⟩
section
variable {w : Wx} {K : PySem.W.Frag} {ta te : TE} {f g : DTE}
theorem enumA2 {X : Cx} {ta : TA} {p pos tpos : Pos} {elts : List Expr} {kk : Nat} {a : Expr} (e : X.K = K) (hg : Gl X "enumerate") (hm : X.mg "enumerate" = none) (ha : PA X [a] ta) (hs : starEach [a] X.env = [(false, eval a X.env)] := by rfl) : PI X (.Tuple elts kk tpos) (.Call (.Name "enumerate" p) [a] [] pos) (iEnA K ta) := e ▸ pi_enA hg hm ha hs
theorem walkS_enumT {L : Hp} {a : Addr} {xs : List V} {ds : List PyData} (h : Sol L a xs) (r : DVs L xs ds) : WalkS true L (IteT K a) (enD ds) := by
  have hl := r.len
  refine ⟨fun i L' H' s1 s2 hi => ?_, fun L' H' s1 s2 => ?_, fun i d L' H' x H2 s1 s2 hd y => ?_⟩
  · rw [enD_len] at hi
    exact ⟨xs, xs[i]'(by omega), ((h.to s1).to s2).seq, List.getElem?_eq_getElem (by omega)⟩
  · rw [enD_len]
    exact ⟨xs, ((h.to s1).to s2).seq, by omega⟩
  · obtain ⟨T, z, rfl, nT, rfl, y2⟩ := y
    have hx := y2 xs ((h.to s1).to s2).seq
    obtain ⟨d', hd', rfl⟩ := enD_get hd
    obtain ⟨v, h1, h2⟩ := r.get hd'
    rw [hx] at h1
    cases h1
    exact ⟨L', Ext.own nT, same_own s2 (s2.free nT), .inr ⟨T, _, _, rfl, rfl, upd_same, .cons (.int _) (.cons (h2.to s1) .nil)⟩⟩
def dEnA (f : DTA) (ε : Env) (Q : List PyData → Bool → Env → Prop) : Prop := f ε fun rs ε1 => match rs with
  | [.sh (.list ds)] => Q (enD ds) true ε1
  | [.sh (.tuple ds)] => Q (enD ds) true ε1
  | _ => False
theorem si_enA {n : Nat} {t : TA} {f : DTA} (hf : SA w n t f) : SI w true (iEnA K t) (dEnA f) := by
  constructor
  · intro ε A B h q
    refine hf.mono _ _ _ (fun r ε1 q => ?_) q
    split at q
    · exact h _ _ _ q
    · exact h _ _ _ q
    · exact q.elim
  · intro Z O σ ε L H R X q
    refine hf.run Z O σ ε L H _ X (hf.mono _ _ _ (fun r ε1 q => ?_) q)
    intro vs L1 H1 X1 e1 r1 hl np
    split at q
    · rename_i ds
      cases r1 with
      | cons r1 r2 =>
        cases r2
        cases (show DV L1 _ (.list ds) from r1) with
        | lst h1 h2 =>
          have W := walkS_enum (K := K) h1 h2
          exact ⟨_, _, rfl, .inl ⟨SqL.of (X1.lh _ _ h1), q _ L1 H1 X1 e1 W.e fun _ => W⟩⟩
    · rename_i ds
      cases r1 with
      | cons r1 r2 =>
        cases r2
        cases (show DV L1 _ (.tuple ds) from r1) with
        | tup h1 h2 =>
          have W := walkS_enumT (K := K) h1 h2
          exact ⟨_, _, rfl, .inr ⟨(h1.to X1.lh).seq, q _ L1 H1 X1 e1 W.e fun _ => W⟩⟩
    · exact q.elim
end
section
variable {K : PySem.W.Frag} {x : Str} {st : Stmt} {f : Addr} {fd : FuncData} {p1 p2 p3 p4 p5 : Str} (F : Fun K x x st f fd)
include F
end
def φIsNB (x y : PyData) (Q : R → Prop) : Prop := match x, y with
  | .bool a, .bool b => Q (.sh (.bool (!decide (a = b))))
  | _, _ => False
theorem r2_isNB : R2K (fun x y H Q => ∃ a b, x = .bl a ∧ y = .bl b ∧ Q (.bl (!decide (a = b))) H) φIsNB := by
  constructor
  · intro x y A B hAB q
    unfold φIsNB at q ⊢
    split at q
    · exact hAB _ q
    · exact q.elim
  · intro L H x y dx dy Q s hx hy q
    unfold φIsNB at q
    split at q
    · exact ⟨_, _, hx.bl, hy.bl, q _ L H (Ext.refl _ _ _) s (.bl _)⟩
    · exact q.elim
end Lp

namespace Lp
open PySem PySem.Spec PyProof.Rows L2
end Lp

namespace Lp
open PySem PySem.Spec PyProof.Rows L2
section
variable {P : Program} {w : World} {A : Around} {E : Value → Shared → Prop} {s : Shared}
end
section
variable {X : Cx}
end
section
variable {w : Wx} {K : PySem.W.Frag} {te : TE} {f : DTE}
end
end Lp

namespace Lp
open PySem PySem.Spec PyProof.Rows L2
section
variable {X : Cx}
end
section
variable {w : Wx} {K : PySem.W.Frag} {te : TE} {f : DTE}
end
end Lp

namespace Lp
open PySem PySem.Spec PyProof.Rows L2
/-- the class at C has the one base B, and an __init__ of its own -/
structure OexB (K : PySem.W.Frag) (C : Addr) (B newId initId : String) (bm : List Value) : Prop where
  base : ExcBaseFacts B newId initId bm
  pass : ∀ self : Value, refuseLoop self "__setattr__" bm = pure ()
  obj : bm.contains (.type "object") = true
  cls : ∃ nm q N bs sn sub ab col dd k0 k1 k2 k3 k5, K.lookup C = some (excClassObj nm q C N bs bm true sn sub ab col dd k0 k1 k2 k3 k5 newId)
  sa : PySem.W.findIn K (.ref C) "__setattr__" = some (some (.builtin "object.__setattr__"))
  exC : PySem.W.subIn K (.ref C) (.type "BaseException") = some true
  tyC : PySem.W.typeIn K (.ref C) = some (.type "type")
  kC : PySem.W.keepIn K (.ref C) = true
section
variable {X : Cx} {pins : List (Addr × Obj)} {σ : L2.St} {H : Hp} {s : Shared} {a C : Addr} {B newId initId : String} {bm : List Value} {E : Value → Shared → Prop} {A : Around}
/-- B.__init__(self, ..) -/
theorem init_B {us : List Value} {Q : Value → Shared → Prop} (T : OexB X.K C B newId initId bm) (I : Inv X pins σ H s) (e : H a = some (exo a C none)) (few : us.length ≤ sizeLine) (q : ∀ s', Inv X pins σ H s' → Q .none s') :
    wpAny (model X.prog X.w) A (call (.builtin initId) (.ref a :: us)) Q E s := by
  obtain ⟨nm, qn, N, bs, sn, sub, ab, col, dd, k0, k1, k2, k3, k5, hC⟩ := T.cls
  obtain ⟨t1, ho⟩ := exo_at I.hok e
  obtain ⟨hp, g, d, t, os⟩ := s
  refine wpAny_call (PySem.HandSPX.init_base T.base (fun _ => rfl) (I.kIn _ _ hC) ho few fun h' t2 k hx => ?_)
  have J := I.write (t' := t) (x := a) (e := a) (o := exo a C none) (by rw [e]; exact True.intro) (.inl rfl) k ⟨_, hx⟩ (exo_ok hx)
  have same : upd H a (exo a C none) = H := by
    funext b
    by_cases hb : b = a
    · rw [hb, upd_same, e]
    · rw [upd_ne hb]
  rw [same] at J
  exact q _ J
end
section
open Builtin Builtin.ObjectAttr PySem.W PySem.Calls PySem.HandSPX
variable {prog : Program} {w : World} {A : Around} {R : Result → Shared → Prop} {hp : Heap} {g : Array GenState} {d : Drawn} {t : Nat} {os : OsState}
/-- the first field of an exception: its dict is made -/
theorem field_B {K : W.Frag} {name : Str} {tk : Tok} {v : Value} {x C : Addr} {fv : Array Value} {cd : ClassData} {bm : List Value}
    (X : K.In hp) (hx : hp.get? x = some { cls := .ref C, data := .fields fv }) (hcd : W.clsIn K C = some cd) (hm : cd.mro = .ref C :: bm) (pass : ∀ self : Value, refuseLoop self "__setattr__" bm = pure ()) (ob : bm.contains (.type "object") = true)
    (hh : cd.hasDict = true) (ha : W.findIn K (.ref C) name = some none)
    (hq : ∀ h' tk' dx, (∀ b o, b ≠ x → hp.get? b = some o → h'.get? b = some o) → hp.objs.size ≤ dx → dx ≠ x → h'.get? x = some { cls := .ref C, dict := some dx, data := .fields fv } →
      h'.Ns1 dx (fun y => if y = name then some v else none) → R (.ok (.ret .none)) ⟨h', g, d, tk', os⟩) :
    codeAny (model prog w) A (.call (.builtin "object.__setattr__") ⟨[.ref x, .str name tk, v], []⟩) R ⟨hp, g, d, t, os⟩ := by
  have I : W.InstAt hp x { cls := .ref C, data := .fields fv } C none := ⟨hx, rfl, rfl, trivial⟩
  have SF := F.store_object
  have hob : cd.mro.contains (.type "object") = true := by rw [hm, List.contains_cons, ob, Bool.or_true]
  have ne : cd.mro.isEmpty = false := by rw [hm]; rfl
  have far : x ≠ hp.objs.size := Nat.ne_of_lt (Heap.lt_size hx)
  have sub : W.Looks (model prog w) hp (isInstance (.ref x) (.type "object")) true := I.type.andThen (W.looks_mroIn X (by unfold W.mroIn; rw [hcd, Option.bind_some, if_neg (by rw [ne]; decide), hob]))
  have lm : W.Looks (model prog w) hp (mroOf (.ref C)) cd.mro := (W.looks_clsIn X hcd).andThen .now
  have lt : W.Looks (model prog w) hp (storeTaker? none) none := .now
  have lc : W.Looks (model prog w) hp (classData C) cd := W.looks_clsIn X hcd
  refine codeAny_call_builtin SF.slot.plain SF.entry (@W.check_slot (model prog w) _ _ ⟨hp, g, d, t, os⟩ "object.__setattr__" "object" "__setattr__" (.ref x) [.str name tk, v] [] _ SF.kind SF.split sub (SF.args (.ref x) (.str name tk) v) ?_)
  rw [W.osa_eq, refuse_eq]
  refine wpAny_bind (wpAny_bind (I.type.at (wpAny_bind (lm.at ?_))))
  rw [hm, refuseLoop_ref, pass]
  refine wpAny_pure (wpAny_bind (I.type.at (wpAny_bind ((W.looks_findIn X ha).at (wpAny_bind (lt.at ?_))))))
  show wpAny _ _ (storeInOwnDict (.ref x) (.ref C) (.str name tk) name v false) _ _ _
  obtain ⟨nm, bs, mro, ns, qn, hd, sn, sb, ab, col, del⟩ := cd
  dsimp only at hh
  subst hh
  unfold storeInOwnDict ownDictForStores
  repeat (first | with_reducible refine store_in_new ?_ ?_ | with_reducible refine wpAny_loadPart_at hx ?_ | with_reducible refine lc.at ?_ | wp_step)
  · exact ⟨_, #[], _, (Heap.get?_update_ne _ _ _ _ far.symm).trans (Heap.get?_push_at rfl rfl), rfl, fun e he => absurd he (by simp), fun _ => rfl⟩
  · intro h' tk' hn' hs
    have hx1 : (hp.push { cls := .type "dict", data := .dict #[] }).get? x = some { cls := .ref C, data := .fields fv } := Heap.get?_push_of_some _ hx
    refine hq h' tk' hp.objs.size (fun b o hb ho => ?_) (Nat.le_refl _) far.symm ?_ hn'
    · exact (hs.2 b (Nat.ne_of_lt (Heap.lt_size ho))).trans ((Heap.get?_update_ne _ _ _ _ hb).trans (Heap.get?_push_of_some _ ho))
    · exact (hs.2 x far).trans (Heap.get?_update_self _ hx1 rfl)
end
section
variable {X : Cx} {pins : List (Addr × Obj)} {σ : L2.St} {H : Hp} {s : Shared} {a C : Addr} {B newId initId : String} {bm : List Value} {E : Value → Shared → Prop} {A : Around} {f : Str} {y : V} {u : Value}
/-- self.f = y, the first field -/
theorem store_B {Q : Unit → Shared → Prop} (T : OexB X.K C B newId initId bm) (I : Inv X pins σ H s) (e : H a = some (exo a C none)) (no : PySem.W.findIn X.K (.ref C) f = some none) (ry : RelV y u)
    (q : ∀ dx s', H dx = none → dx ≠ a → Inv X pins σ (upd (upd H dx (exd dx [(f, y)])) a (exo a C (some dx))) s' → Q () s') : wpAny (model X.prog X.w) A (setAttr (.ref a) f u) Q E s := by
  obtain ⟨nm, qn, N, bs, sn, sub, ab, col, dd, k0, k1, k2, k3, k5, hC⟩ := T.cls
  have hcl : PySem.W.clsIn X.K C = some { name := nm, bases := bs, mro := .ref C :: bm, ns := N, qualname := qn, hasDict := true, slotNames := sn, subclasses := sub, abstract := ab, collection := col, hasDel := false } := by unfold PySem.W.clsIn; rw [hC] <;> rfl
  obtain ⟨t1, ho⟩ := exo_at I.hok e
  obtain ⟨hp, g, d, t, os⟩ := s
  refine PySem.W.set_plain I.kIn (ox := { cls := .ref C, dict := none, data := .fields #[.ref t1, .none, .none, .none, .bool false, .none] }) (od := none) ⟨ho, rfl, rfl, trivial⟩ T.sa ?_
  refine field_B I.kIn ho hcl rfl T.pass T.obj rfl no fun h' tk' dx keep new ne at_a at_d => ?_
  have none_ : H dx = none := I.hok.fresh new
  have old : ∀ {b : Addr} {o : Obj}, hp.get? b = some o → b ≠ dx := fun {b o} z => Nat.ne_of_lt (Nat.lt_of_lt_of_le (Heap.lt_size z) new)
  have not_a : ∀ {b : Addr}, H b = none → b ≠ a := fun {b} n z => by rw [z, e] at n; cases n
  have U : Un X.fs [] H (upd (upd H dx (exd dx [(f, y)])) a (exo a C (some dx))) hp h' := {
    keep := fun b o z n _ _ => keep b o (not_a n) z
    slot := fun b o z n _ _ => ⟨o.slots, keep b o (not_a n) z⟩
    free := fun b o z n _ => by rw [upd_ne (not_a n), upd_ne (old z)]; exact n
    there := fun b o z _ => by
      by_cases hb : b = a
      · exact ⟨_, by rw [hb]; exact at_a⟩
      · exact ⟨o, keep b o hb z⟩
    tups := fun b xs z => by rw [upd_ne (at_ne e z exo_tup), upd_ne (ne_of_none z none_)]; exact z
    frzs := fun b o v z => by rw [upd_ne (at_ne e z exo_frz), upd_ne (ne_of_none z none_)]; exact z
    tbls := fun b ps z => ⟨#[], by rw [upd_ne (at_ne e z exo_tbl), upd_ne (ne_of_none z none_), z]; simp⟩ }
  refine q dx _ none_ ne (I.un (t' := tk') U fun b o z => ?_)
  by_cases hb : b = a
  · subst hb
    rw [upd_same] at z
    cases z
    exact exo_ok at_a
  · rw [upd_ne hb] at z
    by_cases hd : b = dx
    · subst hd
      rw [upd_same] at z
      cases z
      exact exd_ok at_d (relO_put (fs := []) ry fun g => True.intro)
    · rw [upd_ne hd] at z
      refine (I.hok b o z).stay (fun c v hc z2 => keep c v ?_ z2) (fun c hc => by rw [upd_ne (at_ne e hc exo_own), upd_ne (ne_of_none hc none_)]; exact hc) (fun c xs hc => by rw [upd_ne (at_ne e hc exo_tup), upd_ne (ne_of_none hc none_)]; exact hc)
      rcases hc with hc | hc
      · rw [hc]; exact hb
      · exact at_ne e hc exo_own
end
/-- B.__init__(self, ..) -/
def tInitB (K : PySem.W.Frag) (B newId initId : String) (bm : List Value) (ta : TA) : TE := fun σ H Q => ta σ H fun vs H1 => ∃ (a C : Addr) (ws : List V), vs = .ref a :: ws ∧ ws.length ≤ 1000 ∧ OexB K C B newId initId bm ∧ H1 a = some (exo a C none) ∧ Q .non H1
/-- self.f = e -/
def tStoreB (K : PySem.W.Frag) (B newId initId : String) (bm : List Value) (f : Str) (to te : TE) : TS := fun D σ H => te σ H fun y H1 => to σ H1 fun x H2 => ∃ a C : Addr, x = .ref a ∧ OexB K C B newId initId bm ∧ PySem.W.findIn K (.ref C) f = some none ∧
  H2 a = some (exo a C none) ∧ ∀ dx, H2 dx = none → dx ≠ a → D.nx σ (upd (upd H2 dx (exd dx [(f, y)])) a (exo a C (some dx)))
section
variable {X : Cx} {o e : Expr} {es : List Expr} {to te : TE} {ta : TA} {f : Str} {p p' p1 p2 pos : Pos} {B newId initId : String} {bm : List Value}
theorem ps_storeB (ho : PE X o to) (he : PE X e te) (hs : swapsWith e (some (.Attribute o f p')) pos.line X.env = pure false := by rfl) : PS X (.Assign [.Attribute o f p'] e pos) (tStoreB X.K B newId initId bm f to te) := by
  refine ⟨fun pins s σ H D I h => ?_⟩
  refine plainObj_wpAny_Assign_Attribute (thn (he.run pins s σ H _ I h) fun v s1 ⟨y, H1, I1, r1, q1⟩ => thn (ho.run pins s1 σ H1 _ I1 q1) fun u s2 ⟨x, H2, I2, r2, a, C, ex, T, no, ea, q⟩ => ?_) hs
  subst ex
  obtain rfl : u = Value.ref a := r2
  exact store_B T I2 ea no r1 fun dx s' n ne J => ⟨σ, _, J, q dx n ne⟩
theorem pe_initR {pl : Sem Bool} (hg : Gl X "RuntimeError") (hm : X.mg "RuntimeError" = none) (vV : PySem.W.findCls X.K (.type "RuntimeError") (.type "type") "__init__" = some (.val (.builtin "RuntimeError.__init__"))) (ha : PA X (e :: es) ta)
    (hc : eval (.Call (.Attribute (.Name "RuntimeError" p1) "__init__" p2) (e :: es) [] pos) X.env = (do
      let ov ← eval (.Name "RuntimeError" p1) X.env
      standAt p2.atName
      let (f, first) ← holding [ov] (getMethod ov "__init__" pl)
      callWith pos f first (backTo pos (starEach (e :: es) X.env)) (backToKw pos (keywordEach [] X.env))) := by rfl)
    (he : starEach (e :: es) X.env = (false, eval e X.env) :: starEach es X.env := by rfl) (hpl : (backTo pos (starEach es X.env)).any (·.1) = false := by rfl) :
    PE X (.Call (.Attribute (.Name "RuntimeError" p1) "__init__" p2) (e :: es) [] pos) (tInitB X.K "RuntimeError" newId "RuntimeError.__init__" bm ta) := by
  refine ⟨fun pins s σ H Q I h => ?_⟩
  refine PySem.W.methodCall_KW (ld_blt I hg hm PyProof.Rows.Boot.«RuntimeError» ?_ (by decide) (by decide)) hc
  obtain ⟨m, fr⟩ := I.fr
  refine PySem.W.method_type fr I.ok.mod.kin (show typeOf (.type "RuntimeError") = pure (.type "type") by kernel_rfl) (by decide +kernel) vV (by decide +kernel) ?_
  show wpAny _ _ (callWith pos (Value.builtin "RuntimeError.__init__") [] (backTo pos (starEach (e :: es) X.env)) []) _ _ _
  refine PyProof.Rows.callWith_method1 (thn (ha.run pos pins _ σ H _ (I.tok _) h) fun us s1 ⟨vs, H1, I1, r1, a, C, ws, ev, few, T, ea, q⟩ => ?_) he hpl
  subst ev
  cases r1 with
  | @cons _ u0 _ ur ra rw' =>
    obtain rfl : u0 = Value.ref a := ra
    exact init_B T I1 ea (by rw [← Paired.length rw', sizeLine_eq]; omega) fun s' J => ⟨.non, H1, J, rfl, q⟩
end
end Lp

namespace Lp
open PySem PySem.Spec PyProof.Rows L2
abbrev DSpX := List SV → Nat → (R → Nat → Prop) → (Xn → Nat → Prop) → Prop
def MonX (F : DSpX) : Prop := ∀ args c (A B : R → Nat → Prop) (C D : Xn → Nat → Prop), (∀ r c', A r c' → B r c') → (∀ x c', C x c' → D x c') → F args c A C → F args c B D
/-- an exception in flight -/
def XR (cl : Str → Option Addr) (L : Hp) (cls : Value) (d : Option Addr) (x : Xn) : Prop := ∃ C, cl x.cls = some C ∧ cls = .ref C ∧ XF L d x.fs
def spX (cl : Str → Option Addr) (n : Nat) (F : DSpX) : Sp := fun vs H Q E => ∃ (b : Option Addr) (L : Hp) (c : Nat) (args : List SV), vs.length = n ∧ CallZ b L H c ∧ ArgsR b L vs args ∧
  F args c (fun r c' => ∀ v L' H', CallZ b L' H' c' → Ext b L H L' H' → VR0 H L' H' v r → Q v H') (fun x c' => ∀ cls d L' H', CallZ b L' H' c' → Ext b L H L' H' → XR cl L' cls d x → E cls d H')
def dArgsX (F : DSpX) (rs : List R) (ε : Env) (Q : R → Env → Prop) (Ex : Xn → Env → Prop) : Prop := match argsOf rs with
  | some args => hasBr rs = false ∧ F args ε.c (fun r c => Q r ⟨ε.s, c⟩) (fun x c => Ex x ⟨ε.s, c⟩)
  | none => False
def dCallX (F : DSpX) (Ex : Xn → Env → Prop) (f : DTA) (ε : Env) (Q : R → Env → Prop) : Prop := f ε fun rs ε1 => dArgsX F rs ε1 Q Ex
section
variable {w : World} {cl : Str → Option Addr} {P0 : Hp} {W : WX} {Ex : Xn → Env → Prop}
end
section
variable {P : Program} {w : World} {K : PySem.W.Frag} {mg : Str → Option Value} {base : Heap} {cl : Str → Option Addr}
end
def okv (H : Hp) (v : V) : Prop := (∃ i, v = .int i) ∨ ∃ p xs, v = .ref p ∧ Sol H p xs
/-- an own __init__ that keeps its one argument in a field -/
def spI (K : PySem.W.Frag) (C : Addr) (fld : Str) : Sp := fun vs H Q _ => ∃ (a : Addr) (v : V), vs = [.ref a, v] ∧ H a = some (exo a C none) ∧ okv H v ∧
  ∀ dx, H dx = none → dx ≠ a → Q .non (upd (upd H dx (exd dx [(fld, v)])) a (exo a C (some dx)))
section
variable {w : World} {cl : Str → Option Addr} {P0 : Hp} {W : WX} {Ex : Xn → Env → Prop} {K : PySem.W.Frag} {C : Addr} {nm fld : Str} {te : TE} {f : DTE}
end
end Lp

namespace PySem.W
open PySem PySem.Spec PySem.Calls PyProof.Rows
section
variable {M : Model} {K : Frag}
end
end PySem.W
namespace Lp
open PySem PySem.Spec PyProof.Rows L2
section
variable {X : Cx}
end
section
variable {X : Cx} {pins : List (Addr × Obj)} {σ : L2.St} {H : Hp} {s : Shared}
theorem exc_ok {P : Program} {w : World} {H : Hp} {h : Heap} {a : Addr} {c : Value} {d : Option Addr} {oe : Obj} {vs : Array Value} (he : h.get? a = some oe) (hc : oe.cls = c) (hd : oe.dict = d) (hv : oe.data = .fields vs) : ObjOk P w H h a (exc a c d) :=
  ⟨⟨oe, vs, he, hc, hd, hv⟩, ⟨_, he⟩, fun h1 h2 z k => by
    obtain ⟨o, v, q, r⟩ := z
    exact ⟨o, v, k _ q, r⟩⟩
theorem exc_at {P : Program} {w : World} {H : Hp} {h : Heap} {a : Addr} {c : Value} {d : Option Addr} (hok : HOk P w H h) (he : H a = some (exc a c d)) : ∃ oe vs, h.get? a = some oe ∧ oe.cls = c ∧ oe.dict = d ∧ oe.data = .fields vs := by
  have x : ObjOk P w H h a (.ext fun h => ∃ oe vs, h.get? a = some oe ∧ oe.cls = c ∧ oe.dict = d ∧ oe.data = .fields vs) := hok a _ he
  exact x.1
end
section
variable {X : Cx} {n : Str} {cs : List Value} {te : Expr} {i : Nat} {body suite : List Stmt} {b₀ : Stmt} {pos pos' : Pos} {tb : WX → TS} {ts : Addr → Value → Option Addr → TS}
end
end Lp

namespace Lp
open PySem PySem.Spec PyProof.Rows L2
/-- None, or a caught exception, and its class -/
def TyE (K : PySem.W.Frag) (H : Hp) (v : V) (t : Value) : Prop := (v = .non ∧ t = .type "NoneType") ∨ ∃ (a C : Addr) (d : Option Addr), v = .ref a ∧ t = .ref C ∧ H a = some (exc a (.ref C) d) ∧ (d = none ∨ ∃ dd fs, d = some dd ∧ H dd = some (.xd fs)) ∧ ExcC K C
def rIsX (K : PySem.W.Frag) : List V → Hp → VK → Prop := fun xs H Q => ∃ (x c : V) (t u : Value) (b : Bool), xs = [x, c] ∧ ClsV c u ∧ TyE K H x t ∧ PySem.W.kitOne K t u = some b ∧ Q (.bl b) H
def rIsXT (K : PySem.W.Frag) : List V → Hp → VK → Prop := fun xs H Q => ∃ (x : V) (tp : Addr) (cs : List V) (t : Value) (us : List Value) (b : Bool), xs = [x, .ref tp] ∧ H tp = some (.tup cs) ∧ Paired ClsV cs us ∧ TyE K H x t ∧ PySem.W.kitAny K t us = some b ∧ Q (.bl b) H
section
variable {X : Cx} {pins : List (Addr × Obj)} {σ : L2.St} {H : Hp} {s : Shared}
theorem inst_of {a C : Addr} {d : Option Addr} (I : Inv X pins σ H s) (ea : H a = some (exc a (.ref C) d)) (hd : d = none ∨ ∃ dd fs, d = some dd ∧ H dd = some (.xd fs)) : ∃ oe od, PySem.W.InstAt s.heap a oe C od := by
  obtain ⟨oe, vs, h1, h2, h3, h4⟩ := exc_at I.hok ea
  rcases hd with rfl | ⟨dd, fs, rfl, ed⟩
  · exact ⟨oe, none, h1, h2, by unfold PySem.W.notCls; rw [h4] <;> rfl, by rw [h3]; trivial⟩
  · have hx : ObjOk X.prog X.w H s.heap dd (.xd fs) := I.hok dd _ ed
    obtain ⟨mA, hns, hr⟩ := hx
    obtain ⟨od, ho, hl⟩ := lookIn_ns hns
    exact ⟨oe, some od, h1, h2, by unfold PySem.W.notCls; rw [h4] <;> rfl, by rw [h3]; exact ho⟩
theorem kit_ofE {v : V} {t u : Value} (I : Inv X pins σ H s) (r : RelV v u) (ty : TyE X.K H v t) : ∃ P, PySem.W.KitX X.K u t P ∧ P s.heap ∧ u ≠ .builtin "__main__.__loader__#opaque" := by
  rcases ty with ⟨rfl, rfl⟩ | ⟨a, C, d, rfl, rfl, ea, hd, T⟩
  · cases (show u = Value.none from r)
    exact ⟨_, PySem.W.kitx_none, True.intro, fun z => nomatch z⟩
  · cases (show u = Value.ref a from r)
    obtain ⟨oe, od, J⟩ := inst_of I ea hd
    exact ⟨_, PySem.W.kitx_exc (by obtain ⟨cd, hc, _⟩ := PySem.W.any_some T.hd; rw [hc]; rfl) T.hg T.hk T.hs T.ha T.hn T.ht T.hm, J, fun z => nomatch z⟩
theorem call_isX : CallR X (.builtin "isinstance") (rIsX X.K) := by
  intro pins s σ H xs us Q I r h
  obtain ⟨x, c, t, u, b, rfl, k, ty, e, q⟩ := h
  obtain ⟨u1, u2, rfl, r1, r2⟩ := vals2 r
  have e2 := k.eq r2
  subst e2
  obtain ⟨P, Z, p, hx⟩ := kit_ofE I r1 ty
  exact PySem.W.kia_one Z I.kIn p e hx fun tk => ⟨.bl b, H, I.tok tk, rfl, q⟩
theorem call_isXT : CallR X (.builtin "isinstance") (rIsXT X.K) := by
  intro pins s σ H xs us Q I r h
  obtain ⟨x, tp, cs, t, ws, b, rfl, hT, k, ty, e, q⟩ := h
  obtain ⟨u1, u2, rfl, r1, r2⟩ := vals2 r
  cases (show u2 = Value.ref tp from r2)
  obtain ⟨P, Z, p, hx⟩ := kit_ofE I r1 ty
  obtain ⟨_, its, rv, o, h1, h2, n, h3⟩ := (show ObjOk X.prog X.w H s.heap tp (.tup cs) from I.hok tp _ hT)
  have e3 := ClsV.all k rv
  subst e3
  obtain ⟨oc, od, dt, sl⟩ := o
  simp only at h2 h3
  subst h2 h3
  exact PySem.W.kia_tup Z I.kIn p h1 e hx fun tk => ⟨.bl b, H, I.tok tk, rfl, q⟩
theorem isXK {K : PySem.W.Frag} (e : X.K = K) : CallR X (.builtin "isinstance") (rIsX K) := e ▸ call_isX
theorem isXTK {K : PySem.W.Frag} (e : X.K = K) : CallR X (.builtin "isinstance") (rIsXT K) := e ▸ call_isXT
/-- e.f -/
def tXg (K : PySem.W.Frag) (f : Str) (te : TE) : TE := fun σ H Q => te σ H fun x H1 => ∃ (a C dd : Addr) (fs : List (Str × V)) (v : V), x = .ref a ∧ H1 a = some (exc a (.ref C) (some dd)) ∧ XfC K C ∧ PySem.W.findIn K (.ref C) f = some none ∧ H1 dd = some (.xd fs) ∧ fs.lookup f = some v ∧ Q v H1
theorem pe_xg {e : Expr} {te : TE} {pos : Pos} {n : Str} (he : PE X e te) (hb : attributeBase e n X.env (eval e X.env) = eval e X.env := by rfl) : PE X (.Attribute e n pos) (tXg X.K n te) := by
  refine ⟨fun pins s σ H Q I h => ?_⟩
  refine attr_of hb (thn (he.run pins s σ H _ I h) fun u s1 hh => ?_)
  obtain ⟨x, H1, I1, rx, a, C, dd, fs, v, ex, ea, T, hno, ed, l, q⟩ := hh
  subst ex
  obtain rfl : u = Value.ref a := rx
  obtain ⟨oe, vs, h1, h2, h3, h4⟩ := exc_at I1.hok ea
  have hx : ObjOk X.prog X.w H1 s1.heap dd (.xd fs) := I1.hok dd _ ed
  obtain ⟨mA, hns, hr⟩ := hx
  obtain ⟨od, ho, hl⟩ := lookIn_ns hns
  obtain ⟨u, hu, ru⟩ := RelO.some_of (v := v) (o := mA n) (by rw [← l]; exact hr n)
  have J : PySem.W.InstAt s1.heap a oe C (some od) := ⟨h1, h2, by unfold PySem.W.notCls; rw [h4] <;> rfl, by rw [h3]; exact ho⟩
  exact HandSPX.exc_get I1.kIn J T.ga T.gg T.exC (PySem.W.findObj_own T.hdC hno rfl (by rw [hl, hu])) (handed_of ru) ⟨v, H1, I1.tok _, ru, q⟩
theorem xgK {K : PySem.W.Frag} {e : Expr} {te : TE} {n : Str} (h : X.K = K) (x : PE X e (tXg X.K n te)) : PE X e (tXg K n te) := h ▸ x
end
def baseX : Str → Str
  | "NoPerson" => "LookupError" | "NoNumber" => "LookupError" | "NoDeed" => "LookupError"
  | "OtherSize" => "ValueError" | "NoRoot" => "ValueError" | "MissingRoot" => "ValueError" | "NotKin" => "ValueError" | "NotPast" => "ValueError" | "BadDeed" => "ValueError" | "BadText" => "ValueError" | "BadLine" => "ValueError"
  | "Unreachable" => "RuntimeError" | "NoCommon" => "RuntimeError" | "Denied" => "RuntimeError" | "IsRoot" => "RuntimeError"
  | "TooMany" => "OverflowError"
  | _ => ""
def subX (c n : Str) : Bool := c == n || baseX c == n
theorem FVs.look {H : Hp} {n : Str} {d : PyData} : ∀ {vs : List (Str × V)} {ds : List (Str × PyData)}, FVs H vs ds → ds.lookup n = some d → ∃ v, vs.lookup n = some v ∧ DV H v d
  | _, _, .nil, e => by cases e
  | _, _, .cons (f := f) a r, e => by
    unfold List.lookup at e ⊢
    split at e
    · rename_i h
      cases e
      exact ⟨_, rfl, a⟩
    · exact r.look e
section
variable {w : Wx} {K : PySem.W.Frag} {te : TE} {f : DTE}
theorem XF.dict {H : Hp} {d : Option Addr} {fs : List (Str × PyData)} (x : XF H d fs) : d = none ∨ ∃ dd vs, d = some dd ∧ H dd = some (.xd vs) := by
  cases d with
  | none => exact .inl rfl
  | some dd =>
    obtain ⟨vs, h, _⟩ := x
    exact .inr ⟨dd, vs, rfl, h⟩
theorem TyE.of {H L : Hp} {v : V} {x : Xn} {C : Addr} (h : XV w L v x) (s : Same L H) (hC : w.cl x.cls = some C) (T : ExcC K C) : TyE K H v (.ref C) := by
  obtain ⟨a, C', d, h1, h2, h3, h4⟩ := h
  rw [hC] at h2
  cases h2
  exact .inr ⟨a, C, d, h1, rfl, s _ _ h3, (h4.to s).dict, T⟩
end
end Lp

namespace Lp
open PySem PySem.Spec PyProof.Rows L2
section
variable {X : Cx} {o e : Expr} {es : List Expr} {to te : TE} {ta : TA} {f : Str} {p p' p1 p2 pos : Pos} {B newId initId : String} {bm : List Value}
end
abbrev bm_RuntimeError : List Value := [.type "RuntimeError", .type "Exception", .type "BaseException", .type "object"]
abbrev bm_LookupError : List Value := [.type "LookupError", .type "Exception", .type "BaseException", .type "object"]
abbrev bm_ValueError : List Value := [.type "ValueError", .type "Exception", .type "BaseException", .type "object"]
abbrev bm_OverflowError : List Value := [.type "OverflowError", .type "ArithmeticError", .type "Exception", .type "BaseException", .type "object"]
/-- what the written part says of a class of exceptions -/
structure ClF (K : PySem.W.Frag) (C : Addr) (bm : List Value) (newId : String) : Prop where
  cls : ∃ nm q N bs sn sub ab col dd k0 k1 k2 k3 k5, K.lookup C = some (excClassObj nm q C N bs bm true sn sub ab col dd k0 k1 k2 k3 k5 newId)
  sa : PySem.W.findIn K (.ref C) "__setattr__" = some (some (.builtin "object.__setattr__"))
  tyC : PySem.W.typeIn K (.ref C) = some (.type "type")
  kC : PySem.W.keepIn K (.ref C) = true
  hg : PySem.W.findIn K (.ref C) "__getattribute__" = some (some (.builtin "BaseException.__getattribute__"))
  hk : PySem.W.findIn K (.ref C) "__getattr__" = some none
  hs : PySem.W.subIn K (.ref C) (.type "BaseException") = some true
  hd : PySem.W.hasDictIn K C = true
  ha : PySem.W.findIn K (.ref C) "__class__" = some (some (.builtin "object.__class__"))
  hn : PySem.W.specialIn K (.builtin "object.__class__") "__get__" = some (some (.builtin "getset_descriptor.__get__"))
  ht : PySem.W.takesIn K (.builtin "object.__class__") = some true
  hm : PySem.W.mroIn K C (.type "object") = some true
theorem clf_mk {K : PySem.W.Frag} {C : Addr} {bm : List Value} {newId : String} {nm q : Str} {N : Addr} {bs : List Value} {sn : _} {sub : _} {ab : _} {col : _} {dd : _} {k0 k1 k2 k3 k5 : _} (cls : K.lookup C = some (excClassObj nm q C N bs bm true sn sub ab col dd k0 k1 k2 k3 k5 newId))
    (sa : PySem.W.findIn K (.ref C) "__setattr__" = some (some (.builtin "object.__setattr__"))) (tyC : PySem.W.typeIn K (.ref C) = some (.type "type")) (kC : PySem.W.keepIn K (.ref C) = true)
    (hg : PySem.W.findIn K (.ref C) "__getattribute__" = some (some (.builtin "BaseException.__getattribute__"))) (hk : PySem.W.findIn K (.ref C) "__getattr__" = some none) (hs : PySem.W.subIn K (.ref C) (.type "BaseException") = some true)
    (hd : PySem.W.hasDictIn K C = true) (ha : PySem.W.findIn K (.ref C) "__class__" = some (some (.builtin "object.__class__"))) (hn : PySem.W.specialIn K (.builtin "object.__class__") "__get__" = some (some (.builtin "getset_descriptor.__get__")))
    (ht : PySem.W.takesIn K (.builtin "object.__class__") = some true) (hm : PySem.W.mroIn K C (.type "object") = some true) : ClF K C bm newId := ⟨⟨nm, q, N, bs, sn, sub, ab, col, dd, k0, k1, k2, k3, k5, cls⟩, sa, tyC, kC, hg, hk, hs, hd, ha, hn, ht, hm⟩
theorem ClF.xc {K : PySem.W.Frag} {C : Addr} {bm : List Value} {newId : String} (c : ClF K C bm newId) : ExcC K C := ⟨c.hg, c.hk, c.hs, c.hd, c.ha, c.hn, c.ht, c.hm⟩
theorem ClF.xf {K : PySem.W.Frag} {C : Addr} {bm : List Value} {newId : String} (c : ClF K C bm newId) : XfC K C := ⟨c.hg, c.hk, c.hs, c.hd⟩
theorem ClF.ox_RuntimeError {K : PySem.W.Frag} {C : Addr} (c : ClF K C bm_RuntimeError "RuntimeError.__new__") : OexB K C "RuntimeError" "RuntimeError.__new__" "RuntimeError.__init__" bm_RuntimeError := ⟨PySem.F.excBase_RuntimeError, fun self => PySem.F.store_RuntimeError.passes self, by decide, c.cls, c.sa, c.hs, c.tyC, c.kC⟩
theorem ClF.ox_LookupError {K : PySem.W.Frag} {C : Addr} (c : ClF K C bm_LookupError "LookupError.__new__") : OexB K C "LookupError" "LookupError.__new__" "LookupError.__init__" bm_LookupError := ⟨PySem.F.excBase_LookupError, fun self => PySem.F.store_LookupError.passes self, by decide, c.cls, c.sa, c.hs, c.tyC, c.kC⟩
theorem ClF.ox_ValueError {K : PySem.W.Frag} {C : Addr} (c : ClF K C bm_ValueError "ValueError.__new__") : OexB K C "ValueError" "ValueError.__new__" "ValueError.__init__" bm_ValueError := ⟨PySem.F.excBase_ValueError, fun self => PySem.F.store_ValueError.passes self, by decide, c.cls, c.sa, c.hs, c.tyC, c.kC⟩
theorem ClF.ox_OverflowError {K : PySem.W.Frag} {C : Addr} (c : ClF K C bm_OverflowError "OverflowError.__new__") : OexB K C "OverflowError" "OverflowError.__new__" "OverflowError.__init__" bm_OverflowError := ⟨PySem.F.excBase_OverflowError, fun self => PySem.F.store_OverflowError.passes self, by decide, c.cls, c.sa, c.hs, c.tyC, c.kC⟩
/-- the def of a method -/
theorem funI_mk {K : PySem.W.Frag} {x qual : Str} {st : Stmt} {f : Addr} {oc : Value} {od an : Option Addr} {sl : Array (Option Value)} {kV dc pm cd ct : Value}
    (l : K.lookup f = some ⟨oc, od, .func (PySem.W.fnOf x qual (defArgs st) (defBody st) (defScope st) .none kV dc pm an cd ct), sl⟩) (c : PySem.W.codeIn K cd qual = true) (k : PySem.W.keepIn K (.ref f) = true) : ∃ fd, Fun K x qual st f fd := ⟨_, ⟨_, _, _, _, _, _, _, _, _, rfl, l, c⟩, k⟩
/-- a class that can be raised: its __init__ keeps its promise -/
structure Ini (P : Program) (w : World) (K : PySem.W.Frag) (mg : Str → Option Value) (base : Heap) (nm fld : Str) (C : Addr) (k : Nat) : Prop where
  ex : ∃ (B newId initId : String) (bm : List Value) (fI : Addr) (fd : FuncData), OexB K C B newId initId bm ∧ PySem.W.findIn K (.ref C) "__init__" = some (some (.ref fI)) ∧ PySem.W.typeIn K (.ref fI) = some (.type "function") ∧ FnOk P w K mg base CX0 k fI fd ["self", fld] (spI K C fld) ∧ Binds K fd ["self", fld] []
/-- what is said of all classes of a table -/
def AllL (p : Str → Addr → Prop) : List (Str × Addr) → Prop
  | [] => True
  | q :: r => p q.1 q.2 ∧ AllL p r
abbrev clT (l : List (Str × Addr)) : Str → Option Addr := fun x => List.lookup x l
theorem allL {p : Str → Addr → Prop} : ∀ {l : List (Str × Addr)}, AllL p l → ∀ n C, clT l n = some C → p n C
  | [], _, _, _, e => by cases e
  | (m, D) :: r, h, n, C, e => by
    unfold clT List.lookup at e
    split at e
    · rename_i q
      cases e
      rw [beq_iff_eq] at q
      subst q
      exact h.1
    · exact allL h.2 n C e
section
variable {P : Program} {w : World} {K : PySem.W.Frag} {mg : Str → Option Value} {base : Heap} {cl : Str → Option Addr}
end
def tCls : List V → TA
  | [] => tNil
  | c :: r => tCons (tC c) (tCls r)
theorem tCls_run : ∀ (cs : List V) (σ : L2.St) (H : Hp) (Q : List V → Hp → Prop), Q cs H → tCls cs σ H Q
  | [], _, _, _, q => q
  | c :: r, σ, H, Q, q => tCls_run r σ H _ q
section
variable {w : Wx} {K : PySem.W.Frag} {te : TE} {f : DTE}
end
end Lp

namespace Lp
open PySem PySem.Spec PyProof.Rows L2
def spI0 (K : PySem.W.Frag) (C : Addr) : Sp := fun vs H Q _ => ∃ a : Addr, vs = [.ref a] ∧ H a = some (exo a C none) ∧ Q .non H
section
variable {X : Cx}
variable {x : Str} {C fI : Addr} {k : Nat} {fd : FuncData} {sp : Sp} {p pos : Pos} {B newId initId : String} {bm : List Value} {CX : CXT}
end
/-- such a class -/
structure Ini0 (P : Program) (w : World) (K : PySem.W.Frag) (mg : Str → Option Value) (base : Heap) (nm : Str) (C : Addr) (k : Nat) : Prop where
  ex : ∃ (B newId initId : String) (bm : List Value) (fI : Addr) (fd : FuncData), OexB K C B newId initId bm ∧ PySem.W.findIn K (.ref C) "__init__" = some (some (.ref fI)) ∧ PySem.W.typeIn K (.ref fI) = some (.type "function") ∧ FnOk P w K mg base CX0 k fI fd ["self"] (spI0 K C) ∧ Binds K fd ["self"] []
end Lp

namespace Lp
open PySem PySem.Spec PyProof.Rows L2
class Fns where
  v : Str → V
abbrev FN [Fns] (n : Str) : V := Fns.v n
def dCallV (i : Nat) (v : V) (F : DSp) (f : DTA) (ε : Env) (Q : R → Env → Prop) : Prop := match ε.s[i]? with
  | some (.raw u) => u = v ∧ dCall F f ε Q
  | _ => False
def dCallVX (i : Nat) (v : V) (F : DSpX) (Ex : Xn → Env → Prop) (f : DTA) (ε : Env) (Q : R → Env → Prop) : Prop := match ε.s[i]? with
  | some (.raw u) => u = v ∧ dCallX F Ex f ε Q
  | _ => False
section
variable {w : Wx} {t : TA} {f : DTA} {a : Addr} {v : V} {i n : Nat}
end
section
variable {w : World} {cl : Str → Option Addr} {P0 : Hp} {W : WX} {Ex : Xn → Env → Prop} {a : Addr} {v : V} {i n : Nat}
end
section
variable {X : Cx} {CX : CXT} {k i : Nat} {f : Addr} {fd : FuncData} {ps : List Str} {sp : Sp} {x : Str} {p pos : Pos} {e : Expr} {es : List Expr} {t : TA}
end
end Lp

namespace Lp
open PySem PySem.Spec PyProof.Rows L2
section
variable {X : Cx} {CX : CXT} {k : Nat} {f : Addr} {fd : FuncData} {ps : List Str} {sp : Sp} {x : Str} {p p1 p2 pos : Pos} {e b : Expr} {es as : List Expr} {tb : TE} {t : TA} {fs : List (Addr × Sp)} {K : PySem.W.Frag}
end
def AllX (cl : Str → Option Addr) (n : Nat) : List (Addr × Sp) → List DSpX → Prop
  | [], [] => True
  | q :: fs, F :: Fs => q.2 = spX cl n F ∧ MonX F ∧ AllX cl n fs Fs
  | _, _ => False
theorem AllX.len {cl : Str → Option Addr} {n : Nat} : ∀ {fs : List (Addr × Sp)} {Fs : List DSpX}, AllX cl n fs Fs → fs.length = Fs.length
  | [], [], _ => rfl
  | _ :: _, _ :: _, h => by rw [List.length_cons, List.length_cons, h.2.2.len]
  | [], _ :: _, h => False.elim h
  | _ :: _, [], h => False.elim h
theorem AllX.get {cl : Str → Option Addr} {n : Nat} : ∀ {fs : List (Addr × Sp)} {Fs : List DSpX}, AllX cl n fs Fs → ∀ {i : Nat} {F : DSpX}, Fs[i]? = some F → ∃ q, fs[i]? = some q ∧ q.2 = spX cl n F ∧ MonX F
  | q :: _, _ :: _, h, 0, _, e => by cases e; exact ⟨q, rfl, h.1, h.2.1⟩
  | _ :: _, _ :: _, h, i + 1, _, e => by
    have := h.2.2.get (i := i) (by simpa using e)
    simpa using this
  | [], [], _, i, _, e => by simp at e
  | [], _ :: _, h, _, _, _ => False.elim h
  | _ :: _, [], h, _, _, _ => False.elim h
theorem AllX.mem {cl : Str → Option Addr} {n : Nat} : ∀ {fs : List (Addr × Sp)} {Fs : List DSpX}, AllX cl n fs Fs → ∀ F ∈ Fs, MonX F
  | _ :: _, _ :: _, h, F, m => by
    rcases List.mem_cons.mp m with rfl | m
    · exact h.2.1
    · exact h.2.2.mem F m
  | [], [], _, F, m => by simp at m
  | [], _ :: _, h, _, _ => False.elim h
  | _ :: _, [], h, _, _ => False.elim h
section
variable {w : World} {cl : Str → Option Addr} {P0 : Hp} {W : WX} {Ex : Xn → Env → Prop} {n : Nat} {K : PySem.W.Frag}
end
end Lp

namespace Lp
open PySem PySem.Spec PyProof.Rows L2
/-- the fields of a circle: la its states, le its log -/
def cf (la le : Addr) : List (Str × V) := putF "entries" (.ref le) (putF "along" (.ref la) [])
/-- at v: a circle in the state d to which nothing was done -/
def CirS (C : Addr) (d : PyData) (L : Hp) (v : V) : Prop := ∃ a dx la le x, v = .ref a ∧ L a = some (.ins C dx (cf la le)) ∧ L la = some (.lst [x]) ∧ DV L x d ∧ L le = some (.lst [])
theorem CirS.to {C : Addr} {d : PyData} {L L' : Hp} {v : V} (s : Same L L') (h : CirS C d L v) : CirS C d L' v := by
  obtain ⟨a, dx, la, le, x, e, h1, h2, h3, h4⟩ := h
  exact ⟨a, dx, la, le, x, e, s _ _ h1, s _ _ h2, h3.to s, s _ _ h4⟩
def cirG [Fns] (d : PyData) : Gn := ⟨fun L v => ∃ C, FN "Circle" = .ref C ∧ CirS C d L v, fun s ⟨C, h1, h2⟩ => ⟨C, h1, h2.to s⟩⟩
def dMkCir [Fns] (f : DTE) (ε : Env) (Q : R → Env → Prop) : Prop := f ε fun r ε1 => match r.pub with
  | .sh (.tuple ds) => Q (.gen (cirG (.tuple ds))) ε1
  | _ => False
section
variable [Fns] {w : Wx} {C : Addr} {te : TE} {f : DTE} {E : XK}
end
section
variable {X : Cx} {CX : CXT} {k : Nat} {f g C : Addr} {fd : FuncData} {ps : List Str} {sp : Sp} {E : L2.St → XK} {x m : Str} {p pos apos : Pos} {e o : Expr} {es : List Expr} {ta : TE} {t : TA}
end
def isCir [Fns] : R → Prop
  | .gen g => ∃ d, g = cirG d
  | _ => False
def dMethX [Fns] (F : DSpX) (Ex : Xn → Env → Prop) (f : DTE) (g : DTA) (ε : Env) (Q : R → Env → Prop) : Prop := f ε fun r ε1 => isCir r ∧ g ε1 fun rs ε2 => dArgsX F (r :: rs) ε2 Q Ex
def dMeth [Fns] (F : DSp) (f : DTE) (ε : Env) (Q : R → Env → Prop) : Prop := f ε fun r ε1 => isCir r ∧ dArgs F [r] ε1 Q
section
variable [Fns] {w : World} {cl : Str → Option Addr} {P0 : Hp} {W : WX} {Ex : Xn → Env → Prop} {C : Addr} {m : Str} {te : TE} {f : DTE} {t : TA} {g : DTA} {n : Nat}
end
section
variable [Fns] {w : Wx} {C : Addr} {m : Str} {te : TE} {f : DTE} {E : XK}
end
end Lp
namespace Lp
open PySem PySem.Spec PyProof.Rows L2
end Lp
namespace Lp
open PySem PySem.Spec PyProof.Rows L2
end Lp
namespace Lp
open PySem PySem.Spec PyProof.Rows L2
def fnG (vs : List V) : Gn := ⟨fun L v => ∃ a, v = .ref a ∧ L a = some (.lst vs), fun s ⟨a, h1, h2⟩ => ⟨a, h1, s _ _ h2⟩⟩
def dFnL (vs : List V) (ε : Env) (Q : R → Env → Prop) : Prop := Q (.gen (fnG vs)) ε
section
variable {X : Cx} {CX : CXT} {p p1 p2 pos : Pos} {e b : Expr} {as : List Expr} {tb : TE} {t : TA} {fs : List (Addr × Sp)} {K : PySem.W.Frag} {x : Str} {i : Nat}
end
def dPickN (i : Nat) (vs : List V) (Fs : List DSpX) (Ex : Xn → Env → Prop) (g : DTE) (f : DTA) (ε : Env) (Q : R → Env → Prop) : Prop := ε.s[i]? = some (.gen (fnG vs)) ∧ g ε fun y ε1 => match y.dat with
  | some (.int k) => ∃ F, atI Fs k = some F ∧ dCallX F Ex f ε1 Q
  | _ => False
section
variable {w : World} {cl : Str → Option Addr} {P0 : Hp} {W : WX} {Ex : Xn → Env → Prop} {n : Nat} {K : PySem.W.Frag}
end
end Lp
namespace Lp
open PySem PySem.Spec PyProof.Rows L2
section
variable (g : Gn) (rs : List R)
theorem ra_gen : R.arg (.gen g) = some (.gen g) := rfl
theorem hb_gen : hasBr (.gen g :: rs) = hasBr rs := rfl
theorem rp_gen : R.pub (.gen g) = .gen g := rfl
theorem va_gen (o : Bool) : val o (.gen g) = some (.gen g) := rfl
theorem rr_gen : R.ret (.gen g) = some (.gen g) := rfl
end
end Lp
namespace Lp
open PySem PySem.Spec PyProof.Rows L2
end Lp
namespace Lp
open PySem PySem.Spec PyProof.Rows L2
end Lp

namespace Lp
open PySem PySem.Spec PyProof.Rows L2
section
open PySem.Calls PySem.HandSPX
variable {prog : Program} {w : World} {A : Around} {R : Result → Shared → Prop} {h : Heap} {g : Array GenState} {d : Drawn} {t : Nat} {os : OsState}
variable {nm q : Str} {C N : Addr} {bs bm : List Value} {hdct : Bool} {sn : List Str} {sub : List Value} {ab : Bool} {col : Option Bool} {dd : Option Addr} {k0 k1 k2 k3 k5 : Option Value} {B newId initId : String}
/-- C.__new__ minds no keywords -/
theorem newX_check {M : Model} {E : Value → Shared → Prop} (F : ExcBaseFacts B newId initId bm) {kws : List (Str × Value)} {Q : Unit → Shared → Prop} (hC : h.get? C = some (excClassObj nm q C N bs bm hdct sn sub ab col dd k0 k1 k2 k3 k5 newId)) (hq : Q () ⟨h, g, d, t, os⟩) :
    wpAny M A (checkBuiltinCall newId ⟨[.ref C], kws⟩) Q E ⟨h, g, d, t, os⟩ := by
  have inB : (Value.ref C :: bm).contains (.type B) = true := by rw [List.contains_cons, F.hasB, Bool.or_true]
  have far := F.noStar
  simp only [checkBuiltinCall, F.newKind, F.newSplit, F.newRow]
  repeat (first | (refine wpAny_isSubtype_exc hC ?_; rw [inB]) | refine wpAny_madeBy_exc hC ?_ | refine wpAny_staticBase_exc hC ?_ | refine wpAny_loadPart_at hC ?_ | simp only [bne_self_eq_false, Bool.false_eq_true, if_false] | wp_step)
  exact hq
theorem newX_new (F : ExcBaseFacts B newId initId bm) {kws : List (Str × Value)} (hC : h.get? C = some (excClassObj nm q C N bs bm hdct sn sub ab col dd k0 k1 k2 k3 k5 newId))
    (hq : R (.ok (.ret (.ref (h.objs.size + 1)))) ⟨(h.push (PySem.W.kdv_tup [])).push (excO C h.objs.size), g, d, t, os⟩) : codeAny (model prog w) A (.builtin newId ⟨[.ref C], kws⟩) R ⟨h, g, d, t, os⟩ := by
  have far := F.ends
  have inB : (Value.ref C :: bm).contains (.type B) = true := by rw [List.contains_cons, F.hasB, Bool.or_true]
  have inA : (Value.ref C :: bm).contains (.type "AttributeError") = false := by rw [List.contains_cons, F.noAttr]; rfl
  have inN : (Value.ref C :: bm).contains (.type "NameError") = false := by rw [List.contains_cons, F.noName]; rfl
  refine codeAny_builtinAt F.entry ?_
  unfold Builtin.«BaseException.__new__»
  refine PySem.wpAt_bind ?_
  show PySem.wpAt (model prog w) _ _ (stack >>= _) _ _ _
  refine PySem.wpAt_bind (PySem.wpAt_stack fun p' rest' => PySem.wpAt_of_wpAny ?_)
  wp_walk
  refine PySem.wpAt_of_wpAny ?_
  rw [F.owner]
  repeat (first | with_reducible refine wpAny_loadPart_at hC ?_ | with_reducible refine wpAny_madeHere_exc F.canon hC ?_ | (with_reducible refine wpAny_isSubtype_exc hC ?_; first | rw [inA] | rw [inN] | rw [inB]) | wp_step)
  show R (.ok (.ret (.ref _))) _
  rw [Heap.size_push]
  exact hq
/-- type.__call__ with keywords alone -/
theorem newX_call (F : ExcBaseFacts B newId initId bm) {kws : List (Str × Value)} {fI : Addr} {E : Value → Shared → Prop} {Q : Fin → Shared → Prop} (hC : h.get? C = some (excClassObj nm q C N bs bm hdct sn sub ab col dd k0 k1 k2 k3 k5 newId))
    (hi : PySem.W.Looks (model prog w) h (typeLookup (.ref C) "__init__") (some (.ref fI))) (hb : ∀ self, PySem.W.Looks (model prog w) h (bindSpecial (.ref fI) self) (.ref fI, [self]))
    (hq : codeAny (model prog w) A (.call (.ref fI) ⟨[.ref (h.objs.size + 1)], kws⟩) (fun r s' => match r with | .ok (.ret v) => v = .none ∧ Q (.done (.ret (.ref (h.objs.size + 1)))) s' | .ok _ => False | .error e => E e s') ⟨(h.push (PySem.W.kdv_tup [])).push (excO C h.objs.size), g, d, t, os⟩) :
    wpAny (model prog w) A (Builtin.«type.__call__» ⟨[.ref C], kws⟩) Q E ⟨h, g, d, t, os⟩ := by
  repeat (first | with_reducible refine wpAny_madeBy_exc hC ?_ | with_reducible refine wpAny_loadPart_at hC ?_ | wp_step)
  refine codeAny_call_builtin_code (Code.quiet_builtin _ F.quiet) (newX_check F hC ?_)
  refine newX_new F hC ?_
  show wpAny (model prog w) _ _ _ _ _
  have kp : ∀ b o, h.get? b = some o → ((h.push (PySem.W.kdv_tup [])).push (excO C h.objs.size)).get? b = some o := fun b o z => Heap.get?_push_of_some _ (Heap.get?_push_of_some _ z)
  have cC := kp _ _ hC
  have cE : ((h.push (PySem.W.kdv_tup [])).push (excO C h.objs.size)).get? (h.objs.size + 1) = some (excO C h.objs.size) := by heap_get
  have inC : (Value.ref C :: bm).contains (.ref C) = true := by simp
  have i2 := hi.keeps kp
  have b2 := (hb (.ref (h.objs.size + 1))).keeps kp
  unfold isInstance
  repeat (first | with_reducible refine wpAny_loadPart_at cE ?_ | (with_reducible refine wpAny_isSubtype_exc cC ?_; rw [inC]) | wp_step)
  show wpAny (model prog w) _ (typeLookup (.ref C) _) _ _ _
  refine i2.at ?_
  refine wpAny_holding (wpAny_bind (b2.at ?_))
  refine wpAny_bind (wpAny_call (codeAny_mono hq fun r s' z => ?_))
  rcases r with e | (v | _ | _ | _) <;> first | exact z | exact z.elim | skip
  obtain ⟨rfl, z2⟩ := z
  first
    | exact wpAny_pure (wpAny_pure z2)
    | (wp_walk; exact z2)
theorem newX_own (F : ExcBaseFacts B newId initId bm) {kws : List (Str × Value)} {fI : Addr} (hC : h.get? C = some (excClassObj nm q C N bs bm hdct sn sub ab col dd k0 k1 k2 k3 k5 newId))
    (hi : PySem.W.Looks (model prog w) h (typeLookup (.ref C) "__init__") (some (.ref fI))) (hb : ∀ self, PySem.W.Looks (model prog w) h (bindSpecial (.ref fI) self) (.ref fI, [self]))
    (hq : codeAny (model prog w) (A.under (.builtin "type.__call__" ⟨[.ref C], kws⟩)) (.call (.ref fI) ⟨[.ref (h.objs.size + 1)], kws⟩) (PySem.W.InitBack (h.objs.size + 1) R) ⟨(h.push (PySem.W.kdv_tup [])).push (excO C h.objs.size), g, d, t, os⟩) :
    codeAny (model prog w) A (.call (.ref C) ⟨[], kws⟩) R ⟨h, g, d, t, os⟩ := by
  have l1 := tc_lookup
  have l2 := tc_bind (.ref C)
  have hTy : (⟨h, g, d, t, os⟩ : Shared).TypeIs (.ref C) "type" := ⟨_, hC, rfl⟩
  refine codeAny_of_tree ?_
  show wpAny (model prog w) _ (callAny (.ref C) _) _ _ _
  repeat (any_goals (first | assumption | with_reducible refine wpAny_loadPart_at hC ?_ | wp_step))
  refine ⟨rfl, ?_⟩
  refine codeAny_call_builtin_at (Code.quiet_builtin _ (by decide +kernel)) entry_typeCall (wpAny_check_type_call_sub hC (newX_call F hC hi hb ?_))
  refine codeAny_mono hq fun r s' z => ?_
  rcases r with e | (v | _ | _ | _) <;> exact z
end
end Lp

namespace Lp
open PySem PySem.Spec PyProof.Rows L2
section
variable {X : Cx} {pins : List (Addr × Obj)} {σ : L2.St} {H : Hp} {s : Shared}
/-- what is known of an object is said anew -/
theorem Inv.anew {b : Addr} {o o' : HO} (I : Inv X pins σ H s) (eb : H b = some o) (hT : ∀ xs, o ≠ .tup xs) (hF : ∀ u v, o ≠ .frz u v) (hB : ∀ ps, o ≠ .tbl ps) (hO : ∀ x, o ≠ .own x) (ok : ObjOk X.prog X.w (upd H b o') s.heap b o') : Inv X pins σ (upd H b o') s := by
  have nb : ∀ {c : Addr}, H c = none → c ≠ b := fun {c} n z => by rw [z, eb] at n; cases n
  obtain ⟨hp, g, d, t, os⟩ := s
  have U : Un X.fs [] H (upd H b o') hp hp := {
    keep := fun c u z n _ _ => z
    slot := fun c u z n _ _ => ⟨u.slots, z⟩
    free := fun c u z n _ => (upd_ne (nb n)).trans n
    there := fun c u z _ => ⟨u, z⟩
    tups := fun c xs z => (upd_ne (at_ne eb z (hT xs))).trans z
    frzs := fun c u v z => (upd_ne (at_ne eb z (hF u v))).trans z
    tbls := fun c ps z => ⟨#[], by rw [upd_ne (at_ne eb z (hB ps)), z]; simp⟩ }
  refine I.un (t' := t) U fun c u z => ?_
  by_cases hc : c = b
  · subst hc
    rw [upd_same] at z
    cases z
    exact ok
  · rw [upd_ne hc] at z
    exact (I.hok c u z).stay (fun e v he y => y) (fun e he => (upd_ne (at_ne eb he (hO c))).trans he) (fun e xs he => (upd_ne (at_ne eb he (hT xs))).trans he)
theorem Inv.exn {a d C : Addr} {fs : List (Str × V)} (I : Inv X pins σ H s) (ea : H a = some (exo a C (some d))) (ed : H d = some (exd d fs)) : Inv X pins σ (upd (upd H d (.xd fs)) a (exc a (.ref C) (some d))) s := by
  obtain ⟨t1, ho⟩ := exo_at I.hok ea
  obtain ⟨mA, hns, rel⟩ := exd_at I.hok ed
  have hda : a ≠ d := fun z => by
    obtain ⟨o, es, ep, e1, e2, _⟩ := hns
    rw [← z, ho] at e1
    have z2 := Option.some.inj e1
    subst z2
    cases e2
  have I1 : Inv X pins σ (upd H d (.xd fs)) s := Inv.anew I ed (fun _ => exd_tup) (fun _ _ z => nomatch z) (fun _ z => nomatch z) (fun _ => exd_own) ⟨mA, hns, rel⟩
  exact Inv.anew I1 ((upd_ne hda).trans ea) (fun _ => exo_tup) (fun _ _ => exo_frz) (fun _ => exo_tbl) (fun _ => exo_own) (exc_ok ho rfl rfl rfl)
theorem Inv.exn0 {a C : Addr} (I : Inv X pins σ H s) (ea : H a = some (exo a C none)) : Inv X pins σ (upd H a (exc a (.ref C) none)) s := by
  obtain ⟨t1, ho⟩ := exo_at I.hok ea
  exact Inv.anew I ea (fun _ => exo_tup) (fun _ _ => exo_frz) (fun _ => exo_tbl) (fun _ => exo_own) (exc_ok ho rfl rfl rfl)
end
/-- C(e), C(k = e): an exception that is kept -/
def tNewX (C : Addr) (sp : Sp) (ta : TA) : TE := fun σ H Q => ta σ H fun vs H1 => vs.length ≤ 1000 ∧ ∀ a, H1 a = none → sp (.ref a :: vs) (upd H1 a (exo a C none))
  (fun v H2 => v = .non ∧ ∃ (d : Addr) (fs : List (Str × V)), H2 a = some (exo a C (some d)) ∧ H2 d = some (exd d fs) ∧ Q (.ref a) (upd (upd H2 d (.xd fs)) a (exc a (.ref C) (some d)))) (fun _ _ _ => False)
def tNewX0 (C : Addr) (sp : Sp) : TE := fun _ H Q => ∀ a, H a = none → sp [.ref a] (upd H a (exo a C none)) (fun v H2 => v = .non ∧ H2 a = some (exo a C none) ∧ Q (.ref a) (upd H2 a (exc a (.ref C) none))) (fun _ _ _ => False)
/-- a def's parameters self and one more, this one by its name -/
def KbI (fd : FuncData) (fld : Str) : Prop := ∀ (s : Shared) (u v : Value), BindsTo s fd ⟨[u], [(fld, v)]⟩ [("self", u), (fld, v)]
section
variable {X : Cx} {CX : CXT} {x fld : Str} {C fI : Addr} {k : Nat} {fd : FuncData} {sp : Sp} {ta : TA} {e : Expr} {p pos : Pos} {B newId initId : String} {bm : List Value}
theorem pe_newX (T : OexB X.K C B newId initId bm) (iC : PySem.W.findIn X.K (.ref C) "__init__" = some (some (.ref fI))) (tI : PySem.W.typeIn X.K (.ref fI) = some (.type "function")) (F1 : FnOk X.prog X.w X.K X.mg X.base CX k fI fd ["self", fld] sp) (hr : Room (k + 1) X.A)
    (hb : Binds X.K fd ["self", fld] []) (hx : Passes CX X (fun _ _ _ => False)) (hg : Gl X x) (hm : X.mg x = some (.ref C)) (ha : PA X [e] ta) (hdb : (x == ("__debug__" : Str)) = false := by decide) (he : starEach [e] X.env = (false, eval e X.env) :: starEach [] X.env := by rfl) : PE X (.Call (.Name x p) [e] [] pos) (tNewX C sp ta) := by
  refine ⟨fun pins s σ H Q I h => ?_⟩
  obtain ⟨nm, qn, N, bs, sn, sub, ab, col, dd, k0, k1, k2, k3, k5, hC⟩ := T.cls
  refine wpAny_Call_Name_kw (ld_glob I hg hm ?_ hdb)
  refine PySem.W.callWith_K (h₀ := X.base) I.ok.mod.kin T.kC (thn (ha.run pos pins s σ H _ I h) fun us s1 ⟨vs, H1, I1, r1, few, q1⟩ => ⟨I1.kIn, ?_⟩) he (by rfl)
  show wpAny _ _ (call (.ref C) us) _ _ _
  obtain ⟨hp, g, dr, tk, os⟩ := s1
  have new : hp.objs.size ≤ hp.objs.size + 1 := Nat.le_succ _
  have want := q1 (hp.objs.size + 1) (I1.hok.fresh new)
  have keep : ∀ b o, hp.get? b = some o → ((hp.push (PySem.W.kdv_tup us)).push (PySem.HandSPX.excO C hp.objs.size)).get? b = some o := fun b o z => Heap.get?_push_of_some _ (Heap.get?_push_of_some _ z)
  have at_e : ((hp.push (PySem.W.kdv_tup us)).push (PySem.HandSPX.excO C hp.objs.size)).get? (hp.objs.size + 1) = some (PySem.HandSPX.excO C hp.objs.size) := by heap_get
  have I2 : Inv X pins σ (upd H1 (hp.objs.size + 1) (exo (hp.objs.size + 1) C none)) ⟨(hp.push (PySem.W.kdv_tup us)).push (PySem.HandSPX.excO C hp.objs.size), g, dr, tk, os⟩ := I1.laid (t' := tk) (a := hp.objs.size + 1) (o := exo (hp.objs.size + 1) C none) keep new (exo_ok at_e)
  have r2 : Vals (V.ref (hp.objs.size + 1) :: vs) (Value.ref (hp.objs.size + 1) :: us) := .cons rfl r1
  have len : (Value.ref (hp.objs.size + 1) :: us).length = (["self", fld] : List Str).length := by
    have z := r2.length
    rw [F1.len _ _ _ _ want] at z
    exact z.symm
  have few2 : us.length ≤ sizeLine := by rw [← Paired.length r1, sizeLine_eq]; omega
  refine wpAny_call (PySem.HandSPX.call_own T.base (fun _ => rfl) (I1.kIn _ _ hC) (PySem.W.looks_findIn I1.kIn iC) (fun self => PySem.W.bind_fn I1.kIn self tI) few2
    (codeAny_mono (F1.run _ X.stack _ _ ⟨Value.ref (hp.objs.size + 1) :: us, []⟩ (Value.ref (hp.objs.size + 1) :: us) _ _ (fun _ _ _ => False) (hr.make C us []) (I2.env0.make C us []) (by have z := hb _ (Value.ref (hp.objs.size + 1) :: us) I2.kIn (by rw [List.append_nil]; exact len); rw [List.append_nil] at z; exact z) r2 want) fun r s' back => ?_))
  match r, back with
  | .error er, back => exact hx pins σ _ _ er s' I2 back
  | .ok (.ret u), back =>
    obtain ⟨v, H2, I3, rv, ev, d, fs, ea, ed, q2⟩ := I2.after back
    subst ev
    exact ⟨rv, V.ref (hp.objs.size + 1), _, Inv.exn I3 ea ed, rfl, q2⟩
  | .ok .next, back => exact False.elim back
  | .ok .brk, back => exact False.elim back
  | .ok .cont, back => exact False.elim back
theorem pe_newXK {kws : List Keyword} (T : OexB X.K C B newId initId bm) (iC : PySem.W.findIn X.K (.ref C) "__init__" = some (some (.ref fI))) (tI : PySem.W.typeIn X.K (.ref fI) = some (.type "function")) (F1 : FnOk X.prog X.w X.K X.mg X.base CX k fI fd ["self", fld] sp) (hr : Room (k + 1) X.A)
    (hb : KbI fd fld) (hx : Passes CX X (fun _ _ _ => False)) (hg : Gl X x) (hm : X.mg x = some (.ref C)) (ha : PK X kws ta) (hall : (backToKw pos (keywordEach kws X.env)).all (·.1.isSome) = true := by rfl) (hks : (backToKw pos (keywordEach kws X.env)).filterMap (·.1) = [fld] := by rfl)
    (hdb : (x == ("__debug__" : Str)) = false := by decide) (hpl : ((backTo pos (starEach [] X.env)).any (·.1) || (backToKw pos (keywordEach kws X.env)).any (·.1.isNone)) = false := by rfl) : PE X (.Call (.Name x p) [] kws pos) (tNewX C sp ta) := by
  refine ⟨fun pins s σ H Q I h => ?_⟩
  obtain ⟨nm, qn, N, bs, sn, sub, ab, col, dd, k0, k1, k2, k3, k5, hC⟩ := T.cls
  refine wpAny_Call_Name_kw (ld_glob I hg hm ?_ hdb)
  refine PySem.W.callWith_KW0 (h₀ := X.base) I.ok.mod.kin T.kC hall ?_ hpl
  refine thn (ha.run pos pins s σ H _ I h) fun us s1 ⟨vs, H1, I1, r1, few, q1⟩ => ⟨I1.kIn, ?_⟩
  rw [hks]
  obtain ⟨hp, g, dr, tk, os⟩ := s1
  have new : hp.objs.size ≤ hp.objs.size + 1 := Nat.le_succ _
  have want := q1 (hp.objs.size + 1) (I1.hok.fresh new)
  have len := F1.len _ _ _ _ want
  cases r1 with
  | nil => exact absurd len (by simp)
  | @cons v u vs us r rr =>
  cases rr with
  | cons _ _ => exact absurd len (by simp)
  | nil =>
    show wpAny _ _ (call (.ref C) [] [(fld, u)]) _ _ _
    have keep : ∀ b o, hp.get? b = some o → ((hp.push (PySem.W.kdv_tup [])).push (PySem.HandSPX.excO C hp.objs.size)).get? b = some o := fun b o z => Heap.get?_push_of_some _ (Heap.get?_push_of_some _ z)
    have at_e : ((hp.push (PySem.W.kdv_tup [])).push (PySem.HandSPX.excO C hp.objs.size)).get? (hp.objs.size + 1) = some (PySem.HandSPX.excO C hp.objs.size) := by heap_get
    have I2 : Inv X pins σ (upd H1 (hp.objs.size + 1) (exo (hp.objs.size + 1) C none)) ⟨(hp.push (PySem.W.kdv_tup [])).push (PySem.HandSPX.excO C hp.objs.size), g, dr, tk, os⟩ := I1.laid (t' := tk) (a := hp.objs.size + 1) (o := exo (hp.objs.size + 1) C none) keep new (exo_ok at_e)
    have r2 : Vals [V.ref (hp.objs.size + 1), v] [Value.ref (hp.objs.size + 1), u] := .cons rfl (.cons r .nil)
    refine wpAny_call (newX_own T.base (I1.kIn _ _ hC) (PySem.W.looks_findIn I1.kIn iC) (fun self => PySem.W.bind_fn I1.kIn self tI)
      (codeAny_mono (F1.run _ X.stack _ _ ⟨[Value.ref (hp.objs.size + 1)], [(fld, u)]⟩ [Value.ref (hp.objs.size + 1), u] _ _ (fun _ _ _ => False) (hr.make C [] [(fld, u)]) (I2.env0.make C [] [(fld, u)]) (hb _ _ _) r2 want) fun r s' back => ?_))
    cases r with
    | error er => exact hx pins σ _ _ er s' I2 back
    | ok fl =>
      cases fl with
      | ret u =>
        obtain ⟨v, H2, I3, rv, ev, d, fs, ea, ed, q2⟩ := I2.after back
        subst ev
        exact ⟨rv, V.ref (hp.objs.size + 1), _, Inv.exn I3 ea ed, rfl, q2⟩
      | next => exact False.elim back
      | brk => exact False.elim back
      | cont => exact False.elim back
theorem pe_newX0 (T : OexB X.K C B newId initId bm) (iC : PySem.W.findIn X.K (.ref C) "__init__" = some (some (.ref fI))) (tI : PySem.W.typeIn X.K (.ref fI) = some (.type "function")) (F1 : FnOk X.prog X.w X.K X.mg X.base CX k fI fd ["self"] sp) (hr : Room (k + 1) X.A)
    (hb : Binds X.K fd ["self"] []) (hx : Passes CX X (fun _ _ _ => False)) (hg : Gl X x) (hm : X.mg x = some (.ref C)) (hdb : (x == ("__debug__" : Str)) = false := by decide) : PE X (.Call (.Name x p) [] [] pos) (tNewX0 C sp) := by
  refine ⟨fun pins s σ H Q I h => ?_⟩
  obtain ⟨nm, qn, N, bs, sn, sub, ab, col, dd, k0, k1, k2, k3, k5, hC⟩ := T.cls
  refine wpAny_Call_Name_kw (ld_glob I hg hm ?_ hdb)
  refine PySem.W.callWith_K0 I.kIn T.kC ?_
  show wpAny _ _ (call (.ref C) []) _ _ _
  obtain ⟨hp, g, dr, tk, os⟩ := s
  have new : hp.objs.size ≤ hp.objs.size + 1 := Nat.le_succ _
  have want := h (hp.objs.size + 1) (I.hok.fresh new)
  have keep : ∀ b o, hp.get? b = some o → ((hp.push (PySem.W.kdv_tup [])).push (PySem.HandSPX.excO C hp.objs.size)).get? b = some o := fun b o z => Heap.get?_push_of_some _ (Heap.get?_push_of_some _ z)
  have at_e : ((hp.push (PySem.W.kdv_tup [])).push (PySem.HandSPX.excO C hp.objs.size)).get? (hp.objs.size + 1) = some (PySem.HandSPX.excO C hp.objs.size) := by heap_get
  have I2 : Inv X pins σ (upd H (hp.objs.size + 1) (exo (hp.objs.size + 1) C none)) ⟨(hp.push (PySem.W.kdv_tup [])).push (PySem.HandSPX.excO C hp.objs.size), g, dr, tk, os⟩ := I.laid (t' := tk) (a := hp.objs.size + 1) (o := exo (hp.objs.size + 1) C none) keep new (exo_ok at_e)
  have r2 : Vals [V.ref (hp.objs.size + 1)] [Value.ref (hp.objs.size + 1)] := .cons rfl .nil
  refine wpAny_call (PySem.HandSPX.call_own T.base (fun _ => rfl) (I.kIn _ _ hC) (PySem.W.looks_findIn I.kIn iC) (fun self => PySem.W.bind_fn I.kIn self tI) (Nat.zero_le _)
    (codeAny_mono (F1.run _ X.stack _ _ ⟨[Value.ref (hp.objs.size + 1)], []⟩ [Value.ref (hp.objs.size + 1)] _ _ (fun _ _ _ => False) (hr.make C [] []) (I2.env0.make C [] []) (hb _ [Value.ref (hp.objs.size + 1)] I2.kIn rfl) r2 want) fun r s' back => ?_))
  match r, back with
  | .error er, back => exact hx pins σ _ _ er s' I2 back
  | .ok (.ret u), back =>
    obtain ⟨v, H2, I3, rv, ev, ea, q2⟩ := I2.after back
    subst ev
    exact ⟨rv, V.ref (hp.objs.size + 1), _, Inv.exn0 I3 ea, rfl, q2⟩
  | .ok .next, back => exact False.elim back
  | .ok .brk, back => exact False.elim back
  | .ok .cont, back => exact False.elim back
end
end Lp
namespace Lp
open PySem PySem.Spec PyProof.Rows L2
/-- at v: an exception -/
def erG [Fns] (x : Xn) : Gn := ⟨fun L v => ∃ a C d, v = .ref a ∧ FN x.cls = .ref C ∧ L a = some (exc a (.ref C) d) ∧ XF L d x.fs, fun s ⟨a, C, d, h1, h2, h3, h4⟩ => ⟨a, C, d, h1, h2, s _ _ h3, h4.to s⟩⟩
inductive EVs [Fns] (L : Hp) : List V → List Xn → Prop
  | nil : EVs L [] []
  | cons {v : V} {vs : List V} {x : Xn} {xs : List Xn} : (erG x).ok L v → EVs L vs xs → EVs L (v :: vs) (x :: xs)
theorem EVs.to [Fns] {L L' : Hp} (s : Same L L') : ∀ {vs : List V} {xs : List Xn}, EVs L vs xs → EVs L' vs xs
  | _, _, .nil => .nil
  | _, _, .cons a r => .cons ((erG _).mono s a) (r.to s)
theorem EVs.len [Fns] {L : Hp} : ∀ {vs : List V} {xs : List Xn}, EVs L vs xs → vs.length = xs.length
  | _, _, .nil => rfl
  | _, _, .cons _ r => by rw [List.length_cons, List.length_cons, r.len]
theorem EVs.app [Fns] {L : Hp} : ∀ {vs us : List V} {xs ys : List Xn}, EVs L vs xs → EVs L us ys → EVs L (vs ++ us) (xs ++ ys)
  | _, _, _, _, .nil, s => s
  | _, _, _, _, .cons a r, s => .cons a (r.app s)
theorem EVs.get [Fns] {L : Hp} : ∀ {vs : List V} {xs : List Xn} {i : Nat} {x : Xn}, EVs L vs xs → xs[i]? = some x → ∃ v, vs[i]? = some v ∧ (erG x).ok L v
  | _, _, _, _, .nil, e => by simp at e
  | _, _, 0, _, .cons a _, e => by simp at e; subst e; exact ⟨_, rfl, a⟩
  | _, _, i + 1, x, .cons _ r, e => by
    obtain ⟨v, h1, h2⟩ := EVs.get (i := i) (x := x) r (by simpa using e)
    exact ⟨v, by simpa using h1, h2⟩
/-- at v: a list of exceptions -/
def elG [Fns] (xs : List Xn) : Gn := ⟨fun L v => ∃ a vs, v = .ref a ∧ L a = some (.lst vs) ∧ EVs L vs xs, fun s ⟨a, vs, h1, h2, h3⟩ => ⟨a, vs, h1, s _ _ h2, h3.to s⟩⟩
def dNewX [Fns] (nm fld : Str) (f : DTE) (ε : Env) (Q : R → Env → Prop) : Prop := f ε fun r ε1 => match r with
  | .sh (.int i) => Q (.gen (erG ⟨nm, [(fld, .int i)]⟩)) ε1
  | .sh (.tuple ds) => Q (.gen (erG ⟨nm, [(fld, .tuple ds)]⟩)) ε1
  | _ => False
def dNewX0 [Fns] (nm : Str) (ε : Env) (Q : R → Env → Prop) : Prop := Q (.gen (erG ⟨nm, []⟩)) ε
section
variable [Fns] {w : Wx} {K : PySem.W.Frag} {C : Addr} {nm fld : Str} {te : TE} {f : DTE}
theorem newX_end {Z : Zx} {O : Addr → Prop} {σ : L2.St} {ε : Env} {L H : Hp} {v : V} {d : PyData} {Q : VK} (hC : FN nm = .ref C) (X : Rep w Z O L H σ ε) (r : DV L v d) (ok : okv L v)
    (q : ∀ v L' H', Rep w Z O L' H' σ ε → Ext Z.b L H L' H' → (erG ⟨nm, [(fld, d)]⟩).ok L' v → Q v H') (a : Addr) (na : H a = none) :
    spI K C fld [.ref a, v] (upd H a (exo a C none)) (fun v' H2 => v' = .non ∧ ∃ (d : Addr) (fs : List (Str × V)), H2 a = some (exo a C (some d)) ∧ H2 d = some (exd d fs) ∧ Q (.ref a) (upd (upd H2 d (.xd fs)) a (exc a (.ref C) (some d)))) (fun _ _ _ => False) := by
  refine ⟨a, v, rfl, upd_same, ?_, fun dx n ne => ⟨rfl, dx, [(fld, v)], upd_same, by rw [upd_ne ne, upd_same], ?_⟩⟩
  · rcases ok with h | ⟨p, xs, e, h⟩
    · exact .inl h
    · refine .inr ⟨p, xs, e, ?_⟩
      obtain ⟨o, h1, h2⟩ := h.to X.lh
      exact ⟨o, h1, by rw [upd_ne (ne_of_none h2 na)]; exact h2⟩
  · rw [upd_ne ne] at n
    have e : upd (upd (upd (upd (upd H a (exo a C none)) dx (exd dx [(fld, v)])) a (exo a C (some dx))) dx (.xd [(fld, v)])) a (exc a (.ref C) (some dx)) = upd (upd H dx (.xd [(fld, v)])) a (exc a (.ref C) (some dx)) := by
      funext b
      by_cases ha : b = a
      · rw [ha, upd_same, upd_same]
      · rw [upd_ne ha, upd_ne ha]
        by_cases hb : b = dx
        · rw [hb, upd_same, upd_same]
        · rw [upd_ne hb, upd_ne hb, upd_ne ha, upd_ne hb, upd_ne ha]
    rw [e]
    have e2 : Ext none L H (upd L dx (.xd [(fld, v)])) (upd H dx (.xd [(fld, v)])) := Ext.new X.lh n
    have X2 := X.step e2 (same_both X.lh)
    have na2 : upd H dx (.xd [(fld, v)]) a = none := by rw [upd_ne ne.symm]; exact na
    have e3 : Ext none (upd L dx (.xd [(fld, v)])) (upd H dx (.xd [(fld, v)])) (upd (upd L dx (.xd [(fld, v)])) a (exc a (.ref C) (some dx))) (upd (upd H dx (.xd [(fld, v)])) a (exc a (.ref C) (some dx))) := Ext.new X2.lh na2
    have X3 := X2.step e3 (same_both X2.lh)
    exact q _ _ _ X3 (e2.trans e3).any ⟨a, C, some dx, rfl, hC, upd_same, [(fld, v)], e3.ll _ _ upd_same, .cons (DV.to r (e2.trans e3).ll) .nil⟩
theorem se_newX (hC : FN nm = .ref C) (hf : SE w te f) : SE w (tNewX C (spI K C fld) (tCons te tNil)) (dNewX nm fld f) := by
  constructor
  · intro ε A B h q
    refine hf.mono _ _ _ (fun r ε1 q => ?_) q
    split at q
    · exact h _ _ q
    · exact h _ _ q
    · exact q.elim
  · intro Z O σ ε L H Q X q
    refine hf.run Z O σ ε L H _ X (hf.mono _ _ _ (fun r ε1 q => ?_) q)
    intro v L1 H1 X1 e1 r1
    split at q
    · have r2 : DV L1 v (.int _) := r1
      refine ⟨by simp, fun a na => newX_end hC X1 r2 (.inl ⟨_, by cases r2; rfl⟩) (fun v L' H' X' e' ok => q v L' H' X' (e1.trans e') ok) a na⟩
    · have r2 : DV L1 v (.tuple _) := r1
      refine ⟨by simp, fun a na => newX_end hC X1 r2 (.inr ?_) (fun v L' H' X' e' ok => q v L' H' X' (e1.trans e') ok) a na⟩
      cases r2 with
      | tup h1 h2 => exact ⟨_, _, rfl, h1⟩
    · exact q.elim
theorem se_newX0 (hC : FN nm = .ref C) : SE w (tNewX0 C (spI0 K C)) (dNewX0 nm) := by
  constructor
  · intro ε A B h q
    exact h _ _ q
  · intro Z O σ ε L H Q X q a na
    refine ⟨a, rfl, upd_same, rfl, upd_same, ?_⟩
    have e : upd (upd H a (exo a C none)) a (exc a (.ref C) none) = upd H a (exc a (.ref C) none) := by
      funext b
      by_cases ha : b = a
      · rw [ha, upd_same, upd_same]
      · rw [upd_ne ha, upd_ne ha, upd_ne ha]
    rw [e]
    have e2 : Ext none L H (upd L a (exc a (.ref C) none)) (upd H a (exc a (.ref C) none)) := Ext.new X.lh na
    exact q _ _ _ (X.step e2 (same_both X.lh)) e2.any ⟨a, C, none, rfl, hC, upd_same, rfl⟩
end
end Lp

namespace Lp
open PySem PySem.Spec PyProof.Rows L2
def dExL [Fns] (f : DTA) (ε : Env) (Q : R → Env → Prop) : Prop := f ε fun rs ε1 => ∃ xs : List Xn, rs = xs.map (fun x => R.gen (erG x)) ∧ Q (.gen (elG xs)) ε1
def dExCat [Fns] (f g : DTE) (ε : Env) (Q : R → Env → Prop) : Prop := f ε fun x ε1 => g ε1 fun y ε2 => ∃ xs ys : List Xn, x = .gen (elG xs) ∧ y = .gen (elG ys) ∧ xs.length + ys.length ≤ sizeLine ∧ Q (.gen (elG (xs ++ ys))) ε2
def dExIx [Fns] (i : Nat) (f : DTE) (ε : Env) (Q : R → Env → Prop) : Prop := f ε fun r ε1 => ∃ (xs : List Xn) (x : Xn), r = .gen (elG xs) ∧ xs[i]? = some x ∧ Q (.gen (erG x)) ε1
def dAttrG [Fns] (n : Str) (f : DTE) (ε : Env) (Q : R → Env → Prop) : Prop := f ε fun r ε1 => ∃ (x : Xn) (d : PyData), r = .gen (erG x) ∧ x.fs.lookup n = some d ∧ Q (.sh d) ε1
def dIsG [Fns] (nms : List Str) (f : DTE) (ε : Env) (Q : R → Env → Prop) : Prop := f ε fun r ε1 => ∃ x : Xn, r = .gen (erG x) ∧ Q (.sh (.bool (nms.any (subX x.cls)))) ε1
def forE [Fns] (i j : Nat) (p : DTS) (Δ : DEnds) : Nat → List Xn → Env → Prop
  | _, [], ε => Δ.nx ε
  | k, x :: xs, ε => p { nx := forE i j p Δ (k + 1) xs, rt := Δ.rt, bk := Δ.nx, ct := forE i j p Δ (k + 1) xs } ((ε.set i (.sh (.int (k : Nat)))).set j (.gen (erG x)))
/-- for i, j in enumerate(a list of exceptions) -/
def dForE [Fns] (i j : Nat) (f : DTE) (p : DTS) (Δ : DEnds) (ε : Env) : Prop := f ε fun r ε1 => ∃ xs : List Xn, r = .gen (elG xs) ∧ forE i j p Δ 0 xs ε1
theorem EVs.of [Fns] {w : Wx} {Z : Zx} {O : Addr → Prop} {σ : L2.St} {Hs L H : Hp} : ∀ {xs : List Xn} {vs : List V}, VRs w Z O σ Hs L H vs (xs.map fun x => R.gen (erG x)) → EVs L vs xs
  | [], _, h => by cases h; exact .nil
  | x :: xs, _, h => by
    cases h with
    | cons a r => exact .cons a (EVs.of r)
section
variable [Fns] {w : Wx} {K : PySem.W.Frag} {te ta tb : TE} {f g : DTE}
theorem se_exL {n : Nat} {t : TA} {f : DTA} (hf : SA w n t f) (hn : n ≤ sizeLine := by decide) : SE w (tLst t) (dExL f) := by
  constructor
  · intro ε A B h z
    exact hf.mono _ _ _ (fun rs ε1 ⟨xs, e, z⟩ => ⟨xs, e, h _ _ z⟩) z
  · intro Z O σ ε L H Q X z
    refine hf.run Z O σ ε L H _ X (hf.mono _ _ _ (fun rs ε1 z => ?_) z)
    obtain ⟨xs, rfl, z⟩ := z
    intro vs L1 H1 X1 e1 r1 hl np
    have ev := EVs.of r1
    refine ⟨by rw [r1.len, hl]; exact hn, fun p np => ?_⟩
    have e2 : Ext none L1 H1 (upd L1 p (.lst vs)) (upd H1 p (.lst vs)) := Ext.new X1.lh np
    exact z _ _ _ (X1.step e2 (same_both X1.lh)) (e1.trans e2.any) ⟨p, vs, rfl, upd_same, ev.to e2.ll⟩
theorem se_exCat (hf : SE w ta f) (hg : SE w tb g) : SE w (tOp (rAdd K) ta tb) (dExCat f g) := by
  constructor
  · intro ε A B h q
    exact hf.mono _ _ _ (fun x ε1 q => hg.mono _ _ _ (fun y ε2 ⟨xs, ys, e1, e2, hl, q⟩ => ⟨xs, ys, e1, e2, hl, h _ _ q⟩) q) q
  · intro Z O σ ε L H Q X q
    refine hf.run Z O σ ε L H _ X (hf.mono _ _ _ (fun x ε1 q => ?_) q)
    intro v L1 H1 X1 e1 r1
    refine hg.run Z O σ ε1 L1 H1 _ X1 (hg.mono _ _ _ (fun y ε2 q => ?_) q)
    obtain ⟨xs, ys, rfl, rfl, hl, q⟩ := q
    intro u L2 H2 X2 e2 r2
    obtain ⟨a, vs, rfl, h1, h2⟩ := (elG xs).mono e2.ll r1
    obtain ⟨b, us, rfl, h3, h4⟩ := r2
    refine .inr (.inl ⟨a, b, vs, us, rfl, rfl, X2.lh _ _ h1, X2.lh _ _ h3, by rw [h2.len, h4.len]; exact hl, fun p np => ?_⟩)
    have e3 : Ext none L2 H2 (upd L2 p (.lst (vs ++ us))) (upd H2 p (.lst (vs ++ us))) := Ext.new X2.lh np
    exact q _ _ _ (X2.step e3 (same_both X2.lh)) ((e1.trans e2).trans e3.any) ⟨p, _, rfl, upd_same, (h2.app h4).to e3.ll⟩
theorem atI_ev {L : Hp} {vs : List V} {xs : List Xn} {i : Nat} {x : Xn} (h : EVs L vs xs) (e : xs[i]? = some x) : ∃ v, atI vs (i : Nat) = some v ∧ (erG x).ok L v := by
  obtain ⟨v, h1, h2⟩ := h.get e
  have hi : i < vs.length := (List.getElem?_eq_some_iff.mp h1).1
  refine ⟨v, ?_, h2⟩
  unfold atI
  have : ixN vs.length (i : Nat) = some i := by
    unfold ixN
    simp
    omega
  rw [this]
  exact h1
theorem se_exIx {i : Nat} {n : Int} (hn : n = (i : Nat)) (hf : SE w ta f) : SE w (tOp (rIx K) ta (tC (.int n))) (dExIx i f) := by
  subst hn
  constructor
  · intro ε A B h q
    exact hf.mono _ _ _ (fun r ε1 ⟨xs, x, e, ex, q⟩ => ⟨xs, x, e, ex, h _ _ q⟩) q
  · intro Z O σ ε L H Q X q
    refine hf.run Z O σ ε L H _ X (hf.mono _ _ _ (fun r ε1 q => ?_) q)
    obtain ⟨xs, x, rfl, ex, q⟩ := q
    intro v L1 H1 X1 e1 r1
    obtain ⟨a, vs, rfl, h1, h2⟩ := r1
    obtain ⟨u, h3, h4⟩ := atI_ev h2 ex
    exact .inl ⟨a, vs, _, u, rfl, rfl, SqL.of (X1.lh _ _ h1), h3, q u L1 H1 X1 e1 h4⟩
theorem se_attrG {n : Str} (hT : ∀ m C, FN m = .ref C → XfC K C ∧ PySem.W.findIn K (.ref C) n = some none) (hf : SE w te f) : SE w (tXg K n te) (dAttrG n f) := by
  constructor
  · intro ε A B h q
    exact hf.mono _ _ _ (fun r ε1 ⟨x, d, e, hd, q⟩ => ⟨x, d, e, hd, h _ _ q⟩) q
  · intro Z O σ ε L H Q X q
    refine hf.run Z O σ ε L H _ X (hf.mono _ _ _ (fun r ε1 q => ?_) q)
    obtain ⟨x, d, rfl, hd, q⟩ := q
    intro v L1 H1 X1 e1 r1
    obtain ⟨a, C, d', h1, h2, h3, h4⟩ := r1
    cases d' with
    | none =>
      have h4' : x.fs = [] := h4
      rw [h4'] at hd
      cases hd
    | some dd =>
      obtain ⟨vs, g1, g2⟩ := h4
      obtain ⟨u, g3, g4⟩ := g2.look hd
      exact ⟨a, C, dd, vs, u, h1, X1.lh _ _ h3, (hT _ _ h2).1, (hT _ _ h2).2, X1.lh _ _ g1, g3, q u L1 H1 X1 e1 g4⟩
theorem TyE.ofG {H L : Hp} {v : V} {x : Xn} (h : (erG x).ok L v) (s : Same L H) (hT : ∀ C, FN x.cls = .ref C → ExcC K C) : ∃ C, FN x.cls = .ref C ∧ TyE K H v (.ref C) := by
  obtain ⟨a, C, d, h1, h2, h3, h4⟩ := h
  exact ⟨C, h2, .inr ⟨a, C, d, h1, rfl, s _ _ h3, (h4.to s).dict, hT C h2⟩⟩
theorem se_isG {nm : Str} {c : V} {u : Value} (hT : ∀ n C, FN n = .ref C → ExcC K C) (k : ClsV c u) (hk : ∀ n C, FN n = .ref C → PySem.W.kitOne K (.ref C) u = some (subX n nm)) (hf : SE w te f) : SE w (tCB (rIsX K) (tCons te (tCons (tC c) tNil))) (dIsG [nm] f) := by
  constructor
  · intro ε A B h q
    exact hf.mono _ _ _ (fun r ε1 ⟨x, e, q⟩ => ⟨x, e, h _ _ q⟩) q
  · intro Z O σ ε L H Q X q
    refine hf.run Z O σ ε L H _ X (hf.mono _ _ _ (fun r ε1 q => ?_) q)
    obtain ⟨x, rfl, q⟩ := q
    intro v L1 H1 X1 e1 r1
    obtain ⟨C, hC, ty⟩ := TyE.ofG (K := K) r1 X1.lh (fun C h => hT _ C h)
    exact ⟨v, c, .ref C, u, _, rfl, k, ty, hk _ _ hC, q _ L1 H1 X1 e1 (by rw [show ([nm].any (subX x.cls)) = subX x.cls nm by simp]; exact .bl _)⟩
theorem se_isGT {nms : List Str} {cs : List V} {us : List Value} (hT : ∀ n C, FN n = .ref C → ExcC K C) (k : Paired ClsV cs us) (hk : ∀ n C, FN n = .ref C → PySem.W.kitAny K (.ref C) us = some (nms.any (subX n))) (hf : SE w te f) (hl : cs.length ≤ sizeLine := by decide) :
    SE w (tCB (rIsXT K) (tCons te (tCons (tTup (tCls cs)) tNil))) (dIsG nms f) := by
  constructor
  · intro ε A B h q
    exact hf.mono _ _ _ (fun r ε1 ⟨x, e, q⟩ => ⟨x, e, h _ _ q⟩) q
  · intro Z O σ ε L H Q X q
    refine hf.run Z O σ ε L H _ X (hf.mono _ _ _ (fun r ε1 q => ?_) q)
    obtain ⟨x, rfl, q⟩ := q
    intro v L1 H1 X1 e1 r1
    refine tCls_run cs σ H1 _ ⟨hl, fun p np => ?_⟩
    have e2 : Ext none L1 H1 L1 (upd H1 p (.tup cs)) := Ext.own np
    have X2 := X1.step e2 (same_own X1.lh (X1.lh.free np))
    obtain ⟨C, hC, ty⟩ := TyE.ofG (K := K) r1 X2.lh (fun C h => hT _ C h)
    exact ⟨v, p, cs, .ref C, us, _, rfl, upd_same, k, ty, hk _ _ hC, q _ L1 _ X2 (e1.trans e2.any) (.bl _)⟩
theorem forE_mono {t : TS} {p : DTS} {i j : Nat} (hp : SS w t p) {Δ Δ' : DEnds} (l : DEnds.le Δ Δ') : ∀ (xs : List Xn) (k : Nat) (ε : Env), forE i j p Δ k xs ε → forE i j p Δ' k xs ε
  | [], k, ε, z => l.nx ε z
  | x :: xs, k, ε, z => hp.mono { nx := forE i j p Δ (k + 1) xs, rt := Δ.rt, bk := Δ.nx, ct := forE i j p Δ (k + 1) xs } _ _ ⟨forE_mono hp l xs (k + 1), l.rt, l.nx, forE_mono hp l xs (k + 1)⟩ z
theorem ss_forE {t : TS} {p : DTS} {i j : Nat} (hf : SE w te f) (hp : SS w t p) : SS w (tFor (iEnA K (tCons te tNil)) (gTup K 2 (gCons (gName i) (gCons (gName j) gNil))) t) (dForE i j f p) := by
  constructor
  · intro Δ Δ' ε l z
    exact hf.mono _ _ _ (fun r ε1 ⟨xs, e, z⟩ => ⟨xs, e, forE_mono hp l xs 0 ε1 z⟩) z
  · intro Z O σ ε L H D Δ X E z
    refine hf.run Z O σ ε L H _ X (hf.mono _ _ _ (fun r ε1 z => ?_) z)
    obtain ⟨xs, rfl, z⟩ := z
    intro v L1 H1 X1 e1 r1
    obtain ⟨a, vs, rfl, h1, h2⟩ := r1
    have sP := X1.pn
    have hl := h2.len
    refine ⟨a, vs, rfl, .inl ⟨SqL.of (X1.lh _ _ h1), ?_⟩⟩
    refine ⟨fun k m σ H => k + m = xs.length ∧ ∃ O L ε, Rep w { Z with P := L1 } O L H σ ε ∧ forE i j p Δ k (xs.drop k) ε, ⟨xs.length, by omega, O, L1, ε1, X1.pin X1.pn (Same.refl _), by rw [List.drop_zero]; exact z⟩, ?_⟩
    rintro k m σ2 H2 ⟨hkm, O2, L2, ε2, X2, z2⟩
    have at2 : SqL K H2 a vs := SqL.of (X2.lh _ _ (X2.pn _ _ h1))
    by_cases hlt : k < xs.length
    · refine .inr ⟨⟨vs, vs[k]'(by omega), at2, List.getElem?_eq_getElem (by omega)⟩, fun σ' H' => ∃ O L ε, Rep w { Z with P := L1 } O L H' σ' ε ∧ forE i j p Δ (k + 1) (xs.drop (k + 1)) ε, fun σ' H' q => ⟨m - 1, by omega, by omega, q⟩, fun x H' y => ?_⟩
      obtain ⟨T, y1, rfl, nT, rfl, y2⟩ := y
      have hx := y2 vs at2
      obtain ⟨y1', h3, h4⟩ := h2.get (i := k) (x := xs[k]) (List.getElem?_eq_getElem hlt)
      rw [hx] at h3
      cases h3
      rw [List.drop_eq_getElem_cons hlt] at z2
      have e3 : Ext none L2 H2 L2 (upd H2 T (.tup [.int (k : Nat), y1])) := Ext.own nT
      have X3 := X2.step e3 (same_own X2.lh (X2.lh.free nT))
      refine ⟨T, _, rfl, SqT.of upd_same, rfl, .int (k : Nat), [y1], rfl, y1, [], rfl, rfl, ?_⟩
      have X4 := (X3.sh (i := i) (v := .int (k : Nat)) (.int _)).genS (i := j) (v := y1) ((erG xs[k]).mono X2.pn h4)
      exact hp.run _ O2 _ _ L2 _ _ { nx := forE i j p Δ (k + 1) (xs.drop (k + 1)), rt := Δ.rt, bk := Δ.nx, ct := forE i j p Δ (k + 1) (xs.drop (k + 1)) } X4 ⟨fun O σ ε L H X z => ⟨O, L, ε, X, z⟩, fun O σ ε L H v r X q z => E.rt O σ ε L H v r (X.unpin sP X1.ph) q z, fun O σ ε L H X z => E.nx O σ ε L H (X.unpin sP X1.ph) z, fun O σ ε L H X z => ⟨O, L, ε, X, z⟩⟩ z2
    · have e : k = xs.length := by omega
      subst e
      rw [List.drop_length] at z2
      exact .inl ⟨⟨vs, at2, by omega⟩, E.nx O2 σ2 ε2 L2 H2 (X2.unpin sP X1.ph) z2⟩
end
end Lp
namespace Lp
open PySem PySem.Spec PyProof.Rows L2
structure IniK (P : Program) (w : World) (K : PySem.W.Frag) (mg : Str → Option Value) (base : Heap) (nm fld : Str) (C : Addr) (k : Nat) : Prop where
  ex : ∃ (B newId initId : String) (bm : List Value) (fI : Addr) (fd : FuncData), OexB K C B newId initId bm ∧ PySem.W.findIn K (.ref C) "__init__" = some (some (.ref fI)) ∧ PySem.W.typeIn K (.ref fI) = some (.type "function") ∧ FnOk P w K mg base CX0 k fI fd ["self", fld] (spI K C fld) ∧ Binds K fd ["self", fld] [] ∧ KbI fd fld
theorem IniK.i {P : Program} {w : World} {K : PySem.W.Frag} {mg : Str → Option Value} {base : Heap} {nm fld : Str} {C : Addr} {k : Nat} (I : IniK P w K mg base nm fld C k) : Ini P w K mg base nm fld C k := by
  obtain ⟨B, newId, initId, bm, fI, fd, T, iC, tI, F1, hb, _⟩ := I.ex
  exact ⟨B, newId, initId, bm, fI, fd, T, iC, tI, F1, hb⟩
section
variable {X : Cx} {nm fld : Str} {C : Addr} {k : Nat} {K : PySem.W.Frag} {e : Expr} {ta : TA} {p pos : Pos}
theorem pe_newI (eK : X.K = K) (I : Ini X.prog X.w X.K X.mg X.base nm fld C k) (hm : X.mg nm = some (.ref C)) (hr : Room (k + 1) X.A) (hg : Gl X nm) (ha : PA X [e] ta) (hdb : (nm == ("__debug__" : Str)) = false := by decide) (he : starEach [e] X.env = (false, eval e X.env) :: starEach [] X.env := by rfl) :
    PE X (.Call (.Name nm p) [e] [] pos) (tNewX C (spI K C fld) ta) := by
  subst eK
  obtain ⟨B, newId, initId, bm, fI, fd, T, iC, tI, F1, hb⟩ := I.ex
  exact pe_newX T iC tI F1 hr hb pass0 hg hm ha hdb he
theorem pe_newIK {kws : List Keyword} (eK : X.K = K) (I : IniK X.prog X.w X.K X.mg X.base nm fld C k) (hm : X.mg nm = some (.ref C)) (hr : Room (k + 1) X.A) (hg : Gl X nm) (ha : PK X kws ta) (hall : (backToKw pos (keywordEach kws X.env)).all (·.1.isSome) = true := by rfl)
    (hks : (backToKw pos (keywordEach kws X.env)).filterMap (·.1) = [fld] := by rfl) (hdb : (nm == ("__debug__" : Str)) = false := by decide) (hpl : ((backTo pos (starEach [] X.env)).any (·.1) || (backToKw pos (keywordEach kws X.env)).any (·.1.isNone)) = false := by rfl) : PE X (.Call (.Name nm p) [] kws pos) (tNewX C (spI K C fld) ta) := by
  subst eK
  obtain ⟨B, newId, initId, bm, fI, fd, T, iC, tI, F1, _, hb⟩ := I.ex
  exact pe_newXK T iC tI F1 hr hb pass0 hg hm ha hall hks hdb hpl
theorem pe_newI0 (eK : X.K = K) (I : Ini0 X.prog X.w X.K X.mg X.base nm C k) (hm : X.mg nm = some (.ref C)) (hr : Room (k + 1) X.A) (hg : Gl X nm) (hdb : (nm == ("__debug__" : Str)) = false := by decide) : PE X (.Call (.Name nm p) [] [] pos) (tNewX0 C (spI0 K C)) := by
  subst eK
  obtain ⟨B, newId, initId, bm, fI, fd, T, iC, tI, F1, hb⟩ := I.ex
  exact pe_newX0 T iC tI F1 hr hb pass0 hg hm hdb
end
theorem sql_to {K : PySem.W.Frag} {L L' : Hp} {a : Addr} {xs : List V} (s : Same L L') (h : SqL K L a xs) : SqL K L' a xs := by
  rcases h with (h | ⟨o, h⟩) | h
  · exact .inl (.inl (s _ _ h))
  · exact .inl (.inr ⟨o, s _ _ h⟩)
  · exact .inr h
/-- the script, a list that is read -/
def scrG (K : PySem.W.Frag) (ns : List Int) : Gn := ⟨fun L v => ∃ a, v = .ref a ∧ SqL K L a (ns.map V.int), fun s ⟨a, h1, h2⟩ => ⟨a, h1, sql_to s h2⟩⟩
def dSlG (K : PySem.W.Frag) (f : DTE) (ε : Env) (Q : R → Env → Prop) : Prop := f ε fun r ε1 => ∃ ns : List Int, r = .gen (scrG K ns) ∧ Q (.nw (cutD (ns.map PyData.int) none (some 8))) ε1
theorem dvs_intsX {L : Hp} : ∀ ns : List Int, DVs L (ns.map V.int) (ns.map PyData.int)
  | [] => .nil
  | n :: ns => .cons (.int n) (dvs_intsX ns)
theorem se_slG {w : Wx} {K : PySem.W.Frag} {te : TE} {f : DTE} (hf : SE w te f) : SE w (tSl (rSlB K) te tNoPart (tPart (tC (.int 8)))) (dSlG K f) := by
  constructor
  · intro ε A B h q
    exact hf.mono _ _ _ (fun r ε1 ⟨ns, e, q⟩ => ⟨ns, e, h _ _ q⟩) q
  · intro Z O σ ε L H Q X q
    refine hf.run Z O σ ε L H _ X (hf.mono _ _ _ (fun r ε1 q => ?_) q)
    obtain ⟨ns, rfl, q⟩ := q
    intro v L1 H1 X1 e1 r1
    obtain ⟨a, rfl, h1⟩ := r1
    refine ⟨8, rfl, .inl ⟨a, _, rfl, sql_to X1.lh h1, fun p np => ?_⟩⟩
    have e2 : Ext none L1 H1 L1 (upd H1 p (.lst (cutV (ns.map V.int) none (some 8)))) := Ext.own np
    exact q _ _ _ (X1.step e2 (same_own X1.lh (X1.lh.free np))) (e1.trans e2.any) (VR.back (VR0.vr (r := .nw _) ⟨p, _, rfl, np, X1.lh.free np, upd_same, cut_dv (dvs_intsX ns) _ _⟩ X1) e1)
end Lp

namespace Lp
open PySem PySem.Spec PyProof.Rows L2
def gt (ns : List Int) (i : Int) : Int := ns.getD i.toNat 0
def call1 (ns : List Int) (w : Int) : List Int := ns.set w.toNat (gt ns (gt ns w))
theorem call1_len (ns : List Int) (w : Int) : (call1 ns w).length = ns.length := by unfold call1; rw [List.length_set]
theorem gt_get {ns : List Int} {i : Int} (h0 : 0 ≤ i) (h1 : i < (ns.length : Int)) : ns[i.toNat]? = some (gt ns i) := by
  unfold gt
  have hl : i.toNat < ns.length := by omega
  rw [List.getD_eq_getElem?_getD, List.getElem?_eq_getElem hl]; rfl
theorem gt_low {n : Nat} {ns : List Int} {i : Int} (h : Low n ns) (h0 : 0 ≤ i) (h1 : i < (ns.length : Int)) : 0 ≤ gt ns i ∧ gt ns i < (n : Int) := h.at (gt_get h0 h1)
theorem call1_low {n : Nat} {ns : List Int} {w : Int} (h : Low n ns) (hn : ns.length = n) (h0 : 0 ≤ w) (h1 : w < (n : Int)) : Low n (call1 ns w) := by
  have a := gt_low h h0 (by omega)
  have b := gt_low h a.1 (by omega)
  exact h.set b.1 b.2
theorem Low.take {n : Nat} {ws : List Int} (h : Low n ws) (i : Nat) : Low n (ws.take i) := fun z hz => h z (List.mem_of_mem_take hz)
def itr (ns : List Int) (p : Int) : Nat → Int
  | 0 => p
  | k + 1 => gt ns (itr ns p k)
theorem itr_succ (ns : List Int) (p : Int) : ∀ k, itr ns p (k + 1) = itr ns (gt ns p) k
  | 0 => rfl
  | k + 1 => by
    show gt ns (itr ns p (k + 1)) = gt ns (itr ns (gt ns p) k)
    rw [itr_succ ns p k]
theorem itr_low {ns : List Int} (lo : Low ns.length ns) {p : Int} (h0 : 0 ≤ p) (h1 : p < (ns.length : Int)) : ∀ k, 0 ≤ itr ns p k ∧ itr ns p k < (ns.length : Int)
  | 0 => ⟨h0, h1⟩
  | k + 1 => by
    have ih := itr_low lo h0 h1 k
    exact gt_low lo ih.1 ih.2
def itrs (ns : List Int) (p : Int) (m : Nat) : List Int := (List.range m).map (itr ns p)
theorem itrs_len (ns : List Int) (p : Int) (m : Nat) : (itrs ns p m).length = m := by unfold itrs; rw [List.length_map, List.length_range]
theorem itrs_succ (ns : List Int) (p : Int) (m : Nat) : itrs ns p (m + 1) = itrs ns p m ++ [itr ns p m] := by
  unfold itrs; rw [List.range_succ, List.map_append]; rfl
theorem itrs_get {ns : List Int} {p : Int} {m i : Nat} (h : i < m) : (itrs ns p m)[i]? = some (itr ns p i) := by
  unfold itrs
  rw [List.getElem?_map, List.getElem?_range h]; rfl
theorem itrs_mem {ns : List Int} {p z : Int} {m : Nat} : z ∈ itrs ns p m ↔ ∃ i, i < m ∧ itr ns p i = z := by
  unfold itrs
  rw [List.mem_map]
  constructor
  · rintro ⟨i, hi, e⟩; exact ⟨i, List.mem_range.mp hi, e⟩
  · rintro ⟨i, hi, e⟩; exact ⟨i, List.mem_range.mpr hi, e⟩
/-- rs: the people met from p on, each once -/
def Route (ns : List Int) (p : Int) (rs : List Int) : Prop := ∃ L, rs = itrs ns p L ∧ rs.Nodup ∧ itr ns p L ∈ rs
theorem itrs_apart {ns : List Int} {p : Int} {m i j : Nat} (nd : (itrs ns p m).Nodup) (hi : i < m) (hj : j < m) (e : itr ns p i = itr ns p j) : i = j := by
  have h1 := itrs_get (ns := ns) (p := p) hi
  have h2 := itrs_get (ns := ns) (p := p) hj
  rw [e] at h1
  exact nd_ix nd h1 h2
theorem Route.eq {ns : List Int} {p : Int} {rs rs' : List Int} (a : Route ns p rs) (b : Route ns p rs') : rs = rs' := by
  obtain ⟨L, rfl, n1, m1⟩ := a
  obtain ⟨M, rfl, n2, m2⟩ := b
  obtain ⟨i, hi, ei⟩ := itrs_mem.mp m1
  obtain ⟨j, hj, ej⟩ := itrs_mem.mp m2
  rcases Nat.lt_trichotomy L M with h | h | h
  · exact absurd (itrs_apart n2 (show i < M by omega) h ei) (by omega)
  · rw [h]
  · exact absurd (itrs_apart n1 (show j < L by omega) h ej) (by omega)
theorem Nodup.snoc {l : List Int} {z : Int} (h : l.Nodup) (n : z ∉ l) : (l ++ [z]).Nodup := by
  rw [List.nodup_append]
  refine ⟨h, List.nodup_cons.mpr ⟨List.not_mem_nil, List.nodup_nil⟩, fun a ha b hb => ?_⟩
  rw [List.mem_singleton] at hb
  subst hb
  exact fun e => n (e ▸ ha)
theorem low_len : ∀ (n : Nat) (l : List Int), l.Nodup → Low n l → l.length ≤ n
  | 0, l, _, h => by
    cases l with
    | nil => exact Nat.le_refl 0
    | cons x r => have := h x List.mem_cons_self; omega
  | n + 1, l, nd, h => by
    have h2 := low_len n (l.filter (fun z => decide (z ≠ (n : Int)))) (nd.filter _) fun z hz => by
      have q := List.mem_filter.mp hz
      have := h z q.1
      have := of_decide_eq_true q.2
      omega
    have h3 : l.length ≤ (l.filter (fun z => decide (z ≠ (n : Int)))).length + 1 := by
      clear h h2
      induction l with
      | nil => simp
      | cons x r ih =>
        have nd' := List.nodup_cons.mp nd
        by_cases hx : x = (n : Int)
        · have e : r.filter (fun z => decide (z ≠ (n : Int))) = r := List.filter_eq_self.mpr fun z hz => decide_eq_true fun e => nd'.1 (by rw [hx, ← e]; exact hz)
          rw [List.filter_cons_of_neg (by simp [hx]), e]; exact Nat.le_refl _
        · rw [List.filter_cons_of_pos (by simp [hx]), List.length_cons, List.length_cons]
          have := ih nd'.2
          omega
    omega
/-- behind the first return the pointers go round -/
theorem itr_round {ns : List Int} {p : Int} {b d : Nat} (h : itr ns p (b + d) = itr ns p b) : ∀ t, itr ns p (b + d + t) = itr ns p (b + t)
  | 0 => h
  | t + 1 => by
    show gt ns (itr ns p (b + d + t)) = gt ns (itr ns p (b + t))
    rw [itr_round h t]
theorem itr_mod {ns : List Int} {p : Int} {b d : Nat} (hd : 0 < d) (h : itr ns p (b + d) = itr ns p b) (t : Nat) : itr ns p (b + t) = itr ns p (b + t % d) := by
  induction t using Nat.strongRecOn with
  | ind t ih =>
    by_cases ht : t < d
    · rw [Nat.mod_eq_of_lt ht]
    · have e : t = d + (t - d) := by omega
      have := ih (t - d) (by omega)
      rw [e, ← Nat.add_assoc, itr_round h, this, Nat.add_mod_left]
def routeG (ns : List Int) : Nat → List Int → Int → List Int
  | 0, acc, _ => acc
  | k + 1, acc, at_ => if at_ ∈ acc then acc else routeG ns k (acc ++ [at_]) (gt ns at_)
def routeF (ns : List Int) (p : Int) : List Int := routeG ns (ns.length + 1) [] p
theorem routeG_ok {ns : List Int} (lo : Low ns.length ns) {p : Int} (p0 : 0 ≤ p) (p1 : p < (ns.length : Int)) : ∀ (k L : Nat), (itrs ns p L).Nodup → ns.length < k + L → Route ns p (routeG ns k (itrs ns p L) (itr ns p L))
  | 0, L, nd, h => by
    have := low_len ns.length _ nd fun z hz => by
      obtain ⟨i, _, ei⟩ := itrs_mem.mp hz
      have := itr_low lo p0 p1 i
      omega
    rw [itrs_len] at this
    omega
  | k + 1, L, nd, h => by
    unfold routeG
    by_cases hm : itr ns p L ∈ itrs ns p L
    · rw [if_pos hm]
      exact ⟨L, rfl, nd, hm⟩
    · rw [if_neg hm, ← itrs_succ]
      exact routeG_ok lo p0 p1 k (L + 1) (by rw [itrs_succ]; exact Nodup.snoc nd hm) (by omega)
theorem routeF_ok {ns : List Int} (lo : Low ns.length ns) {p : Int} (p0 : 0 ≤ p) (p1 : p < (ns.length : Int)) : Route ns p (routeF ns p) := routeG_ok lo p0 p1 (ns.length + 1) 0 List.nodup_nil (by omega)
def beginF (ns rs : List Int) : Nat := rs.idxOf (gt ns (rs.getLastD 0))
def minF : List Int → Int
  | [] => 0
  | x :: r => r.foldl (fun a b => if b < a then b else a) x
theorem fold_min : ∀ (r : List Int) (x : Int), (r.foldl (fun a b => if b < a then b else a) x = x ∨ r.foldl (fun a b => if b < a then b else a) x ∈ r) ∧ r.foldl (fun a b => if b < a then b else a) x ≤ x ∧ ∀ y ∈ r, r.foldl (fun a b => if b < a then b else a) x ≤ y
  | [], x => ⟨.inl rfl, Int.le_refl x, fun y h => nomatch h⟩
  | z :: r, x => by
    have ih := fold_min r (if z < x then z else x)
    show (r.foldl _ (if z < x then z else x) = x ∨ _) ∧ _
    refine ⟨?_, ?_, ?_⟩
    · rcases ih.1 with h | h
      · by_cases q : z < x
        · right
          show r.foldl _ (if z < x then z else x) ∈ z :: r
          rw [h, if_pos q]; exact List.mem_cons_self
        · left
          show r.foldl _ (if z < x then z else x) = x
          rw [h, if_neg q]
      · right; exact List.mem_cons_of_mem _ h
    · show r.foldl _ (if z < x then z else x) ≤ x
      have := ih.2.1
      split at this <;> rename_i q
      · rw [if_pos q]; omega
      · rw [if_neg q]; exact this
    · intro y hy
      show r.foldl _ (if z < x then z else x) ≤ y
      rcases List.mem_cons.mp hy with h | h
      · have := ih.2.1
        split at this <;> rename_i q
        · rw [if_pos q, h]; exact this
        · rw [if_neg q, h]; omega
      · exact ih.2.2 y h
theorem minF_ok {ms : List Int} (h : ms ≠ []) : minF ms ∈ ms ∧ ∀ y ∈ ms, minF ms ≤ y := by
  cases ms with
  | nil => exact absurd rfl h
  | cons x r =>
    have := fold_min r x
    refine ⟨?_, fun y hy => ?_⟩
    · rcases this.1 with e | e
      · show r.foldl _ x ∈ x :: r
        rw [e]; exact List.mem_cons_self
      · exact List.mem_cons_of_mem _ e
    · rcases List.mem_cons.mp hy with e | e
      · rw [e]; exact this.2.1
      · exact this.2.2 y e
/-- the list, turned so that its least member is the first -/
def turnF (ms : List Int) : List Int := ms.drop (ms.idxOf (minF ms)) ++ ms.take (ms.idxOf (minF ms))
def ringF (ns : List Int) (p : Int) : List Int := turnF ((routeF ns p).drop (beginF ns (routeF ns p)))
def heightF (ns : List Int) (p : Int) : Nat := beginF ns (routeF ns p)
theorem turnF_ne {ms : List Int} (h : ms ≠ []) : turnF ms ≠ [] := by
  intro e
  have := congrArg List.length e
  unfold turnF at this
  rw [List.length_append, List.length_drop, List.length_take, List.length_nil] at this
  have : ms.length = 0 := by omega
  exact h (List.eq_nil_of_length_eq_zero this)
/-- how a whole route begins its ring -/
theorem begin_at {ns : List Int} {p : Int} {L : Nat} (nd : (itrs ns p L).Nodup) (hin : itr ns p L ∈ itrs ns p L) {b : Nat} (hb : b < L) (eb : itr ns p b = itr ns p L) : beginF ns (itrs ns p L) = b := by
  obtain ⟨M, rfl⟩ : ∃ M, L = M + 1 := ⟨L - 1, by omega⟩
  unfold beginF
  have e : (itrs ns p (M + 1)).getLastD 0 = itr ns p M := by rw [itrs_succ]; simp
  rw [e]
  have hin' : gt ns (itr ns p M) ∈ itrs ns p (M + 1) := hin
  have h1 := idx_get hin'
  have hl := List.idxOf_lt_length_of_mem hin'
  rw [itrs_len] at hl
  rw [itrs_get hl] at h1
  exact itrs_apart nd hl hb ((Option.some.inj h1).trans eb.symm)
theorem lex_uniq : ∀ (a b : List (List Int)), a.Nodup → b.Nodup → a.Pairwise (fun x y => HT.lexLt y x = false) → b.Pairwise (fun x y => HT.lexLt y x = false) → (∀ k, k ∈ a ↔ k ∈ b) → a = b
  | [], [], _, _, _, _, _ => rfl
  | [], y :: _, _, _, _, _, h => nomatch (h y).mpr List.mem_cons_self
  | x :: _, [], _, _, _, _, h => nomatch (h x).mp List.mem_cons_self
  | x :: a, y :: b, na, nb, pa, pb, h => by
    have qa := List.pairwise_cons.mp pa
    have qb := List.pairwise_cons.mp pb
    have ra := List.nodup_cons.mp na
    have rb := List.nodup_cons.mp nb
    have e : x = y := by
      rcases List.mem_cons.mp ((h x).mp List.mem_cons_self) with e | e
      · exact e
      · rcases List.mem_cons.mp ((h y).mpr List.mem_cons_self) with e2 | e2
        · exact e2.symm
        · exact lex_eq x y (qb.1 x e) (qa.1 y e2)
    subst e
    have h2 : ∀ k, k ∈ a ↔ k ∈ b := fun k => by
      constructor
      · intro hk
        rcases List.mem_cons.mp ((h k).mp (List.mem_cons_of_mem _ hk)) with z | z
        · exact absurd (z ▸ hk) ra.1
        · exact z
      · intro hk
        rcases List.mem_cons.mp ((h k).mpr (List.mem_cons_of_mem _ hk)) with z | z
        · exact absurd (z ▸ hk) rb.1
        · exact z
    rw [lex_uniq a b ra.2 rb.2 qa.2 qb.2 h2]
/-- RS: all rings, ascending -/
def RingsOf (ns : List Int) (RS : List (List Int)) : Prop := RS.Nodup ∧ RS.Pairwise (fun x y => HT.lexLt y x = false) ∧ ∀ k, k ∈ RS ↔ ∃ j : Nat, j < ns.length ∧ ringF ns (j : Int) = k
theorem RingsOf.eq {ns : List Int} {a b : List (List Int)} (x : RingsOf ns a) (y : RingsOf ns b) : a = b := lex_uniq a b x.1 y.1 x.2.1 y.2.1 fun k => (x.2.2 k).trans (y.2.2 k).symm

theorem itr_add (ns : List Int) (p : Int) (a : Nat) : ∀ b, itr ns p (a + b) = itr ns (itr ns p a) b
  | 0 => rfl
  | b + 1 => congrArg (gt ns) (itr_add ns p a b)
theorem itrs_cat (ns : List Int) (p : Int) (a : Nat) : ∀ b, itrs ns p (a + b) = itrs ns p a ++ itrs ns (itr ns p a) b
  | 0 => (List.append_nil _).symm
  | b + 1 => by
    rw [← Nat.add_assoc, itrs_succ, itrs_cat ns p a b, itrs_succ, itr_add, List.append_assoc]
def Cyc (ns : List Int) (q : Int) (c : Nat) : Prop := 0 < c ∧ itr ns q c = q ∧ (itrs ns q c).Nodup
theorem Cyc.cut {ns : List Int} {q : Int} {c j : Nat} (h : j ≤ c) : (itrs ns q c).drop j = itrs ns (itr ns q j) (c - j) ∧ (itrs ns q c).take j = itrs ns q j := by
  obtain ⟨d, rfl⟩ : ∃ d, c = j + d := ⟨c - j, by omega⟩
  rw [itrs_cat, Nat.add_sub_cancel_left]
  have l := itrs_len ns q j
  constructor
  · conv => lhs; arg 1; rw [← l]
    rw [List.drop_left]
  · conv => lhs; arg 1; rw [← l]
    rw [List.take_left]
theorem Cyc.turn {ns : List Int} {q : Int} {c j : Nat} (x : Cyc ns q c) (h : j ≤ c) : itrs ns (itr ns q j) c = (itrs ns q c).drop j ++ (itrs ns q c).take j := by
  rw [(Cyc.cut h).1, (Cyc.cut h).2]
  have e : itrs ns (itr ns q j) c = itrs ns (itr ns q j) ((c - j) + j) := by congr 1; omega
  rw [e, itrs_cat, ← itr_add]
  have e2 : j + (c - j) = c := by omega
  rw [e2, x.2.1]
theorem Cyc.all {ns : List Int} {q : Int} {c : Nat} (x : Cyc ns q c) (t : Nat) : itr ns q t ∈ itrs ns q c := by
  have := itr_mod (ns := ns) (p := q) (b := 0) (d := c) x.1 (by rw [Nat.zero_add]; exact x.2.1) t
  rw [Nat.zero_add, Nat.zero_add] at this
  rw [this]
  exact itrs_mem.mpr ⟨t % c, Nat.mod_lt _ x.1, rfl⟩
theorem Cyc.at {ns : List Int} {q z : Int} {c : Nat} (x : Cyc ns q c) (h : z ∈ itrs ns q c) : Cyc ns z c ∧ ∀ y, y ∈ itrs ns z c ↔ y ∈ itrs ns q c := by
  obtain ⟨j, hj, rfl⟩ := itrs_mem.mp h
  have t := x.turn (j := j) (by omega)
  have pm : (itrs ns (itr ns q j) c).Perm (itrs ns q c) := by
    rw [t]
    have := List.perm_append_comm (l₁ := (itrs ns q c).drop j) (l₂ := (itrs ns q c).take j)
    rw [List.take_append_drop] at this
    exact this
  refine ⟨⟨x.1, ?_, pm.nodup_iff.mpr x.2.2⟩, fun y => pm.mem_iff⟩
  rw [← itr_add, Nat.add_comm, itr_add, x.2.1]
theorem Cyc.uniq {ns : List Int} {z : Int} {c d : Nat} (x : Cyc ns z c) (y : Cyc ns z d) : c = d := by
  rcases Nat.lt_trichotomy c d with h | h | h
  · have := itrs_apart y.2.2 (i := 0) (j := c) y.1 h x.2.1.symm
    have := x.1; omega
  · exact h
  · have := itrs_apart x.2.2 (i := 0) (j := d) x.1 h y.2.1.symm
    have := y.1; omega
theorem itrs_ne {ns : List Int} {q : Int} {c : Nat} (h : 0 < c) : itrs ns q c ≠ [] := fun e => by
  have := itrs_len ns q c
  rw [e] at this
  simp at this; omega
theorem Cyc.turnF {ns : List Int} {q : Int} {c : Nat} (x : Cyc ns q c) : turnF (itrs ns q c) = itrs ns (minF (itrs ns q c)) c := by
  have m := minF_ok (itrs_ne (ns := ns) (q := q) x.1)
  have il := List.idxOf_lt_length_of_mem m.1
  have g := idx_get m.1
  unfold Lp.turnF
  generalize hj : (itrs ns q c).idxOf (minF (itrs ns q c)) = j at il g
  rw [itrs_len] at il
  rw [itrs_get il] at g
  rw [← Option.some.inj g, x.turn (by omega)]
theorem Cyc.same {ns : List Int} {q r z : Int} {c d : Nat} (x : Cyc ns q c) (y : Cyc ns r d) (h1 : z ∈ itrs ns q c) (h2 : z ∈ itrs ns r d) : Lp.turnF (itrs ns q c) = Lp.turnF (itrs ns r d) := by
  have a := x.at h1
  have b := y.at h2
  have e := a.1.uniq b.1
  subst e
  rw [x.turnF, y.turnF]
  have m1 := minF_ok (itrs_ne (ns := ns) (q := q) x.1)
  have m2 := minF_ok (itrs_ne (ns := ns) (q := r) x.1)
  have := m1.2 _ ((a.2 _).mp ((b.2 _).mpr m2.1))
  have := m2.2 _ ((b.2 _).mp ((a.2 _).mpr m1.1))
  have e : minF (itrs ns q c) = minF (itrs ns r c) := by omega
  rw [e]
theorem ringF_cyc {ns : List Int} (lo : Low ns.length ns) {p : Int} (p0 : 0 ≤ p) (p1 : p < (ns.length : Int)) : ∃ c, Cyc ns (itr ns p (heightF ns p)) c ∧ ringF ns p = turnF (itrs ns (itr ns p (heightF ns p)) c) ∧ routeF ns p = itrs ns p (heightF ns p + c) := by
  have rt := routeF_ok lo p0 p1
  obtain ⟨L, hrs, nd, hin⟩ := id rt
  rw [hrs] at nd hin
  obtain ⟨b, hb, eb⟩ := itrs_mem.mp hin
  have e := begin_at nd hin hb eb
  have eh : heightF ns p = b := by unfold heightF; rw [hrs]; exact e
  have ct := Cyc.cut (ns := ns) (q := p) (c := L) (j := b) (by omega)
  rw [eh]
  refine ⟨L - b, ⟨by omega, ?_, ?_⟩, ?_, ?_⟩
  · rw [← itr_add]
    have : b + (L - b) = L := by omega
    rw [this, eb]
  · rw [← ct.1]
    exact nd.sublist (List.drop_sublist b _)
  · unfold ringF
    rw [hrs, e, ct.1]
  · rw [hrs]; congr 1; omega
theorem ringF_step {ns : List Int} (lo : Low ns.length ns) {p : Int} (p0 : 0 ≤ p) (p1 : p < (ns.length : Int)) : ringF ns (gt ns p) = ringF ns p := by
  have g := gt_low lo p0 (by omega)
  obtain ⟨c, x, e, _⟩ := ringF_cyc lo p0 p1
  obtain ⟨d, y, e2, _⟩ := ringF_cyc lo g.1 g.2
  rw [e, e2]
  refine y.same x (z := itr ns p (heightF ns p + (heightF ns (gt ns p) + 1))) ?_ ?_
  · have : heightF ns p + (heightF ns (gt ns p) + 1) = (heightF ns (gt ns p) + heightF ns p) + 1 := by omega
    rw [this, itr_succ, itr_add]
    exact y.all _
  · rw [itr_add]
    exact x.all _
theorem ringF_itr {ns : List Int} (lo : Low ns.length ns) {p : Int} (p0 : 0 ≤ p) (p1 : p < (ns.length : Int)) : ∀ k, ringF ns (itr ns p k) = ringF ns p
  | 0 => rfl
  | k + 1 => by
    have l := itr_low lo p0 p1 k
    show ringF ns (gt ns (itr ns p k)) = _
    rw [ringF_step lo l.1 l.2, ringF_itr lo p0 p1 k]
/-- a ring: its least member first, each member pointing at the next one -/
theorem ringF_form {ns : List Int} (lo : Low ns.length ns) {p : Int} (p0 : 0 ≤ p) (p1 : p < (ns.length : Int)) : ∃ m c, ringF ns p = itrs ns m c ∧ Cyc ns m c ∧ (∀ y ∈ ringF ns p, m ≤ y) ∧ 0 ≤ m ∧ m < (ns.length : Int) := by
  obtain ⟨c, x, e, _⟩ := ringF_cyc lo p0 p1
  have m := minF_ok (itrs_ne (ns := ns) (q := itr ns p (heightF ns p)) x.1)
  have a := x.at m.1
  have l := itr_low lo p0 p1 (heightF ns p)
  refine ⟨_, c, e.trans x.turnF, a.1, fun y hy => ?_, ?_⟩
  · rw [e, x.turnF] at hy
    exact m.2 y ((a.2 y).mp hy)
  · obtain ⟨i, _, ei⟩ := itrs_mem.mp m.1
    rw [← ei]
    exact itr_low lo l.1 l.2 i

def headF (ns : List Int) (p : Int) : Int := (ringF ns p).headD 0
theorem headF_form {ns : List Int} (lo : Low ns.length ns) {p : Int} (p0 : 0 ≤ p) (p1 : p < (ns.length : Int)) : ∃ c, ringF ns p = itrs ns (headF ns p) c ∧ Cyc ns (headF ns p) c ∧ 0 ≤ headF ns p ∧ headF ns p < (ns.length : Int) := by
  obtain ⟨m, c, e, cy, _, m0, m1⟩ := ringF_form lo p0 p1
  have em : headF ns p = m := by
    unfold headF
    obtain ⟨d, rfl⟩ : ∃ d, c = 1 + d := ⟨c - 1, by have := cy.1; omega⟩
    rw [e, itrs_cat]; rfl
  rw [em]
  exact ⟨c, e, cy, m0, m1⟩
theorem head_iff {ns : List Int} (lo : Low ns.length ns) {p q : Int} (p0 : 0 ≤ p) (p1 : p < (ns.length : Int)) (q0 : 0 ≤ q) (q1 : q < (ns.length : Int)) : headF ns p = headF ns q ↔ ringF ns p = ringF ns q := by
  constructor
  · intro e
    obtain ⟨c, e1, cy, _⟩ := headF_form lo p0 p1
    obtain ⟨d, e2, dy, _⟩ := headF_form lo q0 q1
    rw [e] at e1 cy
    rw [e1, e2, cy.uniq dy]
  · intro e
    unfold headF
    rw [e]
/-- the people below i whose ring begins with m -/
def compH (ns : List Int) (m : Int) (i : Nat) : List Int := ((List.range i).filter fun j : Nat => decide (headF ns (j : Int) = m)).map Int.ofNat
theorem compH_mem {ns : List Int} {m z : Int} {i : Nat} : z ∈ compH ns m i ↔ ∃ j : Nat, j < i ∧ headF ns (j : Int) = m ∧ z = (j : Int) := by
  unfold compH
  rw [List.mem_map]
  constructor
  · rintro ⟨j, hj, e⟩
    have q := List.mem_filter.mp hj
    exact ⟨j, List.mem_range.mp q.1, of_decide_eq_true q.2, e.symm⟩
  · rintro ⟨j, hj, e, rfl⟩
    exact ⟨j, List.mem_filter.mpr ⟨List.mem_range.mpr hj, decide_eq_true e⟩, rfl⟩
def compF (ns : List Int) (p : Int) : List Int := compH ns (headF ns p) ns.length
def CompsOf (ns : List Int) (CS : List (List Int)) : Prop := CS.Nodup ∧ CS.Pairwise (fun x y => HT.lexLt y x = false) ∧ ∀ k, k ∈ CS ↔ ∃ j : Nat, j < ns.length ∧ compF ns (j : Int) = k
theorem CompsOf.eq {ns : List Int} {a b : List (List Int)} (x : CompsOf ns a) (y : CompsOf ns b) : a = b := lex_uniq a b x.1 y.1 x.2.1 y.2.1 fun k => (x.2.2 k).trans (y.2.2 k).symm
theorem nd_subG {α : Type} [DecidableEq α] : ∀ (a b : List α), a.Nodup → (∀ x ∈ a, x ∈ b) → a.length ≤ b.length
  | [], b, _, _ => Nat.zero_le _
  | x :: a, b, nd, h => by
    have q := List.nodup_cons.mp nd
    have xb := h x List.mem_cons_self
    have := nd_subG a (b.erase x) q.2 fun y hy => (List.mem_erase_of_ne (fun e : y = x => q.1 (by rw [← e]; exact hy))).mpr (h y (List.mem_cons_of_mem _ hy))
    rw [List.length_erase_of_mem xb] at this
    have := List.length_pos_of_mem xb
    rw [List.length_cons]; omega
theorem CompsOf.len {ns : List Int} {CS : List (List Int)} (h : CompsOf ns CS) : CS.length ≤ ns.length := by
  have := nd_subG CS ((List.range ns.length).map fun j : Nat => compF ns (j : Int)) h.1 fun x hx => by
    obtain ⟨j, hj, e⟩ := (h.2.2 x).mp hx
    exact List.mem_map.mpr ⟨j, List.mem_range.mpr hj, e⟩
  rw [List.length_map, List.length_range] at this
  exact this
/-- together they hold everybody once -/
theorem CompsOf.sum {ns : List Int} {CS : List (List Int)} (h : CompsOf ns CS) : (CS.map List.length).sum = ns.length := by
  rw [← List.length_flatten]
  have nd : CS.flatten.Nodup := by
    refine List.pairwise_flatten.mpr ⟨fun l hl => ?_, List.Pairwise.imp_of_mem (fun {a b} ha hb ne x hx y hy e => ?_) h.1⟩
    · obtain ⟨j, _, e⟩ := (h.2.2 l).mp hl
      rw [← e]
      refine List.pairwise_map.mpr (List.Pairwise.imp (fun {a b} ne e => ne (Int.ofNat.inj e)) (List.Pairwise.filter _ List.nodup_range))
    · subst e
      obtain ⟨i, _, ei⟩ := (h.2.2 a).mp ha
      obtain ⟨j, _, ej⟩ := (h.2.2 b).mp hb
      rw [← ei] at hx
      rw [← ej] at hy
      obtain ⟨u, _, h1, e1⟩ := compH_mem.mp hx
      obtain ⟨v, _, h2, e2⟩ := compH_mem.mp hy
      have : u = v := by omega
      subst this
      refine ne ?_
      rw [← ei, ← ej]
      unfold compF
      rw [← h1, h2]
  refine Nat.le_antisymm (low_len _ _ nd fun z hz => ?_) ?_
  · obtain ⟨l, hl, hz⟩ := List.mem_flatten.mp hz
    obtain ⟨j, _, e⟩ := (h.2.2 l).mp hl
    rw [← e] at hz
    obtain ⟨u, hu, _, eu⟩ := compH_mem.mp hz
    omega
  · have := nd_subG ((List.range ns.length).map Int.ofNat) CS.flatten (List.pairwise_map.mpr (List.Pairwise.imp (fun {a b} ne e => ne (Int.ofNat.inj e)) List.nodup_range)) fun x hx => by
      obtain ⟨j, hj, e⟩ := List.mem_map.mp hx
      have hj' := List.mem_range.mp hj
      refine List.mem_flatten.mpr ⟨compF ns (j : Int), (h.2.2 _).mpr ⟨j, hj', rfl⟩, ?_⟩
      exact compH_mem.mpr ⟨j, hj', rfl, e.symm⟩
    rw [List.length_map, List.length_range] at this
    exact this
theorem gt_callN {ns : List Int} {w p : Int} (w0 : 0 ≤ w) (w1 : w < (ns.length : Int)) (p0 : 0 ≤ p) : gt (call1 ns w) p = if p = w then gt ns (gt ns w) else gt ns p := by
  show (ns.set w.toNat (gt ns (gt ns w))).getD p.toNat 0 = if p = w then _ else ns.getD p.toNat 0
  rw [List.getD_eq_getElem?_getD, List.getD_eq_getElem?_getD, List.getElem?_set]
  by_cases h : p = w
  · subst h
    rw [if_pos rfl, if_pos rfl, if_pos (by omega)]; rfl
  · rw [if_neg h, if_neg (by omega)]
section
variable {ns : List Int} (lo : Low ns.length ns) {w : Int} (w0 : 0 ≤ w) (w1 : w < (ns.length : Int))
include lo w0 w1
theorem low_call : Low (call1 ns w).length (call1 ns w) := by
  rw [call1_len]; exact call1_low lo rfl w0 w1
/-- a step behind the call is one or two steps ahead of it -/
theorem itr_call {p : Int} (p0 : 0 ≤ p) (p1 : p < (ns.length : Int)) : ∀ k, ∃ k', k ≤ k' ∧ itr (call1 ns w) p k = itr ns p k'
  | 0 => ⟨0, Nat.le_refl _, rfl⟩
  | k + 1 => by
    obtain ⟨k', hk, e⟩ := itr_call p0 p1 k
    have l := itr_low lo p0 p1 k'
    have g := gt_callN w0 w1 l.1 (ns := ns)
    have e2 : itr (call1 ns w) p (k + 1) = gt (call1 ns w) (itr ns p k') := congrArg (gt (call1 ns w)) e
    by_cases z : itr ns p k' = w
    · refine ⟨k' + 2, by omega, ?_⟩
      rw [e2, g, if_pos z, ← z]; rfl
    · refine ⟨k' + 1, by omega, ?_⟩
      rw [e2, g, if_neg z]; rfl
theorem ring_stepC {p : Int} (p0 : 0 ≤ p) (p1 : p < (ns.length : Int)) : ringF (call1 ns w) (gt ns p) = ringF (call1 ns w) p := by
  have lc := low_call lo w0 w1
  have len : (call1 ns w).length = ns.length := call1_len _ _
  have g := gt_low lo p0 p1
  by_cases z : p = w
  · subst z
    by_cases y : gt ns p = p
    · rw [y]
    · have s1 := ringF_step lc (p := p) p0 (by rw [len]; exact p1)
      have s2 := ringF_step lc (p := gt ns p) g.1 (by rw [len]; exact g.2)
      rw [gt_callN w0 w1 p0, if_pos rfl] at s1
      rw [gt_callN w0 w1 g.1, if_neg y] at s2
      rw [← s2, s1]
  · have s1 := ringF_step lc (p := p) p0 (by rw [len]; exact p1)
    rw [gt_callN w0 w1 p0, if_neg z] at s1
    exact s1
theorem ring_itrC {p : Int} (p0 : 0 ≤ p) (p1 : p < (ns.length : Int)) : ∀ k, ringF (call1 ns w) (itr ns p k) = ringF (call1 ns w) p
  | 0 => rfl
  | k + 1 => by
    have l := itr_low lo p0 p1 k
    show ringF (call1 ns w) (gt ns (itr ns p k)) = _
    rw [ring_stepC lo w0 w1 l.1 l.2, ring_itrC p0 p1 k]
end
theorem ring_itr {ns : List Int} (lo : Low ns.length ns) {p m : Int} (p0 : 0 ≤ p) (p1 : p < (ns.length : Int)) (h : m ∈ ringF ns p) : ∃ s, itr ns p s = m := by
  obtain ⟨c, x, e, _⟩ := ringF_cyc lo p0 p1
  rw [e, x.turnF] at h
  have mm := minF_ok (itrs_ne (ns := ns) (q := itr ns p (heightF ns p)) x.1)
  obtain ⟨i, _, ei⟩ := itrs_mem.mp (((x.at mm.1).2 m).mp h)
  exact ⟨heightF ns p + i, by rw [itr_add]; exact ei⟩
theorem meet_iff {ns : List Int} (lo : Low ns.length ns) {p r : Int} (p0 : 0 ≤ p) (p1 : p < (ns.length : Int)) (r0 : 0 ≤ r) (r1 : r < (ns.length : Int)) : ringF ns p = ringF ns r ↔ ∃ s t, itr ns p s = itr ns r t := by
  constructor
  · intro e
    obtain ⟨m, c, e1, cy, _⟩ := ringF_form lo p0 p1
    have hm : m ∈ ringF ns p := by rw [e1]; exact itrs_mem.mpr ⟨0, cy.1, rfl⟩
    obtain ⟨s, es⟩ := ring_itr lo p0 p1 hm
    obtain ⟨t, et⟩ := ring_itr lo r0 r1 (e ▸ hm)
    exact ⟨s, t, es.trans et.symm⟩
  · rintro ⟨s, t, e⟩
    rw [← ringF_itr lo p0 p1 s, ← ringF_itr lo r0 r1 t, e]
theorem ring_call {ns : List Int} (lo : Low ns.length ns) {w p r : Int} (w0 : 0 ≤ w) (w1 : w < (ns.length : Int)) (p0 : 0 ≤ p) (p1 : p < (ns.length : Int)) (r0 : 0 ≤ r) (r1 : r < (ns.length : Int)) : ringF ns p = ringF ns r ↔ ringF (call1 ns w) p = ringF (call1 ns w) r := by
  have lc := low_call lo w0 w1
  have len : (call1 ns w).length = ns.length := call1_len _ _
  constructor
  · intro e
    obtain ⟨s, t, e⟩ := (meet_iff lo p0 p1 r0 r1).mp e
    rw [← ring_itrC lo w0 w1 p0 p1 s, ← ring_itrC lo w0 w1 r0 r1 t, e]
  · intro e
    obtain ⟨s, t, e⟩ := (meet_iff lc p0 (by rw [len]; exact p1) r0 (by rw [len]; exact r1)).mp e
    obtain ⟨s', _, es⟩ := itr_call lo w0 w1 p0 p1 s
    obtain ⟨t', _, et⟩ := itr_call lo w0 w1 r0 r1 t
    exact (meet_iff lo p0 p1 r0 r1).mpr ⟨s', t', by rw [← es, ← et]; exact e⟩
theorem comp_call {ns : List Int} (lo : Low ns.length ns) {w : Int} (w0 : 0 ≤ w) (w1 : w < (ns.length : Int)) {p : Nat} (hp : p < ns.length) : compF (call1 ns w) (p : Int) = compF ns (p : Int) := by
  have lc := low_call lo w0 w1
  have len : (call1 ns w).length = ns.length := call1_len _ _
  unfold compF compH
  rw [len]
  congr 1
  refine List.filter_congr fun j hj => ?_
  have hj' := List.mem_range.mp hj
  have a := head_iff lo (p := (j : Int)) (q := (p : Int)) (by omega) (by omega) (by omega) (by omega)
  have b := head_iff lc (p := (j : Int)) (q := (p : Int)) (by omega) (by omega) (by omega) (by omega)
  have c := ring_call lo w0 w1 (p := (j : Int)) (r := (p : Int)) (by omega) (by omega) (by omega) (by omega)
  by_cases z : headF ns (j : Int) = headF ns (p : Int)
  · rw [decide_eq_true z, decide_eq_true (b.mpr (c.mp (a.mp z)))]
  · rw [decide_eq_false z, decide_eq_false (fun y => z (a.mpr (c.mpr (b.mp y))))]
theorem CompsOf.call {ns : List Int} (lo : Low ns.length ns) {w : Int} (w0 : 0 ≤ w) (w1 : w < (ns.length : Int)) {CS : List (List Int)} (h : CompsOf ns CS) : CompsOf (call1 ns w) CS := by
  refine ⟨h.1, h.2.1, fun k => (h.2.2 k).trans ?_⟩
  rw [call1_len]
  constructor
  · rintro ⟨j, hj, e⟩; exact ⟨j, hj, (comp_call lo w0 w1 hj).trans e⟩
  · rintro ⟨j, hj, e⟩; exact ⟨j, hj, (comp_call lo w0 w1 hj).symm.trans e⟩
end Lp

namespace Lp
open PySem PySem.Spec PyProof.Rows L2
def gv (i : Nat) (o : Option SV) (ε : Env) (Q : R → Env → Prop) : Prop := match o with
  | some (.sh d) => Q (.sh d) ε
  | some (.ow ds) => Q (.br i ds) ε
  | some .bx => Q .bx ε
  | some (.raw v) => Q (.raw v) ε
  | some (.st S n) => Q (.sr i S n) ε
  | some (.exn x) => Q (.exn x) ε
  | some (.dco xs) => Q (.dbr i xs) ε
  | some (.sto M) => Q (.srt i M) ε
  | some (.dsh xs) => Q (.dsh xs) ε
  | some (.gen g) => Q (.gen g) ε
  | _ => False
theorem dVar_ (i : Nat) (ε : Env) (Q : R → Env → Prop) : dVar i ε Q = gv i ε.s[i]? ε Q := rfl
section
variable (i : Nat) (ε : Env) (Q : R → Env → Prop)
theorem gv_sh (d : PyData) : gv i (some (.sh d)) ε Q = Q (.sh d) ε := rfl
theorem gv_ow (ds : List PyData) : gv i (some (.ow ds)) ε Q = Q (.br i ds) ε := rfl
theorem gv_bx : gv i (some .bx) ε Q = Q .bx ε := rfl
theorem gv_raw (v : V) : gv i (some (.raw v)) ε Q = Q (.raw v) ε := rfl
theorem gv_gen (g : Gn) : gv i (some (.gen g)) ε Q = Q (.gen g) ε := rfl
theorem gv_exn (x : Xn) : gv i (some (.exn x)) ε Q = Q (.exn x) ε := rfl
theorem gv_st (S : Int → Bool) (n : Nat) : gv i (some (.st S n)) ε Q = Q (.sr i S n) ε := rfl
end
def ga (F : DSp) (o : Option (List SV)) (b : Bool) (ε : Env) (Q : R → Env → Prop) : Prop := match o with
  | some args => F args ε.c fun r c => match b with
    | true => immR r = true ∧ Q r ⟨ε.s, c⟩
    | false => Q r ⟨ε.s, c⟩
  | none => False
theorem dArgs_ (F : DSp) (rs : List R) (ε : Env) (Q : R → Env → Prop) : dArgs F rs ε Q = ga F (argsOf rs) (hasBr rs) ε Q := rfl
theorem ga_f (F : DSp) (args : List SV) (ε : Env) (Q : R → Env → Prop) : ga F (some args) false ε Q = F args ε.c fun r c => Q r ⟨ε.s, c⟩ := rfl
theorem ga_t (F : DSp) (args : List SV) (ε : Env) (Q : R → Env → Prop) : ga F (some args) true ε Q = F args ε.c fun r c => immR r = true ∧ Q r ⟨ε.s, c⟩ := rfl
def gi (r : R) (ε : Env) (Q : List PyData → Bool → Env → Prop) : Prop := match r with
  | .sh (.list ds) => Q ds true ε
  | .sh (.tuple ds) => Q ds true ε
  | .br _ ds => Q ds false ε
  | _ => False
theorem dIter_ (f : DTE) (ε : Env) (Q : List PyData → Bool → Env → Prop) : dIter f ε Q = f ε fun r ε1 => gi r.pub ε1 Q := rfl
theorem gi_l (ds : List PyData) (ε : Env) (Q : List PyData → Bool → Env → Prop) : gi (.sh (.list ds)) ε Q = Q ds true ε := rfl
theorem gi_t (ds : List PyData) (ε : Env) (Q : List PyData → Bool → Env → Prop) : gi (.sh (.tuple ds)) ε Q = Q ds true ε := rfl
theorem gi_b (i : Nat) (ds : List PyData) (ε : Env) (Q : List PyData → Bool → Env → Prop) : gi (.br i ds) ε Q = Q ds false ε := rfl
section
variable (Q : R → Prop)
theorem add_i (i j : Int) : φAdd (.int i) (.int j) Q = Q (.sh (.int (i + j))) := rfl
theorem add_l (a b : List PyData) : φAdd (.list a) (.list b) Q = (a.length + b.length ≤ sizeLine ∧ Q (.nw (a ++ b))) := rfl
theorem add_t (a b : List PyData) : φAdd (.tuple a) (.tuple b) Q = (a.length + b.length ≤ sizeLine ∧ Q (.sh (.tuple (a ++ b)))) := rfl
theorem mul_i (i j : Int) : φMul (.int i) (.int j) Q = (CMulW i j ∧ Q (.sh (.int (i * j)))) := rfl
theorem mul_l (a : List PyData) (k : Int) : φMul (.list a) (.int k) Q = ((-(2 ^ 63) ≤ k ∧ k < 2 ^ 63 ∧ a.length * k.toNat ≤ sizeLine) ∧ Q (.nw (List.replicate k.toNat a).flatten)) := rfl
theorem sl_l (ds : List PyData) (l h : Option Int) : φSl (.list ds) l h Q = Q (.nw (cutD ds l h)) := rfl
theorem sl_t (ds : List PyData) (l h : Option Int) : φSl (.tuple ds) l h Q = Q (.sh (.tuple (cutD ds l h))) := rfl
theorem eq_i (n : Bool) (i j : Int) : φEq n (.int i) (.int j) Q = Q (.sh (.bool (if n then !decide (i = j) else decide (i = j)))) := rfl
theorem eq_s (n : Bool) (i j : Str) : φEq n (.str i) (.str j) Q = Q (.sh (.bool (if n then !decide (i = j) else decide (i = j)))) := rfl
theorem eq_l (n : Bool) (a b : List PyData) : φEq n (.list a) (.list b) Q = ((SeqAt.shaped (.list a) = true ∧ SeqAt.shaped (.list b) = true) ∧ Q (.sh (.bool (if n then !PyData.eqv (.list a) (.list b) else PyData.eqv (.list a) (.list b))))) := rfl
theorem eq_t (n : Bool) (a b : List PyData) : φEq n (.tuple a) (.tuple b) Q = ((SeqAt.shaped (.tuple a) = true ∧ SeqAt.shaped (.tuple b) = true) ∧ Q (.sh (.bool (if n then !PyData.eqv (.tuple a) (.tuple b) else PyData.eqv (.tuple a) (.tuple b))))) := rfl
theorem eq_b (n : Bool) (a b : Bool) : φEq n (.bool a) (.bool b) Q = ((SeqAt.shaped (.bool a) = true ∧ SeqAt.shaped (.bool b) = true) ∧ Q (.sh (.bool (if n then !PyData.eqv (.bool a) (.bool b) else PyData.eqv (.bool a) (.bool b))))) := rfl
theorem eq_n (n : Bool) : φEq n .none .none Q = ((SeqAt.shaped .none = true ∧ SeqAt.shaped .none = true) ∧ Q (.sh (.bool (if n then !PyData.eqv .none .none else PyData.eqv .none .none)))) := rfl
end
end Lp

namespace Lp
open PySem PySem.Spec PyProof.Rows L2
theorem its_l (ds : List PyData) : PyData.its (.list ds) = some ds := rfl
theorem its_t (ds : List PyData) : PyData.its (.tuple ds) = some ds := rfl
theorem isN_n : isN .none = true := rfl
theorem isN_b (b : Bool) : isN (.bool b) = false := rfl
theorem isN_i (z : Int) : isN (.int z) = false := rfl
theorem isN_s (x : Str) : isN (.str x) = false := rfl
theorem isN_l (ds : List PyData) : isN (.list ds) = false := rfl
theorem isN_t (ds : List PyData) : isN (.tuple ds) = false := rfl
theorem rd_sh (d : PyData) : R.dat (.sh d) = some d := rfl
theorem rd_nw (ds : List PyData) : R.dat (.nw ds) = some (.list ds) := rfl
theorem rd_br (i : Nat) (ds : List PyData) : R.dat (.br i ds) = some (.list ds) := rfl
theorem rp_sh (d : PyData) : R.pub (.sh d) = .sh d := rfl
theorem rp_nw (ds : List PyData) : R.pub (.nw ds) = .sh (.list ds) := rfl
theorem rp_br (i : Nat) (ds : List PyData) : R.pub (.br i ds) = .br i ds := rfl
theorem rp_bx : R.pub .bx = .bx := rfl
theorem rp_raw (v : V) : R.pub (.raw v) = .raw v := rfl
theorem rp_sr (i : Nat) (S : Int → Bool) (n : Nat) : R.pub (.sr i S n) = .sr i S n := rfl
theorem rr_sh (d : PyData) : R.ret (.sh d) = some (.sh d) := rfl
theorem rr_nw (ds : List PyData) : R.ret (.nw ds) = some (.nw ds) := rfl
theorem rr_br (i : Nat) (ds : List PyData) : R.ret (.br i ds) = some (.nw ds) := rfl
theorem ra_sh (d : PyData) : R.arg (.sh d) = some (.sh d) := rfl
theorem ra_br (i : Nat) (ds : List PyData) : R.arg (.br i ds) = some (.sh (.list ds)) := rfl
theorem ra_bx : R.arg .bx = some .bx := rfl
theorem ra_raw (v : V) : R.arg (.raw v) = some (.raw v) := rfl
theorem va_sh (o : Bool) (d : PyData) : val o (.sh d) = some (.sh d) := rfl
theorem va_nt (ds : List PyData) : val true (.nw ds) = some (.ow ds) := rfl
theorem va_nf (ds : List PyData) : val false (.nw ds) = some (.sh (.list ds)) := rfl
theorem va_raw (o : Bool) (v : V) : val o (.raw v) = some (.raw v) := rfl
theorem hb_n : hasBr [] = false := rfl
theorem hb_sh (d : PyData) (rs : List R) : hasBr (.sh d :: rs) = hasBr rs := rfl
theorem hb_bx (rs : List R) : hasBr (.bx :: rs) = hasBr rs := rfl
theorem hb_raw (v : V) (rs : List R) : hasBr (.raw v :: rs) = hasBr rs := rfl
theorem hb_br (i : Nat) (ds : List PyData) (rs : List R) : hasBr (.br i ds :: rs) = true := rfl
theorem sh_n : shs [] = some [] := rfl
theorem sh_c (d : PyData) (rs : List R) : shs (.sh d :: rs) = match shs rs with
    | some ds => some (d :: ds)
    | none => none := rfl
theorem tr_n : truD .none = some false := rfl
theorem tr_b (b : Bool) : truD (.bool b) = some b := rfl
theorem tr_i (z : Int) : truD (.int z) = some (z != 0) := rfl
theorem tr_l (ds : List PyData) : truD (.list ds) = some (!ds.isEmpty) := rfl
theorem tr_t (ds : List PyData) : truD (.tuple ds) = some (!ds.isEmpty) := rfl
theorem ty_n : tyD .none = "NoneType" := rfl
theorem ty_b (b : Bool) : tyD (.bool b) = "bool" := rfl
theorem ty_i (z : Int) : tyD (.int z) = "int" := rfl
theorem ty_s (x : Str) : tyD (.str x) = "str" := rfl
theorem ty_l (ds : List PyData) : tyD (.list ds) = "list" := rfl
theorem ty_t (ds : List PyData) : tyD (.tuple ds) = "tuple" := rfl
universe u
theorem if_ff {α : Sort u} (a b : α) : (if false = true then a else b) = b := rfl
theorem if_tt {α : Sort u} (a b : α) : (if true = true then a else b) = a := rfl
theorem sq_ {p q : DTS} {Δ : DEnds} {ε : Env} (h : p { Δ with nx := q Δ } ε) : dSeq p q Δ ε := h
theorem if_t {b : Bool} {A B : Prop} (h : b = true) (a : A) : if b = true then A else B := by rw [if_pos h]; exact a
theorem if_f {b : Bool} {A B : Prop} (h : b = false) (x : B) : if b = true then A else B := by rw [h]; exact iteF x
/-- a state: people 0 .. n - 1, at most 1000 -/
structure Stt (ns : List Int) : Prop where
  lo : Low ns.length ns
  le : ns.length ≤ 1000
  ge : 1 ≤ ns.length
def Per (ns : List Int) (p : Int) : Prop := 0 ≤ p ∧ p < (ns.length : Int)
theorem Stt.gt {ns : List Int} (h : Stt ns) {p : Int} (hp : Per ns p) : Per ns (gt ns p) := gt_low h.lo hp.1 hp.2
def LowO (n : Nat) (os : List (Option Int)) : Prop := ∀ z, some z ∈ os → 0 ≤ z ∧ z < (n : Int)
theorem LowO.of {n : Nat} {ns : List Int} (lo : Low n ns) : LowO n (ns.map some) := fun z hz => by
  obtain ⟨y, hy, e⟩ := List.mem_map.mp hz
  cases e
  exact lo z hy
theorem for_cons {γ : DTG} {p : DTS} {Δ : DEnds} {d : PyData} {ds : List PyData} {ε : Env} (h : γ d ε fun ε1 => p { nx := forD γ p Δ ds, rt := Δ.rt, bk := Δ.nx, ct := forD γ p Δ ds } ε1) : forD γ p Δ (d :: ds) ε := h
theorem lc_cons {γ : DTG} {c : DTT} {f : DTE} {vs : List Nat} {s : List SV} {Q : R → Env → Prop} {d : PyData} {ds acc : List PyData} {n : Nat} (h : γ d ⟨wipeE ⟨s, n⟩ vs, n⟩ fun ε1 => c ε1 fun b ε2 => if b = true then f ε2 fun r ε3 => match r.pub with
      | .sh e => acc.length < sizeLine ∧ lcD γ c f vs s Q ds (acc ++ [e]) ε3.c
      | _ => False
    else lcD γ c f vs s Q ds acc ε2.c) : lcD γ c f vs s Q (d :: ds) acc n := h
theorem lc_all {α : Type} {γ : DTG} {f : DTE} {vs : List Nat} {s : List SV} {Q : R → Env → Prop} {n : Nat} (h e : α → PyData) : ∀ (xs : List α) (acc : List PyData),
    (∀ x ∈ xs, ∀ K : R → Env → Prop, (∀ r ε, r.pub = .sh (e x) → ε.c = n → K r ε) → γ (h x) ⟨wipeE ⟨s, n⟩ vs, n⟩ fun ε1 => f ε1 K) →
    acc.length + xs.length ≤ 16777216 → Q (.nw (acc ++ xs.map e)) ⟨s, n⟩ → lcD γ dYes f vs s Q (xs.map h) acc n
  | [], acc, _, _, q => by
    rw [List.map_nil, List.append_nil] at q
    exact q
  | x :: xs, acc, st, le, q => by
    rw [List.length_cons] at le
    rw [List.map_cons]
    refine lc_cons ?_
    refine st x List.mem_cons_self (fun r ε3 => match r.pub with
      | .sh e => acc.length < sizeLine ∧ lcD γ dYes f vs s Q (xs.map h) (acc ++ [e]) ε3.c
      | _ => False) fun r ε hr hc => ?_
    rw [hr, hc]
    refine ⟨show acc.length < 16777216 by omega, ?_⟩
    refine lc_all h e xs (acc ++ [e x]) (fun y hy => st y (List.mem_cons_of_mem _ hy)) (by rw [List.length_append, List.length_singleton]; omega) ?_
    rw [List.append_assoc]; exact q
theorem lc_if {α : Type} {γ : DTG} {c : DTT} {f : DTE} {vs : List Nat} {s : List SV} {Q : R → Env → Prop} {n : Nat} (h e : α → PyData) (k : α → Bool) : ∀ (xs : List α) (acc : List PyData),
    (∀ x ∈ xs, ∀ (Y : R → Env → Prop) (N : Env → Prop), (k x = true → ∀ r ε, r.pub = .sh (e x) → ε.c = n → Y r ε) → (k x = false → ∀ ε, ε.c = n → N ε) → γ (h x) ⟨wipeE ⟨s, n⟩ vs, n⟩ fun ε1 => c ε1 fun b ε2 => if b = true then f ε2 Y else N ε2) →
    acc.length + xs.length ≤ 16777216 → Q (.nw (acc ++ (xs.filter k).map e)) ⟨s, n⟩ → lcD γ c f vs s Q (xs.map h) acc n
  | [], acc, _, _, q => by
    rw [List.filter_nil, List.map_nil, List.append_nil] at q
    exact q
  | x :: xs, acc, st, le, q => by
    rw [List.length_cons] at le
    rw [List.map_cons]
    refine lc_cons ?_
    refine st x List.mem_cons_self (fun r ε3 => match r.pub with
      | .sh e => acc.length < sizeLine ∧ lcD γ c f vs s Q (xs.map h) (acc ++ [e]) ε3.c
      | _ => False) (fun ε => lcD γ c f vs s Q (xs.map h) acc ε.c) (fun hk r ε hr hc => ?_) fun hk ε hc => ?_
    · rw [hr, hc]
      refine ⟨show acc.length < 16777216 by omega, ?_⟩
      refine lc_if h e k xs (acc ++ [e x]) (fun y hy => st y (List.mem_cons_of_mem _ hy)) (by rw [List.length_append, List.length_singleton]; omega) ?_
      rw [List.filter_cons_of_pos hk, List.map_cons] at q
      rw [List.append_assoc]; exact q
    · rw [hc]
      refine lc_if h e k xs acc (fun y hy => st y (List.mem_cons_of_mem _ hy)) (by omega) ?_
      rw [List.filter_cons_of_neg (by rw [hk]; exact fun z => nomatch z)] at q
      exact q
theorem Stt.rt {ns : List Int} (h : Stt ns) {p : Int} (hp : Per ns p) : Route ns p (routeF ns p) := routeF_ok h.lo hp.1 hp.2
theorem route_low {ns : List Int} (h : Stt ns) {p : Int} (hp : Per ns p) : Low ns.length (routeF ns p) := by
  obtain ⟨L, e, nd, hin⟩ := h.rt hp
  intro z hz
  rw [e] at hz
  obtain ⟨i, _, ei⟩ := itrs_mem.mp hz
  rw [← ei]; exact itr_low h.lo hp.1 hp.2 i
theorem route_len {ns : List Int} (h : Stt ns) {p : Int} (hp : Per ns p) : 1 ≤ (routeF ns p).length ∧ (routeF ns p).length ≤ ns.length := by
  obtain ⟨L, e, nd, hin⟩ := h.rt hp
  refine ⟨?_, low_len ns.length _ nd (route_low h hp)⟩
  exact List.length_pos_iff.mpr fun z => by rw [z] at hin; cases hin
/-- the last one of a route, and whom they point at -/
theorem route_last {ns : List Int} (h : Stt ns) {p : Int} (hp : Per ns p) : ∃ l, (routeF ns p).getLast? = some l ∧ Per ns l ∧ gt ns l ∈ routeF ns p ∧ (routeF ns p).getLastD 0 = l := by
  obtain ⟨L, e, nd, hin⟩ := h.rt hp
  have l1 := (route_len h hp).1
  have hL : (routeF ns p).length = L := by rw [e, itrs_len]
  have el : (routeF ns p)[L - 1]? = some (itr ns p (L - 1)) := by rw [e]; exact itrs_get (by omega)
  have e2 : (routeF ns p).getLast? = some (itr ns p (L - 1)) := by rw [List.getLast?_eq_getElem?, hL]; exact el
  refine ⟨itr ns p (L - 1), e2, itr_low h.lo hp.1 hp.2 _, ?_, ?_⟩
  · have : gt ns (itr ns p (L - 1)) = itr ns p L := by
      have : L = L - 1 + 1 := by omega
      rw [this]; rfl
    rw [this]; exact hin
  · rw [List.getLastD_eq_getLast?, e2]; rfl
theorem begin_lt {ns : List Int} (h : Stt ns) {p : Int} (hp : Per ns p) : heightF ns p < (routeF ns p).length := by
  obtain ⟨l, l1, l2, l3, l4⟩ := route_last h hp
  unfold heightF beginF
  rw [l4]; exact List.idxOf_lt_length_of_mem l3
end Lp

namespace Lp
open PySem PySem.Spec PyProof.Rows L2
local macro_rules | `(tactic| rfl') => `(tactic| try dsimp only [dVar_, gv_sh, gv_ow, gv_bx, gv_raw, gv_st, dC, dRaw, dOp, dUn, dTest, dTruth, dAnd, dOr, dNot, dYes, dIf, dAndV, dOrV, dNotV, dNotT, dChain, dNil, dCons, dTup, dLst, dats, dCB, dNoP, dPart, dSl, dNext, dBreak, dCont, dNever, dDrop, dRet, dRetN, dIfS, dSetG, dPar, dPar3, dAppend, dAppPop, dSetIx, dExt, dAug, dSet0, dSAdd, dSNotIn, dIter_, gi_l, gi_t, gi_b, dRng1, dRng2, dName, dGNil, dGCons, dGTup, dAsg, dFor, dWhile, dCall, dCallR, dArgs_, ga_f, ga_t, argsOf, dLc, wipeE, dListRg, dIndex, dSortSet, dSortSc, dEnum, dEnA, dZip, dIsi, dIsi2, isaT, φI, φB, φC, φNeg, add_i, add_l, add_t, mul_i, mul_l, φIx, sl_l, sl_t, eq_i, eq_s, eq_l, eq_t, eq_b, eq_n, φIsN, isN_n, isN_b, isN_i, isN_s, isN_l, isN_t, φLen, φList, φTuple, φAbs, φInt, φMax, φIsB, φIsNB, its_l, its_t, rd_sh, rd_nw, rd_br, rp_sh, rp_nw, rp_br, rp_bx, rp_raw, rp_sr, rr_sh, rr_nw, rr_br, ra_sh, ra_br, ra_bx, ra_raw, va_sh, va_nt, va_nf, va_raw, hb_n, hb_sh, hb_bx, hb_raw, hb_br, sh_n, sh_c, tr_n, tr_b, tr_i, tr_l, tr_t, ty_n, ty_b, ty_i, ty_s, ty_l, ty_t, if_ff, if_tt, Env.set, List.getElem?_cons_succ, List.getElem?_cons_zero, List.set_cons_succ, List.set_cons_zero, List.reverse_cons, List.reverse_nil, List.nil_append, List.cons_append, Option.bind_some, ite_true, ite_false])
theorem per_nat {ns : List Int} {j : Nat} (h : j < ns.length) : Per ns (j : Int) := ⟨Int.natCast_nonneg _, by omega⟩
theorem ring_ne {ns : List Int} (h : Stt ns) {p : Int} (hp : Per ns p) : ringF ns p ≠ [] := by
  unfold ringF
  refine turnF_ne fun e => ?_
  have := congrArg List.length e
  have h := begin_lt h hp
  rw [List.length_drop, List.length_nil] at this
  unfold heightF at h
  omega
theorem φAll_dB {any : Bool} {bs : List Bool} {Q : R → Prop} (q : Q (.sh (.bool (if any then bs.any id else bs.all id)))) : φAll any [.list (dB bs)] Q := by
  unfold φAll
  dsimp only
  rw [boolsD_dB]
  exact q
theorem dB_map {α : Type} (xs : List α) (f : α → Bool) : (xs.map fun x => PyData.bool (f x)) = dB (xs.map f) := by
  show _ = (xs.map f).map _
  rw [List.map_map]; rfl
theorem ring_le {ns : List Int} (h : Stt ns) {p : Int} (hp : Per ns p) : (ringF ns p).length ≤ ns.length := by
  unfold ringF turnF
  rw [List.length_append, List.length_drop, List.length_take, List.length_drop]
  have := (route_len h hp).2
  omega
theorem RingsOf.mem {ns : List Int} (h : Stt ns) {RS : List (List Int)} (hR : RingsOf ns RS) {r : List Int} (hr : r ∈ RS) : r ≠ [] ∧ r.length ≤ ns.length := by
  obtain ⟨j, hj, rfl⟩ := (hR.2.2 r).mp hr
  exact ⟨ring_ne h (per_nat hj), ring_le h (per_nat hj)⟩
theorem RingsOf.len {ns : List Int} {RS : List (List Int)} (hR : RingsOf ns RS) : RS.length ≤ ns.length := by
  have := nd_subG RS ((List.range ns.length).map fun i : Nat => ringF ns (i : Int)) hR.1 fun r hr => by
    obtain ⟨j, hj, e⟩ := (hR.2.2 r).mp hr
    exact List.mem_map.mpr ⟨j, List.mem_range.mpr hj, e⟩
  rw [List.length_map, List.length_range] at this
  exact this
end Lp

namespace Lp
open PySem PySem.Spec PyProof.Rows L2
local macro_rules | `(tactic| rfl') => `(tactic| try dsimp only [dVar_, gv_sh, gv_ow, gv_bx, gv_raw, gv_st, dC, dRaw, dOp, dUn, dTest, dTruth, dAnd, dOr, dNot, dYes, dIf, dAndV, dOrV, dNotV, dNotT, dChain, dNil, dCons, dTup, dLst, dats, dCB, dNoP, dPart, dSl, dNext, dBreak, dCont, dNever, dDrop, dRet, dRetN, dIfS, dSetG, dPar, dPar3, dAppend, dAppPop, dSetIx, dExt, dAug, dSet0, dSAdd, dSNotIn, dIter_, gi_l, gi_t, gi_b, dRng1, dRng2, dName, dGNil, dGCons, dGTup, dAsg, dFor, dWhile, dCall, dCallR, dArgs_, ga_f, ga_t, argsOf, dLc, wipeE, dListRg, dIndex, dSortSet, dSortSc, dEnum, dEnA, dZip, dIsi, dIsi2, isaT, φI, φB, φC, φNeg, add_i, add_l, add_t, mul_i, mul_l, φIx, sl_l, sl_t, eq_i, eq_s, eq_l, eq_t, eq_b, eq_n, φIsN, isN_n, isN_b, isN_i, isN_s, isN_l, isN_t, φLen, φList, φTuple, φAbs, φInt, φMax, φIsB, φIsNB, its_l, its_t, rd_sh, rd_nw, rd_br, rp_sh, rp_nw, rp_br, rp_bx, rp_raw, rp_sr, rr_sh, rr_nw, rr_br, ra_sh, ra_br, ra_bx, ra_raw, va_sh, va_nt, va_nf, va_raw, hb_n, hb_sh, hb_bx, hb_raw, hb_br, sh_n, sh_c, tr_n, tr_b, tr_i, tr_l, tr_t, ty_n, ty_b, ty_i, ty_s, ty_l, ty_t, if_ff, if_tt, Env.set, List.getElem?_cons_succ, List.getElem?_cons_zero, List.set_cons_succ, List.set_cons_zero, List.reverse_cons, List.reverse_nil, List.nil_append, List.cons_append, Option.bind_some, ite_true, ite_false])
end Lp

namespace Lp
open PySem PySem.Spec PyProof.Rows L2
local macro_rules | `(tactic| rfl') => `(tactic| try dsimp only [dVar_, gv_sh, gv_ow, gv_bx, gv_raw, gv_st, dC, dRaw, dOp, dUn, dTest, dTruth, dAnd, dOr, dNot, dYes, dIf, dAndV, dOrV, dNotV, dNotT, dChain, dNil, dCons, dTup, dLst, dats, dCB, dNoP, dPart, dSl, dNext, dBreak, dCont, dNever, dDrop, dRet, dRetN, dIfS, dSetG, dPar, dPar3, dAppend, dAppPop, dSetIx, dExt, dAug, dSet0, dSAdd, dSNotIn, dIter_, gi_l, gi_t, gi_b, dRng1, dRng2, dName, dGNil, dGCons, dGTup, dAsg, dFor, dWhile, dCall, dCallR, dArgs_, ga_f, ga_t, argsOf, dLc, wipeE, dListRg, dIndex, dSortSet, dSortSc, dEnum, dEnA, dZip, dIsi, dIsi2, isaT, φI, φB, φC, φNeg, add_i, add_l, add_t, mul_i, mul_l, φIx, sl_l, sl_t, eq_i, eq_s, eq_l, eq_t, eq_b, eq_n, φIsN, isN_n, isN_b, isN_i, isN_s, isN_l, isN_t, φLen, φList, φTuple, φAbs, φInt, φMax, φIsB, φIsNB, its_l, its_t, rd_sh, rd_nw, rd_br, rp_sh, rp_nw, rp_br, rp_bx, rp_raw, rp_sr, rr_sh, rr_nw, rr_br, ra_sh, ra_br, ra_bx, ra_raw, va_sh, va_nt, va_nf, va_raw, hb_n, hb_sh, hb_bx, hb_raw, hb_br, sh_n, sh_c, tr_n, tr_b, tr_i, tr_l, tr_t, ty_n, ty_b, ty_i, ty_s, ty_l, ty_t, if_ff, if_tt, Env.set, List.getElem?_cons_succ, List.getElem?_cons_zero, List.set_cons_succ, List.set_cons_zero, List.reverse_cons, List.reverse_nil, List.nil_append, List.cons_append, Option.bind_some, ite_true, ite_false])
end Lp

namespace Lp
open PySem PySem.Spec PyProof.Rows L2
local macro_rules | `(tactic| rfl') => `(tactic| try dsimp only [dVar_, gv_sh, gv_ow, gv_bx, gv_raw, gv_st, dC, dRaw, dOp, dUn, dTest, dTruth, dAnd, dOr, dNot, dYes, dIf, dAndV, dOrV, dNotV, dNotT, dChain, dNil, dCons, dTup, dLst, dats, dCB, dNoP, dPart, dSl, dNext, dBreak, dCont, dNever, dDrop, dRet, dRetN, dIfS, dSetG, dPar, dPar3, dAppend, dAppPop, dSetIx, dExt, dAug, dSet0, dSAdd, dSNotIn, dIter_, gi_l, gi_t, gi_b, dRng1, dRng2, dName, dGNil, dGCons, dGTup, dAsg, dFor, dWhile, dCall, dCallR, dArgs_, ga_f, ga_t, argsOf, dLc, wipeE, dListRg, dIndex, dSortSet, dSortSc, dEnum, dEnA, dZip, dIsi, dIsi2, isaT, φI, φB, φC, φNeg, add_i, add_l, add_t, mul_i, mul_l, φIx, sl_l, sl_t, eq_i, eq_s, eq_l, eq_t, eq_b, eq_n, φIsN, isN_n, isN_b, isN_i, isN_s, isN_l, isN_t, φLen, φList, φTuple, φAbs, φInt, φMax, φIsB, φIsNB, its_l, its_t, rd_sh, rd_nw, rd_br, rp_sh, rp_nw, rp_br, rp_bx, rp_raw, rp_sr, rr_sh, rr_nw, rr_br, ra_sh, ra_br, ra_bx, ra_raw, va_sh, va_nt, va_nf, va_raw, hb_n, hb_sh, hb_bx, hb_raw, hb_br, sh_n, sh_c, tr_n, tr_b, tr_i, tr_l, tr_t, ty_n, ty_b, ty_i, ty_s, ty_l, ty_t, if_ff, if_tt, Env.set, List.getElem?_cons_succ, List.getElem?_cons_zero, List.set_cons_succ, List.set_cons_zero, List.reverse_cons, List.reverse_nil, List.nil_append, List.cons_append, Option.bind_some, ite_true, ite_false])
def dep : Nat → PyData → Bool
  | 0, _ => false
  | k + 1, .list ds => decide (ds.length ≤ 1000000) && ds.all (dep k)
  | k + 1, .tuple ds => decide (ds.length ≤ 1000000) && ds.all (dep k)
  | _ + 1, .dict _ => false
  | _ + 1, _ => true
def p_law_same (k : Nat) : DSp := fun args c Q => ∃ a b : PyData, args = [.sh a, .sh b] ∧ a = b ∧ dep k a = true ∧ Q (.sh (.bool true)) c
theorem mon_law_same (k : Nat) : MonF (p_law_same k) := fun args c A B h ⟨a, b, e, h1, h2, q⟩ => ⟨a, b, e, h1, h2, h _ _ q⟩
theorem zip_self (ds : List PyData) : zipDs ds ds = ds.map fun d => .tuple [d, d] := by
  unfold zipDs
  induction ds with
  | nil => rfl
  | cons x r ih => rw [List.zipWith_cons_cons, ih]; rfl
theorem same_seq {k : Nat} {ds : List PyData} {s : List SV} {c : Nat} {Q : R → Env → Prop} (hk : ds.all (dep k) = true) (hl : ds.length ≤ 16777216) (hs : ∃ x y, s = [x, y, .un, .un]) (q : Q (.nw (ds.map fun _ => .bool true)) ⟨s, c⟩) :
    lcD (dGTup 2 (dGCons (dName 2) (dGCons (dName 3) dGNil))) dYes (dCall (p_law_same k) (dCons (dVar 2) (dCons (dVar 3) dNil))) [2, 3] s Q (zipDs ds ds) [] c := by
  obtain ⟨x, y, rfl⟩ := hs
  rw [zip_self]
  refine lc_all (fun d => .tuple [d, d]) (fun _ => .bool true) ds [] (fun d hd K hK => ?_) (by show 0 + _ ≤ _; omega) q
  rfl'
  refine ⟨rfl, ?_⟩
  refine ⟨d, d, rfl, rfl, List.all_eq_true.mp hk d hd, ?_⟩
  rfl'
  exact hK _ _ rfl rfl
theorem eqv_self_b (b : Bool) : PyData.eqv (.bool b) (.bool b) = true := by cases b <;> rfl
theorem dep_list {k : Nat} {ds : List PyData} (h : dep (k + 1) (.list ds) = true) : ds.length ≤ 1000000 ∧ ds.all (dep k) = true := by
  unfold dep at h
  rw [Bool.and_eq_true] at h
  exact ⟨of_decide_eq_true h.1, h.2⟩
theorem dep_tuple {k : Nat} {ds : List PyData} (h : dep (k + 1) (.tuple ds) = true) : ds.length ≤ 1000000 ∧ ds.all (dep k) = true := by
  unfold dep at h
  rw [Bool.and_eq_true] at h
  exact ⟨of_decide_eq_true h.1, h.2⟩
theorem all_true (ds : List PyData) : (dB (ds.map fun _ => true)).length = ds.length ∧ (ds.map fun _ => true).all id = true := by
  refine ⟨by rw [List.length_map, List.length_map], ?_⟩
  rw [List.all_map]
  exact List.all_eq_true.mpr fun _ _ => rfl
end Lp

namespace Lp
open PySem PySem.Spec PyProof.Rows L2
local macro_rules | `(tactic| rfl') => `(tactic| try dsimp only [dVar_, gv_sh, gv_ow, gv_bx, gv_raw, gv_st, dC, dRaw, dOp, dUn, dTest, dTruth, dAnd, dOr, dNot, dYes, dIf, dAndV, dOrV, dNotV, dNotT, dChain, dNil, dCons, dTup, dLst, dats, dCB, dNoP, dPart, dSl, dNext, dBreak, dCont, dNever, dDrop, dRet, dRetN, dIfS, dSetG, dPar, dPar3, dAppend, dAppPop, dSetIx, dExt, dAug, dSet0, dSAdd, dSNotIn, dIter_, gi_l, gi_t, gi_b, dRng1, dRng2, dName, dGNil, dGCons, dGTup, dAsg, dFor, dWhile, dCall, dCallR, dArgs_, ga_f, ga_t, argsOf, dLc, wipeE, dListRg, dIndex, dSortSet, dSortSc, dEnum, dEnA, dZip, dIsi, dIsi2, isaT, φI, φB, φC, φNeg, add_i, add_l, add_t, mul_i, mul_l, φIx, sl_l, sl_t, eq_i, eq_s, eq_l, eq_t, eq_b, eq_n, φIsN, isN_n, isN_b, isN_i, isN_s, isN_l, isN_t, φLen, φList, φTuple, φAbs, φInt, φMax, φIsB, φIsNB, its_l, its_t, rd_sh, rd_nw, rd_br, rp_sh, rp_nw, rp_br, rp_bx, rp_raw, rp_sr, rr_sh, rr_nw, rr_br, ra_sh, ra_br, ra_bx, ra_raw, va_sh, va_nt, va_nf, va_raw, hb_n, hb_sh, hb_bx, hb_raw, hb_br, sh_n, sh_c, tr_n, tr_b, tr_i, tr_l, tr_t, ty_n, ty_b, ty_i, ty_s, ty_l, ty_t, if_ff, if_tt, Env.set, List.getElem?_cons_succ, List.getElem?_cons_zero, List.set_cons_succ, List.set_cons_zero, List.reverse_cons, List.reverse_nil, List.nil_append, List.cons_append, Option.bind_some, ite_true, ite_false])
inductive All2 {α β : Type} (P : α → β → Prop) : List α → List β → Prop
  | nil : All2 P [] []
  | cons {x : α} {y : β} {xs : List α} {ys : List β} : P x y → All2 P xs ys → All2 P (x :: xs) (y :: ys)
theorem All2.len {α β : Type} {P : α → β → Prop} : ∀ {xs : List α} {ys : List β}, All2 P xs ys → ys.length = xs.length
  | _, _, .nil => rfl
  | _, _, .cons _ r => by rw [List.length_cons, List.length_cons, r.len]
theorem All2.mem {α β : Type} {P : α → β → Prop} : ∀ {xs : List α} {ys : List β}, All2 P xs ys → ∀ y ∈ ys, ∃ x ∈ xs, P x y
  | _, _, .cons a r, y, h => by
    rcases List.mem_cons.mp h with rfl | h
    · exact ⟨_, List.mem_cons_self, a⟩
    · obtain ⟨x, hx, hp⟩ := r.mem y h
      exact ⟨x, List.mem_cons_of_mem _ hx, hp⟩
theorem All2.get {α β : Type} {P : α → β → Prop} : ∀ {xs : List α} {ys : List β}, All2 P xs ys → ∀ {i : Nat} {x : α}, xs[i]? = some x → ∃ y, ys[i]? = some y ∧ P x y
  | _, _, .nil, i, x, h => by simp at h
  | _, _, .cons a r, 0, x, h => by simp at h; subst h; exact ⟨_, rfl, a⟩
  | _, _, .cons a r, i + 1, x, h => by
    obtain ⟨y, h1, h2⟩ := r.get (i := i) (x := x) (by simpa using h)
    exact ⟨y, by simpa using h1, h2⟩
end Lp

namespace Lp
open PySem PySem.Spec PyProof.Rows L2
local macro_rules | `(tactic| rfl') => `(tactic| try dsimp only [dVar_, gv_sh, gv_ow, gv_bx, gv_raw, gv_exn, gv_st, dC, dRaw, dOp, dUn, dTest, dTruth, dAnd, dOr, dNot, dYes, dIf, dAndV, dOrV, dNotV, dNotT, dChain, dNil, dCons, dTup, dLst, dats, dCB, dNoP, dPart, dSl, dNext, dBreak, dCont, dNever, dDrop, dRet, dRetN, dIfS, dSetG, dPar, dPar3, dAppend, dAppPop, dSetIx, dExt, dAug, dSet0, dSAdd, dSNotIn, dIter_, gi_l, gi_t, gi_b, dRng1, dRng2, dName, dGNil, dGCons, dGTup, dAsg, dFor, dWhile, dCall, dCallR, dArgs_, ga_f, ga_t, argsOf, dLc, wipeE, dListRg, dIndex, dSortSet, dSortSc, dEnum, dEnA, dZip, dIsi, dIsi2, isaT, φI, φB, φC, φNeg, add_i, add_l, add_t, mul_i, mul_l, φIx, sl_l, sl_t, eq_i, eq_s, eq_l, eq_t, eq_b, eq_n, φIsN, isN_n, isN_b, isN_i, isN_s, isN_l, isN_t, φLen, φList, φTuple, φAbs, φInt, φMax, φIsB, φIsNB, its_l, its_t, rd_sh, rd_nw, rd_br, rp_sh, rp_nw, rp_br, rp_bx, rp_raw, rp_sr, rr_sh, rr_nw, rr_br, ra_sh, ra_br, ra_bx, ra_raw, va_sh, va_nt, va_nf, va_raw, hb_n, hb_sh, hb_bx, hb_raw, hb_br, sh_n, sh_c, tr_n, tr_b, tr_i, tr_l, tr_t, ty_n, ty_b, ty_i, ty_s, ty_l, ty_t, if_ff, if_tt, Env.set, List.getElem?_cons_succ, List.getElem?_cons_zero, List.set_cons_succ, List.set_cons_zero, List.reverse_cons, List.reverse_nil, List.nil_append, List.cons_append, Option.bind_some, ite_true, ite_false])
end Lp

namespace Lp
open PySem PySem.Spec PyProof.Rows L2
local macro_rules | `(tactic| rfl') => `(tactic| try dsimp only [dVar_, gv_sh, gv_ow, gv_bx, gv_raw, gv_exn, gv_st, dC, dRaw, dOp, dUn, dTest, dTruth, dAnd, dOr, dNot, dYes, dIf, dAndV, dOrV, dNotV, dNotT, dChain, dNil, dCons, dTup, dLst, dats, dCB, dNoP, dPart, dSl, dNext, dBreak, dCont, dNever, dDrop, dRet, dRetN, dIfS, dSetG, dPar, dPar3, dAppend, dAppPop, dSetIx, dExt, dAug, dSet0, dSAdd, dSNotIn, dIter_, gi_l, gi_t, gi_b, dRng1, dRng2, dName, dGNil, dGCons, dGTup, dAsg, dFor, dWhile, dCall, dCallR, dArgs_, ga_f, ga_t, argsOf, dLc, wipeE, dListRg, dIndex, dSortSet, dSortSc, dEnum, dEnA, dZip, dIsi, dIsi2, isaT, φI, φB, φC, φNeg, add_i, add_l, add_t, mul_i, mul_l, φIx, sl_l, sl_t, eq_i, eq_s, eq_l, eq_t, eq_b, eq_n, φIsN, isN_n, isN_b, isN_i, isN_s, isN_l, isN_t, φLen, φList, φTuple, φAbs, φInt, φMax, φIsB, φIsNB, its_l, its_t, rd_sh, rd_nw, rd_br, rp_sh, rp_nw, rp_br, rp_bx, rp_raw, rp_sr, rr_sh, rr_nw, rr_br, ra_sh, ra_br, ra_bx, ra_raw, va_sh, va_nt, va_nf, va_raw, hb_n, hb_sh, hb_bx, hb_raw, hb_br, sh_n, sh_c, tr_n, tr_b, tr_i, tr_l, tr_t, ty_n, ty_b, ty_i, ty_s, ty_l, ty_t, if_ff, if_tt, Env.set, List.getElem?_cons_succ, List.getElem?_cons_zero, List.set_cons_succ, List.set_cons_zero, List.reverse_cons, List.reverse_nil, List.nil_append, List.cons_append, Option.bind_some, ite_true, ite_false])
end Lp

namespace Lp
open PySem PySem.Spec PyProof.Rows L2
local macro_rules | `(tactic| rfl') => `(tactic| try dsimp only [dVar_, gv_sh, gv_ow, gv_bx, gv_raw, gv_exn, gv_st, dC, dRaw, dOp, dUn, dTest, dTruth, dAnd, dOr, dNot, dYes, dIf, dAndV, dOrV, dNotV, dNotT, dChain, dNil, dCons, dTup, dLst, dats, dCB, dNoP, dPart, dSl, dNext, dBreak, dCont, dNever, dDrop, dRet, dRetN, dIfS, dSetG, dPar, dPar3, dAppend, dAppPop, dSetIx, dExt, dAug, dSet0, dSAdd, dSNotIn, dIter_, gi_l, gi_t, gi_b, dRng1, dRng2, dName, dGNil, dGCons, dGTup, dAsg, dFor, dWhile, dCall, dCallR, dArgs_, ga_f, ga_t, argsOf, dLc, wipeE, dListRg, dIndex, dSortSet, dSortSc, dEnum, dEnA, dZip, dIsi, dIsi2, isaT, φI, φB, φC, φNeg, add_i, add_l, add_t, mul_i, mul_l, φIx, sl_l, sl_t, eq_i, eq_s, eq_l, eq_t, eq_b, eq_n, φIsN, isN_n, isN_b, isN_i, isN_s, isN_l, isN_t, φLen, φList, φTuple, φAbs, φInt, φMax, φIsB, φIsNB, its_l, its_t, rd_sh, rd_nw, rd_br, rp_sh, rp_nw, rp_br, rp_bx, rp_raw, rp_sr, rr_sh, rr_nw, rr_br, ra_sh, ra_br, ra_bx, ra_raw, va_sh, va_nt, va_nf, va_raw, hb_n, hb_sh, hb_bx, hb_raw, hb_br, sh_n, sh_c, tr_n, tr_b, tr_i, tr_l, tr_t, ty_n, ty_b, ty_i, ty_s, ty_l, ty_t, if_ff, if_tt, Env.set, List.getElem?_cons_succ, List.getElem?_cons_zero, List.set_cons_succ, List.set_cons_zero, List.reverse_cons, List.reverse_nil, List.nil_append, List.cons_append, Option.bind_some, ite_true, ite_false])
/-- _law_same: _law_found, _law_due_here, _law_mine, _law_its -/
def b_law_same_3 (p_law_same_3 : DSp) : DTS := (dSeq (dIfS (dTruth (dIsi2 "list" "tuple" (dVar 1))) (dSeq (dIfS (dOr (dTest (dOp (φEq true) (dIsi "list" (dVar 0)) (dIsi "list" (dVar 1)))) (dTest (dOp (φEq true) (dIsi "tuple" (dVar 0)) (dIsi "tuple" (dVar 1))))) (dRet (dC (.bool false))) dNext)
  (dRet (dAndV (dOp (φEq false) (dCB φLen (dCons (dVar 0) dNil)) (dCB φLen (dCons (dVar 1) dNil))) (dCB (φAll false) (dCons (dLc (dZip (dCons (dVar 0) (dCons (dVar 1) dNil))) (dGTup 2 (dGCons (dName 2) (dGCons (dName 3) dGNil))) dYes (dCall p_law_same_3 (dCons (dVar 2) (dCons (dVar 3) dNil))) [2, 3]) dNil))))) dNext)
  (dSeq (dIfS (dOr (dTest (dOp (φIsN false) (dVar 1) (dC .none))) (dTruth (dIsi2 "bool" "str" (dVar 1)))) (dRet (dAndV (dOp (φEq false) (dVar 0) (dVar 1)) (dAndV (dOp (φEq false) (dIsi "bool" (dVar 0)) (dIsi "bool" (dVar 1))) (dOp (φEq false) (dOp (φIsN false) (dVar 0) (dC .none)) (dOp (φIsN false) (dVar 1) (dC .none)))))) dNext)
  (dRet (dAndV (dIsi "int" (dVar 0)) (dAndV (dNotV (dIsi "bool" (dVar 0))) (dOp (φEq false) (dVar 0) (dVar 1)))))))
abbrev k_law_same_3 : Nat := 2
def p_law_same_3 (k : Nat) : DSp := p_law_same k
theorem mon_law_same_3 (k : Nat) : MonF (p_law_same_3 k) := mon_law_same k
theorem m_law_same_3 {k : Nat} : ∀ args c Q, p_law_same_3 (k + 1) args c Q → defF k_law_same_3 (b_law_same_3 (p_law_same_3 k)) args c Q := by
  rintro _ c Q ⟨a, _, rfl, rfl, hk, q⟩
  show b_law_same_3 (p_law_same k) _ ⟨[.sh a, .sh a, .un, .un], c⟩
  unfold b_law_same_3
  refine sq_ ?_
  cases a with
  | none =>
    rfl'
    refine if_f (by decide +kernel) ?_
    refine sq_ ?_
    rfl'
    refine ⟨⟨rfl, rfl⟩, ?_⟩
    refine if_t (by rfl) ?_
    refine ⟨⟨rfl, rfl⟩, ?_⟩
    refine if_t (by rfl) ?_
    exact ⟨⟨rfl, rfl⟩, q⟩
  | bool b =>
    rfl'
    refine if_f (by decide +kernel) ?_
    refine sq_ ?_
    rfl'
    refine if_f (by decide +kernel) ?_
    refine if_t (by decide +kernel) ?_
    refine ⟨⟨rfl, rfl⟩, ?_⟩
    rw [eqv_self_b]
    refine if_t (by rfl) ?_
    refine ⟨⟨rfl, rfl⟩, ?_⟩
    refine if_t (by rfl) ?_
    exact ⟨⟨rfl, rfl⟩, q⟩
  | int z =>
    rfl'
    refine if_f (by decide +kernel) ?_
    refine sq_ ?_
    rfl'
    refine if_f (by decide +kernel) ?_
    refine if_f (by decide +kernel) ?_
    refine if_t (by decide +kernel) ?_
    refine if_t (by decide +kernel) ?_
    rw [decide_eq_true rfl]
    exact q
  | str x =>
    rfl'
    refine if_f (by decide +kernel) ?_
    refine sq_ ?_
    rfl'
    refine if_f (by decide +kernel) ?_
    refine if_t (by decide +kernel) ?_
    refine if_t (decide_eq_true rfl) ?_
    refine ⟨⟨rfl, rfl⟩, ?_⟩
    refine if_t (by rfl) ?_
    exact ⟨⟨rfl, rfl⟩, q⟩
  | list ds =>
    obtain ⟨h1, h2⟩ := dep_list hk
    rfl'
    refine if_t (by decide +kernel) ?_
    refine sq_ ?_
    rfl'
    refine ⟨⟨rfl, rfl⟩, ?_⟩
    refine if_f (by rfl) ?_
    refine ⟨⟨rfl, rfl⟩, ?_⟩
    refine if_f (by rfl) ?_
    refine if_t (decide_eq_true rfl) ?_
    refine same_seq h2 (by omega) ⟨_, _, rfl⟩ ?_
    rfl'
    rw [dB_map ds fun _ => true]
    refine φAll_dB ?_
    rw [if_neg (by decide), (all_true ds).2]
    exact q
  | tuple ds =>
    obtain ⟨h1, h2⟩ := dep_tuple hk
    rfl'
    refine if_t (by decide +kernel) ?_
    refine sq_ ?_
    rfl'
    refine ⟨⟨rfl, rfl⟩, ?_⟩
    refine if_f (by rfl) ?_
    refine ⟨⟨rfl, rfl⟩, ?_⟩
    refine if_f (by rfl) ?_
    refine if_t (decide_eq_true rfl) ?_
    refine same_seq h2 (by omega) ⟨_, _, rfl⟩ ?_
    rfl'
    rw [dB_map ds fun _ => true]
    refine φAll_dB ?_
    rw [if_neg (by decide), (all_true ds).2]
    exact q
  | dict _ => unfold dep at hk; cases hk
end Lp

namespace Lp
open PySem PySem.Spec PyProof.Rows L2
local macro_rules | `(tactic| rfl') => `(tactic| try dsimp only [dVar_, gv_sh, gv_ow, gv_bx, gv_raw, gv_exn, gv_st, dC, dRaw, dOp, dUn, dTest, dTruth, dAnd, dOr, dNot, dYes, dIf, dAndV, dOrV, dNotV, dNotT, dChain, dNil, dCons, dTup, dLst, dats, dCB, dNoP, dPart, dSl, dNext, dBreak, dCont, dNever, dDrop, dRet, dRetN, dIfS, dSetG, dPar, dPar3, dAppend, dAppPop, dSetIx, dExt, dAug, dSet0, dSAdd, dSNotIn, dIter_, gi_l, gi_t, gi_b, dRng1, dRng2, dName, dGNil, dGCons, dGTup, dAsg, dFor, dWhile, dCall, dCallR, dArgs_, ga_f, ga_t, argsOf, dLc, wipeE, dListRg, dIndex, dSortSet, dSortSc, dEnum, dEnA, dZip, dIsi, dIsi2, isaT, φI, φB, φC, φNeg, add_i, add_l, add_t, mul_i, mul_l, φIx, sl_l, sl_t, eq_i, eq_s, eq_l, eq_t, eq_b, eq_n, φIsN, isN_n, isN_b, isN_i, isN_s, isN_l, isN_t, φLen, φList, φTuple, φAbs, φInt, φMax, φIsB, φIsNB, its_l, its_t, rd_sh, rd_nw, rd_br, rp_sh, rp_nw, rp_br, rp_bx, rp_raw, rp_sr, rr_sh, rr_nw, rr_br, ra_sh, ra_br, ra_bx, ra_raw, va_sh, va_nt, va_nf, va_raw, hb_n, hb_sh, hb_bx, hb_raw, hb_br, sh_n, sh_c, tr_n, tr_b, tr_i, tr_l, tr_t, ty_n, ty_b, ty_i, ty_s, ty_l, ty_t, if_ff, if_tt, Env.set, List.getElem?_cons_succ, List.getElem?_cons_zero, List.set_cons_succ, List.set_cons_zero, List.reverse_cons, List.reverse_nil, List.nil_append, List.cons_append, Option.bind_some, ite_true, ite_false])
def plD : Nat → PyData → Bool
  | _, .none => true
  | _, .bool _ => true
  | _, .int _ => true
  | _, .str s => PyData.strOk s
  | k + 1, .list ds => ds.all (plD k)
  | k + 1, .tuple ds => ds.all (plD k)
  | _, _ => false
theorem pl_all {k : Nat} (ih : ∀ d, plD k d = true → PyData.eqv d d = true ∧ PyData.canLay0 d = true ∧ PyData.depth d ≤ k) : ∀ ds : List PyData, ds.all (plD k) = true → PyData.eqvAll ds ds = true ∧ PyData.canLayAll0 ds = true ∧ PyData.depthAll ds ≤ k
  | [], _ => ⟨by simp [PyData.eqvAll], by simp [PyData.canLayAll0], by simp [PyData.depthAll]⟩
  | d :: ds, h => by
    rw [List.all_cons, Bool.and_eq_true] at h
    obtain ⟨a1, a2, a3⟩ := ih d h.1
    obtain ⟨b1, b2, b3⟩ := pl_all ih ds h.2
    refine ⟨by simp [PyData.eqvAll, a1, b1], by simp [PyData.canLayAll0, a2, b2], ?_⟩
    simp only [PyData.depthAll]
    omega
theorem pl_self : ∀ (k : Nat) (d : PyData), plD k d = true → PyData.eqv d d = true ∧ PyData.canLay0 d = true ∧ PyData.depth d ≤ k
  | k, .none, _ => ⟨by simp [PyData.eqv], by simp [PyData.canLay0], by simp [PyData.depth]⟩
  | k, .bool b, _ => ⟨by simp [PyData.eqv], by simp [PyData.canLay0], by simp [PyData.depth]⟩
  | k, .int i, _ => ⟨by simp [PyData.eqv], by simp [PyData.canLay0], by simp [PyData.depth]⟩
  | k, .str s, h => by
    have h' : PyData.strOk s = true := by cases k <;> exact h
    exact ⟨by simp [PyData.eqv], by simp [PyData.canLay0, h'], by simp [PyData.depth]⟩
  | k + 1, .list ds, h => by
    obtain ⟨a, b, c⟩ := pl_all (pl_self k) ds h
    exact ⟨by simp only [PyData.eqv]; exact a, by simp only [PyData.canLay0]; exact b, by simp only [PyData.depth]; omega⟩
  | k + 1, .tuple ds, h => by
    obtain ⟨a, b, c⟩ := pl_all (pl_self k) ds h
    exact ⟨by simp only [PyData.eqv]; exact a, by simp only [PyData.canLay0]; exact b, by simp only [PyData.depth]; omega⟩
  | 0, .list _, h => by cases h
  | 0, .tuple _, h => by cases h
  | 0, .dict _, h => by cases h
  | k + 1, .dict _, h => by cases h
theorem pl_sh {k : Nat} {d : PyData} (h : plD k d = true) (k64 : k ≤ 64) : SeqAt.shaped d = true := by
  obtain ⟨_, b, c⟩ := pl_self k d h
  unfold SeqAt.shaped
  rw [b, Bool.true_and]
  exact decide_eq_true (by omega)
theorem φEqP {k : Nat} {neg : Bool} {d e : PyData} {Q : R → Prop} (h : plD k d = true) (k64 : k ≤ 64) (ed : e = d) (q : Q (.sh (.bool (!neg)))) : φEq neg d e Q := by
  subst ed
  have s := pl_sh h k64
  have v := (pl_self k e h).1
  unfold φEq
  split
  · cases neg <;> simpa using q
  · cases neg <;> simpa using q
  · rw [v]
    exact ⟨⟨s, s⟩, by cases neg <;> exact q⟩
end Lp

namespace Lp
open PySem PySem.Spec PyProof.Rows L2
local macro_rules | `(tactic| rfl') => `(tactic| try dsimp only [dVar_, gv_sh, gv_ow, gv_bx, gv_raw, gv_exn, gv_st, dC, dRaw, dOp, dUn, dTest, dTruth, dAnd, dOr, dNot, dYes, dIf, dAndV, dOrV, dNotV, dNotT, dChain, dNil, dCons, dTup, dLst, dats, dCB, dNoP, dPart, dSl, dNext, dBreak, dCont, dNever, dDrop, dRet, dRetN, dIfS, dSetG, dPar, dPar3, dAppend, dAppPop, dSetIx, dExt, dAug, dSet0, dSAdd, dSNotIn, dIter_, gi_l, gi_t, gi_b, dRng1, dRng2, dName, dGNil, dGCons, dGTup, dAsg, dFor, dWhile, dCall, dCallR, dArgs_, ga_f, ga_t, argsOf, dLc, wipeE, dListRg, dIndex, dSortSet, dSortSc, dEnum, dEnA, dZip, dIsi, dIsi2, isaT, φI, φB, φC, φNeg, add_i, add_l, add_t, mul_i, mul_l, φIx, sl_l, sl_t, eq_i, eq_s, eq_l, eq_t, eq_b, eq_n, φIsN, isN_n, isN_b, isN_i, isN_s, isN_l, isN_t, φLen, φList, φTuple, φAbs, φInt, φMax, φIsB, φIsNB, its_l, its_t, rd_sh, rd_nw, rd_br, rp_sh, rp_nw, rp_br, rp_bx, rp_raw, rp_sr, rr_sh, rr_nw, rr_br, ra_sh, ra_br, ra_bx, ra_raw, va_sh, va_nt, va_nf, va_raw, hb_n, hb_sh, hb_bx, hb_raw, hb_br, sh_n, sh_c, tr_n, tr_b, tr_i, tr_l, tr_t, ty_n, ty_b, ty_i, ty_s, ty_l, ty_t, if_ff, if_tt, Env.set, List.getElem?_cons_succ, List.getElem?_cons_zero, List.set_cons_succ, List.set_cons_zero, List.reverse_cons, List.reverse_nil, List.nil_append, List.cons_append, Option.bind_some, ite_true, ite_false])
theorem for_inv {γ : DTG} {p : DTS} {Δ : DEnds} {N : Nat} (I : Nat → Env → Prop) : ∀ (ds : List PyData) (k : Nat) (ε : Env), k + ds.length ≤ N → I k ε →
    (∀ d ∈ ds, ∀ (k : Nat) (ε : Env) (D : Env → Prop), k < N → I k ε → (∀ ε', I (k + 1) ε' → D ε') → γ d ε fun ε1 => p { nx := D, rt := Δ.rt, bk := Δ.nx, ct := D } ε1) →
    (∀ ε', I (k + ds.length) ε' → Δ.nx ε') → forD γ p Δ ds ε
  | [], k, ε, _, h, _, q => q ε h
  | d :: ds, k, ε, hN, h, st, q => for_cons (st d List.mem_cons_self k ε _ (by rw [List.length_cons] at hN; omega) h fun ε' h' => for_inv I ds (k + 1) ε' (by rw [List.length_cons] at hN; omega) h' (fun z hz => st z (List.mem_cons_of_mem _ hz)) fun ε2 h2 => q ε2 (by rw [List.length_cons, Nat.add_comm ds.length 1, ← Nat.add_assoc]; exact h2))
end Lp

namespace Lp
open PySem PySem.Spec PyProof.Rows L2
section
variable {X : Cx}
end
section
variable {w : Wx} {K : PySem.W.Frag} {ta te : TE} {f g : DTE}
def dCount (f g : DTE) (ε : Env) (Q : R → Env → Prop) : Prop := f ε fun x ε1 => match x.dat.bind PyData.its with
  | some ds => g ε1 fun y ε2 => match y.dat, intsD ds with
    | some (.int k), some ns => Q (.sh (.int (ns.count k : Nat))) ε2
    | _, _ => False
  | none => False
end
section
variable {X : Cx} {K : PySem.W.Frag}
end
section
variable {X : Cx}
end
section
variable {w : Wx} {K : PySem.W.Frag} {te : TE} {f : DTE}
def dSortSetA (f : DTE) (ε : Env) (Q : R → Env → Prop) : Prop := f ε fun r ε1 => match r.dat.bind PyData.its with
  | some ds => match intsD ds with
    | some ns => ns.length < 64 ∧ ∀ ms : List Int, ms.Pairwise (· < ·) → (∀ k, k ∈ ms ↔ k ∈ ns) → Q (.nw (dI ms)) ε1
    | none => False
  | none => False
end
end Lp

namespace Lp
open PySem PySem.Spec PyProof.Rows L2
local macro_rules | `(tactic| rfl') => `(tactic| try dsimp only [dVar_, gv_sh, gv_ow, gv_bx, gv_raw, gv_exn, gv_st, dC, dRaw, dOp, dUn, dTest, dTruth, dAnd, dOr, dNot, dYes, dIf, dAndV, dOrV, dNotV, dNotT, dChain, dNil, dCons, dTup, dLst, dats, dCB, dNoP, dPart, dSl, dNext, dBreak, dCont, dNever, dDrop, dRet, dRetN, dIfS, dSetG, dPar, dPar3, dAppend, dAppPop, dSetIx, dExt, dAug, dSet0, dSAdd, dSNotIn, dIter_, gi_l, gi_t, gi_b, dRng1, dRng2, dName, dGNil, dGCons, dGTup, dAsg, dFor, dWhile, dCall, dCallR, dArgs_, ga_f, ga_t, argsOf, dLc, wipeE, dListRg, dIndex, dSortSet, dSortSc, dEnum, dEnA, dZip, dIsi, dIsi2, isaT, φI, φB, φC, φNeg, add_i, add_l, add_t, mul_i, mul_l, φIx, sl_l, sl_t, eq_i, eq_s, eq_l, eq_t, eq_b, eq_n, φIsN, isN_n, isN_b, isN_i, isN_s, isN_l, isN_t, φLen, φList, φTuple, φAbs, φInt, φMax, φIsB, φIsNB, its_l, its_t, rd_sh, rd_nw, rd_br, rp_sh, rp_nw, rp_br, rp_bx, rp_raw, rp_sr, rr_sh, rr_nw, rr_br, ra_sh, ra_br, ra_bx, ra_raw, va_sh, va_nt, va_nf, va_raw, hb_n, hb_sh, hb_bx, hb_raw, hb_br, sh_n, sh_c, tr_n, tr_b, tr_i, tr_l, tr_t, ty_n, ty_b, ty_i, ty_s, ty_l, ty_t, if_ff, if_tt, Env.set, List.getElem?_cons_succ, List.getElem?_cons_zero, List.set_cons_succ, List.set_cons_zero, List.reverse_cons, List.reverse_nil, List.nil_append, List.cons_append, Option.bind_some, ite_true, ite_false, dCount, dSortSetA, dNewX, dNewX0, dExL, dExCat, dExIx, dAttrG, dIsG, dForE, dSlG, dMethX, dMeth, dMkCir, dFnL, dPickN, gv_gen, ra_gen, hb_gen, rp_gen, va_gen, rr_gen, dCallV, dCallVX])
def nBases : List Str := ["LookupError", "ValueError", "RuntimeError", "OverflowError"]
def nKinds : List Str := ["NoPerson", "NoNumber", "NoDeed", "OtherSize", "NoRoot", "MissingRoot", "NotKin", "NotPast", "BadDeed", "BadText", "BadLine", "Unreachable", "NoCommon", "Denied", "IsRoot", "TooMany"]
/-- of the class c: is it one of these -/
def askB (ns : List Str) (c : Str) : List Bool := ns.map fun n => [n].any (subX c)
def askD (ns : List Str) (c : Str) : List PyData := (askB ns c).map PyData.bool
/-- _law_bases: _law_made, _law_found -/
def b_law_bases [Fns] : DTS := (dSeq (dSetG false 1 (dLst (dCons (dIsG ["LookupError"] (dVar 0)) (dCons (dIsG ["ValueError"] (dVar 0)) dNil))))
  (dRet (dOp φAdd (dVar 1) (dLst (dCons (dIsG ["RuntimeError"] (dVar 0)) (dCons (dIsG ["OverflowError"] (dVar 0)) dNil))))))
abbrev k_law_bases : Nat := 1
def p_law_bases [Fns] : DSp := fun args c Q => ∃ x : Xn, args = [.gen (erG x)] ∧ Q (.nw (askD nBases x.cls)) c
theorem mon_law_bases [Fns] : MonF p_law_bases := by
  rintro args c A B h ⟨x, e, q⟩
  exact ⟨x, e, h _ _ q⟩
theorem m_law_bases [Fns] : ∀ args c Q, p_law_bases args c Q → defF k_law_bases b_law_bases args c Q := by
  rintro _ c Q ⟨x, rfl, q⟩
  show b_law_bases _ ⟨[.gen (erG x), .un], c⟩
  unfold b_law_bases
  refine sq_ ?_
  rfl'
  exact ⟨x, rfl, x, rfl, x, rfl, x, rfl, show 4 ≤ 16777216 by decide, q⟩
/-- _law_kinds: _law_made, _law_found -/
def b_law_kinds [Fns] : DTS := (dSeq (dSetG false 1 (dLst (dCons (dIsG ["NoPerson"] (dVar 0)) (dCons (dIsG ["NoNumber"] (dVar 0)) (dCons (dIsG ["NoDeed"] (dVar 0)) dNil)))))
  (dSeq (dSetG false 1 (dOp φAdd (dVar 1) (dLst (dCons (dIsG ["OtherSize"] (dVar 0)) (dCons (dIsG ["NoRoot"] (dVar 0)) dNil)))))
  (dSeq (dSetG false 1 (dOp φAdd (dVar 1) (dLst (dCons (dIsG ["MissingRoot"] (dVar 0)) (dCons (dIsG ["NotKin"] (dVar 0)) dNil)))))
  (dSeq (dSetG false 1 (dOp φAdd (dVar 1) (dLst (dCons (dIsG ["NotPast"] (dVar 0)) (dCons (dIsG ["BadDeed"] (dVar 0)) (dCons (dIsG ["BadText"] (dVar 0)) dNil))))))
  (dSeq (dSetG false 1 (dOp φAdd (dVar 1) (dLst (dCons (dIsG ["BadLine"] (dVar 0)) (dCons (dIsG ["Unreachable"] (dVar 0)) (dCons (dIsG ["NoCommon"] (dVar 0)) dNil))))))
  (dRet (dOp φAdd (dVar 1) (dLst (dCons (dIsG ["Denied"] (dVar 0)) (dCons (dIsG ["IsRoot"] (dVar 0)) (dCons (dIsG ["TooMany"] (dVar 0)) dNil)))))))))))
abbrev k_law_kinds : Nat := 1
def p_law_kinds [Fns] : DSp := fun args c Q => ∃ x : Xn, args = [.gen (erG x)] ∧ Q (.nw (askD nKinds x.cls)) c
theorem mon_law_kinds [Fns] : MonF p_law_kinds := by
  rintro args c A B h ⟨x, e, q⟩
  exact ⟨x, e, h _ _ q⟩
theorem m_law_kinds [Fns] : ∀ args c Q, p_law_kinds args c Q → defF k_law_kinds b_law_kinds args c Q := by
  rintro _ c Q ⟨x, rfl, q⟩
  show b_law_kinds _ ⟨[.gen (erG x), .un], c⟩
  unfold b_law_kinds
  refine sq_ ?_
  rfl'
  refine ⟨x, rfl, x, rfl, x, rfl, ?_⟩
  refine sq_ ?_
  rfl'
  refine ⟨x, rfl, x, rfl, show 5 ≤ 16777216 by decide, ?_⟩
  refine sq_ ?_
  rfl'
  refine ⟨x, rfl, x, rfl, show 7 ≤ 16777216 by decide, ?_⟩
  refine sq_ ?_
  rfl'
  refine ⟨x, rfl, x, rfl, x, rfl, show 10 ≤ 16777216 by decide, ?_⟩
  refine sq_ ?_
  rfl'
  refine ⟨x, rfl, x, rfl, x, rfl, show 13 ≤ 16777216 by decide, ?_⟩
  rfl'
  exact ⟨x, rfl, x, rfl, x, rfl, show 16 ≤ 16777216 by decide, q⟩
def baseI : List Int := [0, 0, 0, 1, 1, 1, 1, 1, 1, 1, 1, 2, 2, 2, 2, 3]
theorem kinds_at : ∀ k : Nat, k < 16 → askB nKinds (nKinds.getD k "") = (List.range 16).map fun j : Nat => decide (j = k) := by decide +kernel
theorem bases_at : ∀ k : Nat, k < 16 → askB nBases (nKinds.getD k "") = (List.range 4).map fun j : Nat => decide ((j : Int) = baseI.getD k 0) := by decide +kernel
theorem keys_at : ∀ k : Nat, k < 16 → (["KeyError", "IndexError"] : List Str).any (subX (nKinds.getD k "")) = false := by decide +kernel
theorem for_E [Fns] {i j : Nat} {p : DTS} {Δ : DEnds} (I : Nat → Env → Prop) : ∀ (xs : List Xn) (k : Nat) (ε : Env), I k ε →
    (∀ m x ε, xs[m]? = some x → I (k + m) ε → ∀ N : Env → Prop, (∀ ε', I (k + m + 1) ε' → N ε') → p { nx := N, rt := Δ.rt, bk := Δ.nx, ct := N } ((ε.set i (.sh (.int ((k + m : Nat) : Int)))).set j (.gen (erG x)))) →
    (∀ ε, I (k + xs.length) ε → Δ.nx ε) → forE i j p Δ k xs ε
  | [], k, ε, h, _, q => q ε h
  | x :: xs, k, ε, h, st, q => by
    refine st 0 x ε rfl h (fun ε' => forE i j p Δ (k + 1) xs ε') fun ε' h' => ?_
    refine for_E I xs (k + 1) ε' h' (fun m y ε2 hm h2 N hN => ?_) fun ε2 h2 => ?_
    · have e : k + 1 + m = k + (m + 1) := by omega
      rw [e] at h2 hN ⊢
      exact st (m + 1) y ε2 (by simpa using hm) h2 N hN
    · refine q ε2 ?_
      have e : k + (x :: xs).length = k + 1 + xs.length := by rw [List.length_cons]; omega
      rw [e]
      exact h2
theorem pl_B {bs : List Bool} {ds : List PyData} (h : ds = bs.map PyData.bool) : plD 1 (.list ds) = true := by
  subst h
  show (bs.map PyData.bool).all (plD 0) = true
  rw [List.all_map]
  exact List.all_eq_true.mpr fun b _ => rfl
theorem base_at : ∀ k : Nat, k < 16 → (baseI.getD k 0).toNat < 4 ∧ baseI.getD k 0 = ((baseI.getD k 0).toNat : Int) := by decide +kernel
theorem atI_k91 {α : Type} (l : List α) (k : Nat) (h : k < l.length) : atI l ((k : Nat) : Int) = l[k]? := by
  unfold atI
  have e : ixN l.length (k : Nat) = some k := by
    unfold ixN
    simp
    omega
  rw [e]
  rfl
/-- _law_all_right: _law_made, _law_base, _law_mark_at, _law_error, _law_k -/
def b_law_all_right [Fns] : DTS := (dSeq (dForE 2 3 (dVar 0) (dSeq (dIfS (dTest (dOp (φEq true) (dCall p_law_kinds (dCons (dVar 3) dNil)) (dLc (dRng1 (dCons (dC (.int 16)) dNil)) (dName 4) dYes (dOp (φEq false) (dVar 4) (dVar 2)) [4]))) (dRet (dC (.bool false))) dNext)
  (dSeq (dIfS (dOr (dTest (dOp φIsNB (dOp φIx (dCall p_law_bases (dCons (dVar 3) dNil)) (dOp φIx (dVar 1) (dVar 2))) (dC (.bool true)))) (dTruth (dIsG ["KeyError", "IndexError"] (dVar 3)))) (dRet (dC (.bool false))) dNext)
  (dIfS (dTest (dOp (φEq true) (dLc (dRng1 (dCons (dC (.int 4)) dNil)) (dName 4) (dAnd (dTest (dOp (φEq true) (dVar 4) (dOp φIx (dVar 1) (dVar 2)))) (dTruth (dOp φIx (dCall p_law_bases (dCons (dVar 3) dNil)) (dVar 4)))) (dVar 4) [4]) (dLst dNil))) (dRet (dC (.bool false))) dNext))))
  (dRet (dC (.bool true))))
abbrev k_law_all_right : Nat := 3
def p_law_all_right [Fns] : DSp := fun args c Q => ∃ xs : List Xn, args = [.gen (elG xs), .sh (.list (dI baseI))] ∧ xs.map Xn.cls = nKinds ∧ Q (.sh (.bool true)) c
theorem mon_law_all_right [Fns] : MonF p_law_all_right := by
  rintro args c A B h ⟨xs, e, h1, q⟩
  exact ⟨xs, e, h1, h _ _ q⟩
theorem m_law_all_right [Fns] : ∀ args c Q, p_law_all_right args c Q → defF k_law_all_right b_law_all_right args c Q := by
  rintro _ c Q ⟨xs, rfl, hx, q⟩
  show b_law_all_right _ ⟨[.gen (elG xs), .sh (.list (dI baseI)), .un, .un, .un], c⟩
  unfold b_law_all_right
  refine sq_ ?_
  rfl'
  refine ⟨xs, rfl, ?_⟩
  refine for_E (fun _ ε => ∃ s2 s3 s4, ε = ⟨[.gen (elG xs), .sh (.list (dI baseI)), s2, s3, s4], c⟩) xs 0 _ ⟨_, _, _, rfl⟩ (fun m x ε hm hI N hN => ?_) (fun ε hI => ?_)
  · obtain ⟨s2, s3, s4, rfl⟩ := hI
    have hlen : xs.length = 16 := by
      have h := congrArg List.length hx
      rw [List.length_map] at h
      exact h
    have hk : m < 16 := by
      have h := (List.getElem?_eq_some_iff.mp hm).1
      omega
    have hc : x.cls = nKinds.getD m "" := by
      rw [← hx, List.getD_eq_getElem?_getD, List.getElem?_map, hm]
      rfl
    have e0 : (0 + m : Nat) = m := Nat.zero_add m
    rw [e0]
    show dSeq _ _ _ ⟨[.gen (elG xs), .sh (.list (dI baseI)), .sh (.int (m : Nat)), .gen (erG x), s4], c⟩
    refine sq_ ?_
    rfl'
    refine ⟨x, rfl, ?_⟩
    refine ⟨by decide, ?_⟩
    rw [show rgD 0 (Int.toNat 16) = (List.range 16).map (fun i : Nat => PyData.int (i : Nat)) from rfl]
    refine lc_all (fun i : Nat => PyData.int (i : Nat)) (fun i : Nat => PyData.bool (decide ((i : Int) = (m : Int)))) (List.range 16) [] (fun i hi K hK => ?_) (by decide) ?_
    · rfl'
      exact hK _ _ rfl rfl
    have ek : (askD nKinds x.cls) = (List.range 16).map fun i : Nat => PyData.bool (decide ((i : Int) = (m : Int))) := by
      show (askB nKinds x.cls).map PyData.bool = _
      rw [hc, kinds_at m hk, List.map_map]
      refine List.map_congr_left fun i _ => ?_
      show PyData.bool (decide (i = m)) = PyData.bool (decide ((i : Int) = (m : Int)))
      congr 1
      exact decide_eq_decide.mpr (by omega)
    show φEq true (.list (askD nKinds x.cls)) (.list ((List.range 16).map fun i : Nat => PyData.bool (decide ((i : Int) = (m : Int))))) _
    rw [ek]
    refine φEqP (k := 1) (pl_B (bs := (List.range 16).map fun i : Nat => decide ((i : Int) = (m : Int))) (by rw [List.map_map]; rfl)) (by decide) rfl ?_
    rfl'
    refine if_f (by decide) ?_
    refine sq_ ?_
    rfl'
    obtain ⟨hb4, hbi⟩ := base_at m hk
    have ab : atI (dI baseI) ((m : Nat) : Int) = some (.int (baseI.getD m 0)) := by
      rw [atI_k91 _ _ (by show m < 16; exact hk)]
      unfold dI
      rw [List.getElem?_map, List.getD_eq_getElem?_getD]
      have h : m < baseI.length := hk
      rw [List.getElem?_eq_getElem h]
      rfl
    have eb : askD nBases x.cls = (List.range 4).map fun i : Nat => PyData.bool (decide ((i : Int) = baseI.getD m 0)) := by
      show (askB nBases x.cls).map PyData.bool = _
      rw [hc, bases_at m hk, List.map_map]
      rfl
    have at4 : ∀ i : Nat, i < 4 → atI (askD nBases x.cls) ((i : Nat) : Int) = some (.bool (decide ((i : Int) = baseI.getD m 0))) := fun i hi => by
      rw [eb, atI_k91 _ _ (by rw [List.length_map, List.length_range]; exact hi), List.getElem?_map, List.getElem?_range hi]
      rfl
    refine ⟨x, rfl, _, ab, ?_⟩
    show ∃ d, atI (askD nBases x.cls) (baseI.getD m 0) = some d ∧ _
    have at5 := at4 _ hb4
    rw [← hbi, decide_eq_true rfl] at at5
    refine ⟨.bool true, at5, ?_⟩
    rfl'
    refine if_f (by decide) ?_
    refine ⟨x, rfl, if_f (by rw [hc]; exact keys_at m hk) ?_⟩
    refine ⟨by decide, ?_⟩
    rw [show rgD 0 (Int.toNat 4) = (List.range 4).map (fun i : Nat => PyData.int (i : Nat)) from rfl]
    refine lc_if (fun i : Nat => PyData.int (i : Nat)) (fun i : Nat => PyData.int (i : Nat)) (fun _ => false) (List.range 4) [] (fun i hi Y N2 hY hN2 => ?_) (by decide) ?_
    · have hi4 : i < 4 := List.mem_range.mp hi
      rfl'
      refine ⟨_, ab, ?_⟩
      rfl'
      by_cases e : (i : Int) = baseI.getD m 0
      · exact if_f (by rw [decide_eq_true e]; rfl) (hN2 rfl _ rfl)
      · refine if_t (by rw [decide_eq_false e]; rfl) ?_
        refine ⟨x, rfl, ?_⟩
        show ∃ d, atI (askD nBases x.cls) ((i : Nat) : Int) = some d ∧ _
        exact ⟨_, at4 i hi4, if_f (decide_eq_false e) (hN2 rfl _ rfl)⟩
    · show φEq true (.list []) (.list []) _
      refine φEqP (k := 1) rfl (by decide) rfl ?_
      rfl'
      exact if_f (by decide) (hN _ ⟨_, _, _, rfl⟩)
  · obtain ⟨s2, s3, s4, rfl⟩ := hI
    rfl'
    exact q
def e1_91 (i : Int) : List Xn := [⟨"NoPerson", [("person", .int i)]⟩, ⟨"NoNumber", [("number", .int i)]⟩, ⟨"NoDeed", [("many", .int i)]⟩, ⟨"OtherSize", [("size", .int i)]⟩, ⟨"NoRoot", [("person", .int i)]⟩, ⟨"MissingRoot", [("person", .int i)]⟩, ⟨"NotKin", []⟩]
def e2_91 (i : Int) (as bs : List PyData) : List Xn := [⟨"NotPast", []⟩, ⟨"BadDeed", [("at", .int i)]⟩, ⟨"BadText", [("at", .int i)]⟩, ⟨"BadLine", [("at", .int i)]⟩, ⟨"Unreachable", [("obstacle", .tuple as)]⟩, ⟨"NoCommon", [("bar", .tuple bs)]⟩]
def e3_91 (i : Int) (as : List PyData) : List Xn := [⟨"Denied", [("obstacle", .tuple as)]⟩, ⟨"IsRoot", [("person", .int i)]⟩, ⟨"TooMany", [("many", .int i)]⟩]
/-- _law_right: _law_cell, _law_reason, _law_bar_due, _law_made, _law_base, _law_found, _law_reasons, _law_due -/
def b_k91_law_right [Fns] : DTS := (dSeq (dSetG false 3 (dExL (dCons (dNewX "NoPerson" "person" (dVar 0)) (dCons (dNewX "NoNumber" "number" (dVar 0)) (dCons (dNewX "NoDeed" "many" (dVar 0)) (dCons (dNewX "OtherSize" "size" (dVar 0)) (dCons (dNewX "NoRoot" "person" (dVar 0)) (dCons (dNewX "MissingRoot" "person" (dVar 0)) (dCons (dNewX0 "NotKin") dNil)))))))))
  (dSeq (dSetG false 3 (dExCat (dVar 3) (dExL (dCons (dNewX0 "NotPast") (dCons (dNewX "BadDeed" "at" (dVar 0)) (dCons (dNewX "BadText" "at" (dVar 0)) (dCons (dNewX "BadLine" "at" (dVar 0)) (dCons (dNewX "Unreachable" "obstacle" (dVar 1)) (dCons (dNewX "NoCommon" "bar" (dVar 2)) dNil)))))))))
  (dSeq (dSetG false 3 (dExCat (dVar 3) (dExL (dCons (dNewX "Denied" "obstacle" (dVar 1)) (dCons (dNewX "IsRoot" "person" (dVar 0)) (dCons (dNewX "TooMany" "many" (dVar 0)) dNil))))))
  (dSeq (dSetG false 4 (dLst (dCons (dC (.int 0)) (dCons (dC (.int 0)) (dCons (dC (.int 0)) (dCons (dC (.int 1)) (dCons (dC (.int 1)) (dCons (dC (.int 1)) (dCons (dC (.int 1)) (dCons (dC (.int 1)) (dCons (dC (.int 1)) (dCons (dC (.int 1)) (dCons (dC (.int 1)) (dCons (dC (.int 2)) (dCons (dC (.int 2)) (dCons (dC (.int 2)) (dCons (dC (.int 2)) (dCons (dC (.int 3)) dNil))))))))))))))))))
  (dSeq (dSetG false 5 (dLst (dCons (dAttrG "person" (dExIx 0 (dVar 3))) (dCons (dAttrG "number" (dExIx 1 (dVar 3))) (dCons (dAttrG "many" (dExIx 2 (dVar 3))) (dCons (dAttrG "size" (dExIx 3 (dVar 3))) (dCons (dAttrG "person" (dExIx 4 (dVar 3))) (dCons (dAttrG "person" (dExIx 5 (dVar 3))) (dCons (dAttrG "at" (dExIx 8 (dVar 3))) dNil)))))))))
  (dSeq (dSetG false 5 (dOp φAdd (dVar 5) (dLst (dCons (dAttrG "at" (dExIx 9 (dVar 3))) (dCons (dAttrG "at" (dExIx 10 (dVar 3))) (dCons (dAttrG "person" (dExIx 14 (dVar 3))) (dCons (dAttrG "many" (dExIx 15 (dVar 3))) dNil)))))))
  (dSeq (dSetG false 6 (dLst (dCons (dAttrG "obstacle" (dExIx 11 (dVar 3))) (dCons (dAttrG "bar" (dExIx 12 (dVar 3))) (dCons (dAttrG "obstacle" (dExIx 13 (dVar 3))) dNil)))))
  (dSeq (dSetG false 7 (dLst (dCons (dVar 1) (dCons (dVar 2) (dCons (dVar 1) dNil)))))
  (dSeq (dIfS (dOr (dNot (dTruth (dCall (p_law_same_3 3) (dCons (dVar 5) (dCons (dOp φMul (dLst (dCons (dVar 0) dNil)) (dC (.int 11))) dNil))))) (dOr (dNot (dTruth (dCall (p_law_same_3 3) (dCons (dVar 6) (dCons (dVar 7) dNil))))) (dNot (dTruth (dCall p_law_all_right (dCons (dVar 3) (dCons (dVar 4) dNil))))))) (dRet (dC (.bool false))) dNext)
  (dSeq (dSetG false 5 (dLst (dCons (dAttrG "person" (dNewX "NoPerson" "person" (dVar 0))) (dCons (dAttrG "number" (dNewX "NoNumber" "number" (dVar 0))) (dCons (dAttrG "many" (dNewX "NoDeed" "many" (dVar 0))) dNil)))))
  (dSeq (dSetG false 5 (dOp φAdd (dVar 5) (dLst (dCons (dAttrG "size" (dNewX "OtherSize" "size" (dVar 0))) (dCons (dAttrG "person" (dNewX "NoRoot" "person" (dVar 0))) (dCons (dAttrG "person" (dNewX "MissingRoot" "person" (dVar 0))) dNil))))))
  (dSeq (dSetG false 5 (dOp φAdd (dVar 5) (dLst (dCons (dAttrG "at" (dNewX "BadDeed" "at" (dVar 0))) (dCons (dAttrG "at" (dNewX "BadText" "at" (dVar 0))) (dCons (dAttrG "at" (dNewX "BadLine" "at" (dVar 0))) (dCons (dAttrG "person" (dNewX "IsRoot" "person" (dVar 0))) dNil)))))))
  (dSeq (dSetG false 6 (dLst (dCons (dAttrG "obstacle" (dNewX "Unreachable" "obstacle" (dVar 1))) (dCons (dAttrG "bar" (dNewX "NoCommon" "bar" (dVar 2))) (dCons (dAttrG "obstacle" (dNewX "Denied" "obstacle" (dVar 1))) dNil)))))
  (dRet (dAndV (dCall (p_law_same_3 3) (dCons (dOp φAdd (dVar 5) (dLst (dCons (dAttrG "many" (dNewX "TooMany" "many" (dVar 0))) dNil))) (dCons (dOp φMul (dLst (dCons (dVar 0) dNil)) (dC (.int 11))) dNil))) (dCall (p_law_same_3 3) (dCons (dVar 6) (dCons (dVar 7) dNil))))))))))))))))))
abbrev k_k91_law_right : Nat := 5
def p_k91_law_right [Fns] : DSp := fun args c Q => ∃ (i : Int) (as bs : List PyData), args = [.sh (.int i), .sh (.tuple as), .sh (.tuple bs)] ∧ dep 2 (.tuple as) = true ∧ dep 2 (.tuple bs) = true ∧ Q (.sh (.bool true)) c
theorem mon_k91_law_right [Fns] : MonF p_k91_law_right := by
  rintro args c A B h ⟨i, as, bs, e, h1, h2, q⟩
  exact ⟨i, as, bs, e, h1, h2, h _ _ q⟩
theorem m_k91_law_right [Fns] : ∀ args c Q, p_k91_law_right args c Q → defF k_k91_law_right b_k91_law_right args c Q := by
  rintro _ c Q ⟨i, as, bs, rfl, h1, h2, q⟩
  show b_k91_law_right _ ⟨[.sh (.int i), .sh (.tuple as), .sh (.tuple bs), .un, .un, .un, .un, .un], c⟩
  unfold b_k91_law_right
  refine sq_ ?_
  rfl'
  refine ⟨e1_91 i, rfl, ?_⟩
  refine sq_ ?_
  rfl'
  refine ⟨e2_91 i as bs, rfl, e1_91 i, e2_91 i as bs, rfl, rfl, show 13 ≤ 16777216 by decide, ?_⟩
  refine sq_ ?_
  rfl'
  refine ⟨e3_91 i as, rfl, e1_91 i ++ e2_91 i as bs, e3_91 i as, rfl, rfl, show 16 ≤ 16777216 by decide, ?_⟩
  refine sq_ ?_
  rfl'
  refine sq_ ?_
  rfl'
  refine ⟨_, _, rfl, rfl, _, _, rfl, rfl, _, _, rfl, rfl, _, _, rfl, rfl, _, _, rfl, rfl, _, _, rfl, rfl, _, _, rfl, rfl, _, _, rfl, rfl, _, _, rfl, rfl, _, _, rfl, rfl, _, _, rfl, rfl, _, _, rfl, rfl, _, _, rfl, rfl, _, _, rfl, rfl, ?_⟩
  refine sq_ ?_
  rfl'
  refine ⟨_, _, rfl, rfl, _, _, rfl, rfl, _, _, rfl, rfl, _, _, rfl, rfl, _, _, rfl, rfl, _, _, rfl, rfl, _, _, rfl, rfl, _, _, rfl, rfl, show 11 ≤ 16777216 by decide, ?_⟩
  refine sq_ ?_
  rfl'
  refine ⟨_, _, rfl, rfl, _, _, rfl, rfl, _, _, rfl, rfl, _, _, rfl, rfl, _, _, rfl, rfl, _, _, rfl, rfl, ?_⟩
  refine sq_ ?_
  rfl'
  refine sq_ ?_
  rfl'
  have hd : dep 3 (.list [.tuple as, .tuple bs, .tuple as]) = true := by
    show (decide ((3 : Nat) ≤ 1000000) && (dep 2 (.tuple as) && (dep 2 (.tuple bs) && (dep 2 (.tuple as) && true)))) = true
    rw [h1, h2]
    rfl
  refine ⟨⟨by decide, by decide, show 11 ≤ 16777216 by decide⟩, ?_⟩
  refine ⟨_, _, rfl, rfl, rfl, ?_⟩
  rfl'
  refine if_f (by decide) ?_
  refine ⟨_, _, rfl, rfl, hd, ?_⟩
  rfl'
  refine if_f (by decide) ?_
  refine ⟨_, rfl, rfl, ?_⟩
  rfl'
  refine if_f (by decide) ?_
  refine sq_ ?_
  rfl'
  refine ⟨_, _, rfl, rfl, _, _, rfl, rfl, _, _, rfl, rfl, ?_⟩
  refine sq_ ?_
  rfl'
  refine ⟨_, _, rfl, rfl, _, _, rfl, rfl, _, _, rfl, rfl, show 6 ≤ 16777216 by decide, ?_⟩
  refine sq_ ?_
  rfl'
  refine ⟨_, _, rfl, rfl, _, _, rfl, rfl, _, _, rfl, rfl, _, _, rfl, rfl, show 10 ≤ 16777216 by decide, ?_⟩
  refine sq_ ?_
  rfl'
  refine ⟨_, _, rfl, rfl, _, _, rfl, rfl, _, _, rfl, rfl, ?_⟩
  rfl'
  exact ⟨_, _, rfl, rfl, show 11 ≤ 16777216 by decide, ⟨by decide, by decide, show 11 ≤ 16777216 by decide⟩, _, _, rfl, rfl, rfl, if_t rfl ⟨_, _, rfl, rfl, hd, q⟩⟩
theorem cut_k91 (ns : List Int) (l h : Option Int) : ∃ ms : List Int, cutD (ns.map PyData.int) l h = ms.map PyData.int ∧ ms.length ≤ ns.length := by
  unfold cutD
  rw [← List.map_drop, ← List.map_take]
  exact ⟨_, rfl, by rw [List.length_take, List.length_drop]; omega⟩
def b_k91_law [Fns] (K : PySem.W.Frag) : DTS := (dSeq (dSetG false 1 (dOp φAdd (dLc (dIter (dSlG K (dVar 0))) (dName 2) dYes (dOp φAdd (dOp (φC (fun _ j => 0 < j) fun i j => i % j) (dCB φAbs (dCons (dVar 2) dNil)) (dC (.int 39))) (dC (.int 1))) [2]) (dLst (dCons (dC (.int 1)) dNil))))
  (dSeq (dFor (dEnA (dCons (dVar 1) dNil)) (dGTup 2 (dGCons (dName 3) (dGCons (dName 2) dGNil))) (dSeq (dSetG false 4 (dOp (φI fun i j => i - j) (dVar 2) (dC (.int 1))))
  (dSeq (dSetG false 5 (dOp φIx (dLst (dCons (dTup (dCons (dC (.str "way")) (dCons (dVar 4) dNil))) (dCons (dTup (dCons (dC (.str "rings")) (dCons (dVar 4) (dCons (dOp φAdd (dC (.int 1)) (dVar 4)) dNil)))) (dCons (dTup (dCons (dC (.str "order")) (dCons (dC (.int 0)) (dCons (dOp φAdd (dC (.int 2)) (dVar 4)) (dCons (dC (.int 1)) dNil))))) dNil)))) (dOp (φC (fun _ j => 0 < j) fun i j => i % j) (dVar 3) (dC (.int 3)))))
  (dSeq (dSetG false 6 (dOp φIx (dLst (dCons (dTup (dCons (dC (.str "people")) (dCons (dVar 4) dNil))) (dCons (dTup (dCons (dC (.str "order")) (dCons (dC (.int 0)) (dCons (dC (.int 1)) (dCons (dOp φAdd (dC (.int 2)) (dVar 4)) dNil))))) (dCons (dTup (dCons (dC (.str "rings")) (dCons (dVar 4) dNil))) dNil)))) (dOp (φC (fun _ j => 0 < j) fun i j => i % j) (dVar 3) (dC (.int 3)))))
  (dIfS (dNot (dTruth (dCall p_k91_law_right (dCons (dVar 2) (dCons (dVar 5) (dCons (dVar 6) dNil)))))) (dRet (dC (.bool false))) dNext)))))
  (dRet (dC (.bool true)))))
def cel (z : Int) : Int := (if z < 0 then -z else z) % 39 + 1
def p_k91_law (K : PySem.W.Frag) : DSp := fun args c Q => ∃ ns : List Int, args = [.gen (scrG K ns)] ∧ ns.length ≤ 63 ∧ Q (.sh (.bool true)) c
theorem m_k91_law [Fns] {K : PySem.W.Frag} : ∀ args c Q, p_k91_law K args c Q → defF 6 (b_k91_law K) args c Q := by
  rintro _ c Q ⟨ns, rfl, hl, q⟩
  show b_k91_law K _ ⟨[.gen (scrG K ns), .un, .un, .un, .un, .un, .un], c⟩
  unfold b_k91_law
  refine sq_ ?_
  rfl'
  refine ⟨ns, rfl, ?_⟩
  obtain ⟨ms, em, lm⟩ := cut_k91 ns none (some 8)
  rw [em]
  refine lc_all PyData.int (fun z : Int => .int (cel z)) ms [] (fun z hz K2 hK => ?_) (by show 0 + _ ≤ _; omega) ?_
  · rfl'
    exact ⟨by decide, hK _ _ rfl rfl⟩
  · rw [List.nil_append]
    show φAdd (.list (ms.map fun z : Int => PyData.int (cel z))) (.list [.int 1]) _
    refine ⟨by rw [List.length_map]; show ms.length + 1 ≤ 16777216; omega, ?_⟩
    refine sq_ ?_
    rfl'
    refine ⟨rfl, ?_⟩
    have eL : (ms.map fun z : Int => PyData.int (cel z)) ++ [PyData.int 1] = dI (ms.map cel ++ [1]) := by
      unfold dI
      rw [List.map_append, List.map_map]
      rfl
    rw [eL]
    generalize ms.map cel ++ [1] = cs
    refine for_inv (N := (enD (dI cs)).length) (fun _ ε => ∃ s2 s3 s4 s5 s6, ε = ⟨[.gen (scrG K ns), .sh (.list (dI cs)), s2, s3, s4, s5, s6], c⟩) (enD (dI cs)) 0 _ (by omega) ⟨_, _, _, _, _, rfl⟩ (fun d hd k ε D hk hI hD => ?_) fun ε hI => ?_
    · obtain ⟨s2, s3, s4, s5, s6, rfl⟩ := hI
      obtain ⟨i, hi⟩ := List.mem_iff_getElem?.mp hd
      obtain ⟨d', h1, rfl⟩ := enD_get hi
      have h2 := List.mem_of_getElem? h1
      obtain ⟨z, _, rfl⟩ := List.mem_map.mp h2
      refine ⟨rfl, ?_⟩
      rfl'
      refine sq_ ?_
      rfl'
      refine sq_ ?_
      rfl'
      have h3 : ((i : Nat) : Int) % 3 = 0 ∨ ((i : Nat) : Int) % 3 = 1 ∨ ((i : Nat) : Int) % 3 = 2 := by omega
      rcases h3 with e | e | e
      · refine ⟨by decide, ?_⟩
        rw [e]
        refine ⟨_, rfl, ?_⟩
        refine sq_ ?_
        rfl'
        rw [e]
        refine ⟨by decide, _, rfl, ?_⟩
        rfl'
        refine ⟨_, _, _, rfl, rfl, rfl, ?_⟩
        rfl'
        exact if_f (by decide) (hD _ ⟨_, _, _, _, _, rfl⟩)
      · refine ⟨by decide, ?_⟩
        rw [e]
        refine ⟨_, rfl, ?_⟩
        refine sq_ ?_
        rfl'
        rw [e]
        refine ⟨by decide, _, rfl, ?_⟩
        rfl'
        refine ⟨_, _, _, rfl, rfl, rfl, ?_⟩
        rfl'
        exact if_f (by decide) (hD _ ⟨_, _, _, _, _, rfl⟩)
      · refine ⟨by decide, ?_⟩
        rw [e]
        refine ⟨_, rfl, ?_⟩
        refine sq_ ?_
        rfl'
        rw [e]
        refine ⟨by decide, _, rfl, ?_⟩
        rfl'
        refine ⟨_, _, _, rfl, rfl, rfl, ?_⟩
        rfl'
        exact if_f (by decide) (hD _ ⟨_, _, _, _, _, rfl⟩)
    · obtain ⟨s2, s3, s4, s5, s6, rfl⟩ := hI
      rfl'
      exact q
end Lp

namespace Lp
open PySem PySem.Spec PyProof.Rows L2
local macro_rules | `(tactic| rfl') => `(tactic| try dsimp only [dVar_, gv_sh, gv_ow, gv_bx, gv_raw, gv_st, dC, dRaw, dOp, dUn, dTest, dTruth, dAnd, dOr, dNot, dYes, dIf, dAndV, dOrV, dNotV, dNotT, dChain, dNil, dCons, dTup, dLst, dats, dCB, dNoP, dPart, dSl, dNext, dBreak, dCont, dNever, dDrop, dRet, dRetN, dIfS, dSetG, dPar, dPar3, dAppend, dAppPop, dSetIx, dExt, dAug, dSet0, dSAdd, dSNotIn, dIter_, gi_l, gi_t, gi_b, dRng1, dRng2, dName, dGNil, dGCons, dGTup, dAsg, dFor, dWhile, dCall, dCallR, dArgs_, ga_f, ga_t, argsOf, dLc, wipeE, dListRg, dIndex, dSortSet, dSortSc, dEnum, dEnA, dZip, dIsi, dIsi2, isaT, φI, φB, φC, φNeg, add_i, add_l, add_t, mul_i, mul_l, φIx, sl_l, sl_t, eq_i, eq_s, eq_l, eq_t, eq_b, eq_n, φIsN, isN_n, isN_b, isN_i, isN_s, isN_l, isN_t, φLen, φList, φTuple, φAbs, φInt, φMax, φIsB, φIsNB, its_l, its_t, rd_sh, rd_nw, rd_br, rp_sh, rp_nw, rp_br, rp_bx, rp_raw, rp_sr, rr_sh, rr_nw, rr_br, ra_sh, ra_br, ra_bx, ra_raw, va_sh, va_nt, va_nf, va_raw, hb_n, hb_sh, hb_bx, hb_raw, hb_br, sh_n, sh_c, tr_n, tr_b, tr_i, tr_l, tr_t, ty_n, ty_b, ty_i, ty_s, ty_l, ty_t, if_ff, if_tt, Env.set, List.getElem?_cons_succ, List.getElem?_cons_zero, List.set_cons_succ, List.set_cons_zero, List.reverse_cons, List.reverse_nil, List.nil_append, List.cons_append, Option.bind_some, ite_true, ite_false])
/-- all but b stand as they stood -/
def Sb (b : Addr) (H H' : Hp) : Prop := ∀ a o, a ≠ b → H a = some o → H' a = some o
theorem Sb.refl (b : Addr) (H : Hp) : Sb b H H := fun _ _ _ h => h
theorem Sb.trans {b : Addr} {H H1 H2 : Hp} (x : Sb b H H1) (y : Sb b H1 H2) : Sb b H H2 := fun a o n h => y a o n (x a o n h)
theorem Sb.upd {b : Addr} {H H1 : Hp} {o : HO} (x : Sb b H H1) : Sb b H (upd H1 b o) := fun a u n h => by
  rw [upd_ne n]; exact x a u n h
def spLaw (K : PySem.W.Frag) : Sp := fun vs H Q _ => ∃ (a : Addr) (ns : List Int), vs = [.ref a] ∧ SqL K H a (IL ns) ∧ ns.length ≤ 63 ∧ ∀ H', Q (.bl true) H'
theorem fn_none {P : Program} {w : World} {K : PySem.W.Frag} {mg : Str → Option Value} {base : Heap} {k : Nat} {f : Addr} {fd : FuncData} {ps : List Str} {sp : Sp} (h : ∀ vs H Q E, ¬ sp vs H Q E) : FnOk P w K mg base CX0 k f fd ps sp :=
  ⟨fun vs H Q E z => absurd z (h vs H Q E), fun A outer s H args us vs Q E hr he hb hv z => absurd z (h vs H Q E)⟩
theorem spD_none {n : Nat} {F : DSp} (h : ∀ args c Q, ¬ F args c Q) : ∀ vs H Q E, ¬ spD n F vs H Q E := fun vs H Q E ⟨b, L, c, args, _, _, _, z⟩ => h _ _ _ z
/-- a list stands where its object stands -/
theorem SqL.keep {K : PySem.W.Frag} {H H' : Hp} {a : Addr} {xs : List V} (h : SqL K H a xs) (k : ∀ o, H a = some o → H' a = some o) : SqL K H' a xs := by
  rcases h with h | h
  · refine .inl ?_
    rcases h with h | ⟨o, h⟩
    · exact .inl (k _ h)
    · exact .inr ⟨o, k _ h⟩
  · exact .inr h
def Stay (K : PySem.W.Frag) (D a : Addr) (xs : List V) (H : Hp) : Prop := (∃ o, H a = some o ∧ a ≠ D ∧ ∀ H', H' a = some o → SqL K H' a xs) ∨ ∀ H', SqL K H' a xs
theorem Stay.of {K : PySem.W.Frag} {D a : Addr} {xs : List V} {H : Hp} {u : HO} (h : SqL K H a xs) (n : H D = none) : Stay K D a xs (upd H D u) := by
  rcases h with h | h
  · refine .inl ?_
    rcases h with h | ⟨o, h⟩
    · have z : a ≠ D := ne_of_none h n
      exact ⟨_, by rw [upd_ne z]; exact h, z, fun H' e => .inl (.inl e)⟩
    · have z : a ≠ D := ne_of_none h n
      exact ⟨_, by rw [upd_ne z]; exact h, z, fun H' e => .inl (.inr ⟨o, e⟩)⟩
  · exact .inr fun H' => .inr h
theorem Stay.step {K : PySem.W.Frag} {D a b : Addr} {xs : List V} {H H6 H7 : Hp} {u : HO} (h : Stay K D a xs H) (s : Same H H6) (n : H b = none) (sb : Sb b H6 H7) : Stay K D a xs (upd H7 D u) := by
  rcases h with ⟨o, e, z, h⟩ | h
  · exact .inl ⟨o, by rw [upd_ne z]; exact sb a o (ne_of_none e n) (s a o e), z, h⟩
  · exact .inr h
end Lp

namespace Lp
open PySem PySem.Spec PyProof.Rows L2
local macro_rules | `(tactic| rfl') => `(tactic| try dsimp only [dVar_, gv_sh, gv_ow, gv_bx, gv_raw, gv_st, dC, dRaw, dOp, dUn, dTest, dTruth, dAnd, dOr, dNot, dYes, dIf, dAndV, dOrV, dNotV, dNotT, dChain, dNil, dCons, dTup, dLst, dats, dCB, dNoP, dPart, dSl, dNext, dBreak, dCont, dNever, dDrop, dRet, dRetN, dIfS, dSetG, dPar, dPar3, dAppend, dAppPop, dSetIx, dExt, dAug, dSet0, dSAdd, dSNotIn, dIter_, gi_l, gi_t, gi_b, dRng1, dRng2, dName, dGNil, dGCons, dGTup, dAsg, dFor, dWhile, dCall, dCallR, dArgs_, ga_f, ga_t, argsOf, dLc, wipeE, dListRg, dIndex, dSortSet, dSortSc, dEnum, dEnA, dZip, dIsi, dIsi2, isaT, φI, φB, φC, φNeg, add_i, add_l, add_t, mul_i, mul_l, φIx, sl_l, sl_t, eq_i, eq_s, eq_l, eq_t, eq_b, eq_n, φIsN, isN_n, isN_b, isN_i, isN_s, isN_l, isN_t, φLen, φList, φTuple, φAbs, φInt, φMax, φIsB, φIsNB, its_l, its_t, rd_sh, rd_nw, rd_br, rp_sh, rp_nw, rp_br, rp_bx, rp_raw, rp_sr, rr_sh, rr_nw, rr_br, ra_sh, ra_br, ra_bx, ra_raw, va_sh, va_nt, va_nf, va_raw, hb_n, hb_sh, hb_bx, hb_raw, hb_br, sh_n, sh_c, tr_n, tr_b, tr_i, tr_l, tr_t, ty_n, ty_b, ty_i, ty_s, ty_l, ty_t, if_ff, if_tt, Env.set, List.getElem?_cons_succ, List.getElem?_cons_zero, List.set_cons_succ, List.set_cons_zero, List.reverse_cons, List.reverse_nil, List.nil_append, List.cons_append, Option.bind_some, ite_true, ite_false])
theorem Box.ne {H : Hp} {b D : Addr} {c : Nat} (x : Box H b c) (n : H D = none) : b ≠ D := fun z => x.there (by rw [z]; exact n)
theorem Box.new {H : Hp} {b D : Addr} {c : Nat} {o : HO} (x : Box H b c) (n : H D = none) : Box (upd H D o) b c := x.keep (upd_ne (x.ne n))
theorem Box.put {H : Hp} {b D : Addr} {c : Nat} {o : HO} (x : Box H b c) (n : b ≠ D) : Box (upd H D o) b c := x.keep (upd_ne n)
end Lp

namespace Lp
open PySem PySem.Spec PyProof.Rows L2
section
variable {X : Cx} {o e : Expr} {es : List Expr} {to te : TE} {ta : TA} {f : Str} {p p' p1 p2 pos : Pos} {B newId initId : String} {bm : List Value}
theorem pe_initLookupError {pl : Sem Bool} (hg : Gl X "LookupError") (hm : X.mg "LookupError" = none) (vV : PySem.W.findCls X.K (.type "LookupError") (.type "type") "__init__" = some (.val (.builtin "LookupError.__init__"))) (ha : PA X (e :: es) ta)
    (hc : eval (.Call (.Attribute (.Name "LookupError" p1) "__init__" p2) (e :: es) [] pos) X.env = (do
      let ov ← eval (.Name "LookupError" p1) X.env
      standAt p2.atName
      let (f, first) ← holding [ov] (getMethod ov "__init__" pl)
      callWith pos f first (backTo pos (starEach (e :: es) X.env)) (backToKw pos (keywordEach [] X.env))) := by rfl)
    (he : starEach (e :: es) X.env = (false, eval e X.env) :: starEach es X.env := by rfl) (hpl : (backTo pos (starEach es X.env)).any (·.1) = false := by rfl) :
    PE X (.Call (.Attribute (.Name "LookupError" p1) "__init__" p2) (e :: es) [] pos) (tInitB X.K "LookupError" newId "LookupError.__init__" bm ta) := by
  refine ⟨fun pins s σ H Q I h => ?_⟩
  refine PySem.W.methodCall_KW (ld_blt I hg hm PyProof.Rows.Boot.«LookupError» ?_ (by decide) (by decide)) hc
  obtain ⟨m, fr⟩ := I.fr
  refine PySem.W.method_type fr I.ok.mod.kin (show typeOf (.type "LookupError") = pure (.type "type") by kernel_rfl) (by decide +kernel) vV (by decide +kernel) ?_
  show wpAny _ _ (callWith pos (Value.builtin "LookupError.__init__") [] (backTo pos (starEach (e :: es) X.env)) []) _ _ _
  refine PyProof.Rows.callWith_method1 (thn (ha.run pos pins _ σ H _ (I.tok _) h) fun us s1 ⟨vs, H1, I1, r1, a, C, ws, ev, few, T, ea, q⟩ => ?_) he hpl
  subst ev
  cases r1 with
  | @cons _ u0 _ ur ra rw' =>
    obtain rfl : u0 = Value.ref a := ra
    exact init_B T I1 ea (by rw [← Paired.length rw', sizeLine_eq]; omega) fun s' J => ⟨.non, H1, J, rfl, q⟩
end
end Lp

namespace Lp
open PySem PySem.Spec PyProof.Rows L2
section
variable {X : Cx} {o e : Expr} {es : List Expr} {to te : TE} {ta : TA} {f : Str} {p p' p1 p2 pos : Pos} {B newId initId : String} {bm : List Value}
theorem pe_initValueError {pl : Sem Bool} (hg : Gl X "ValueError") (hm : X.mg "ValueError" = none) (vV : PySem.W.findCls X.K (.type "ValueError") (.type "type") "__init__" = some (.val (.builtin "ValueError.__init__"))) (ha : PA X (e :: es) ta)
    (hc : eval (.Call (.Attribute (.Name "ValueError" p1) "__init__" p2) (e :: es) [] pos) X.env = (do
      let ov ← eval (.Name "ValueError" p1) X.env
      standAt p2.atName
      let (f, first) ← holding [ov] (getMethod ov "__init__" pl)
      callWith pos f first (backTo pos (starEach (e :: es) X.env)) (backToKw pos (keywordEach [] X.env))) := by rfl)
    (he : starEach (e :: es) X.env = (false, eval e X.env) :: starEach es X.env := by rfl) (hpl : (backTo pos (starEach es X.env)).any (·.1) = false := by rfl) :
    PE X (.Call (.Attribute (.Name "ValueError" p1) "__init__" p2) (e :: es) [] pos) (tInitB X.K "ValueError" newId "ValueError.__init__" bm ta) := by
  refine ⟨fun pins s σ H Q I h => ?_⟩
  refine PySem.W.methodCall_KW (ld_blt I hg hm PyProof.Rows.Boot.«ValueError» ?_ (by decide) (by decide)) hc
  obtain ⟨m, fr⟩ := I.fr
  refine PySem.W.method_type fr I.ok.mod.kin (show typeOf (.type "ValueError") = pure (.type "type") by kernel_rfl) (by decide +kernel) vV (by decide +kernel) ?_
  show wpAny _ _ (callWith pos (Value.builtin "ValueError.__init__") [] (backTo pos (starEach (e :: es) X.env)) []) _ _ _
  refine PyProof.Rows.callWith_method1 (thn (ha.run pos pins _ σ H _ (I.tok _) h) fun us s1 ⟨vs, H1, I1, r1, a, C, ws, ev, few, T, ea, q⟩ => ?_) he hpl
  subst ev
  cases r1 with
  | @cons _ u0 _ ur ra rw' =>
    obtain rfl : u0 = Value.ref a := ra
    exact init_B T I1 ea (by rw [← Paired.length rw', sizeLine_eq]; omega) fun s' J => ⟨.non, H1, J, rfl, q⟩
end
end Lp

namespace Lp
open PySem PySem.Spec PyProof.Rows L2
section
variable {X : Cx} {o e : Expr} {es : List Expr} {to te : TE} {ta : TA} {f : Str} {p p' p1 p2 pos : Pos} {B newId initId : String} {bm : List Value}
theorem pe_initOverflowError {pl : Sem Bool} (hg : Gl X "OverflowError") (hm : X.mg "OverflowError" = none) (vV : PySem.W.findCls X.K (.type "OverflowError") (.type "type") "__init__" = some (.val (.builtin "OverflowError.__init__"))) (ha : PA X (e :: es) ta)
    (hc : eval (.Call (.Attribute (.Name "OverflowError" p1) "__init__" p2) (e :: es) [] pos) X.env = (do
      let ov ← eval (.Name "OverflowError" p1) X.env
      standAt p2.atName
      let (f, first) ← holding [ov] (getMethod ov "__init__" pl)
      callWith pos f first (backTo pos (starEach (e :: es) X.env)) (backToKw pos (keywordEach [] X.env))) := by rfl)
    (he : starEach (e :: es) X.env = (false, eval e X.env) :: starEach es X.env := by rfl) (hpl : (backTo pos (starEach es X.env)).any (·.1) = false := by rfl) :
    PE X (.Call (.Attribute (.Name "OverflowError" p1) "__init__" p2) (e :: es) [] pos) (tInitB X.K "OverflowError" newId "OverflowError.__init__" bm ta) := by
  refine ⟨fun pins s σ H Q I h => ?_⟩
  refine PySem.W.methodCall_KW (ld_blt I hg hm PyProof.Rows.Boot.«OverflowError» ?_ (by decide) (by decide)) hc
  obtain ⟨m, fr⟩ := I.fr
  refine PySem.W.method_type fr I.ok.mod.kin (show typeOf (.type "OverflowError") = pure (.type "type") by kernel_rfl) (by decide +kernel) vV (by decide +kernel) ?_
  show wpAny _ _ (callWith pos (Value.builtin "OverflowError.__init__") [] (backTo pos (starEach (e :: es) X.env)) []) _ _ _
  refine PyProof.Rows.callWith_method1 (thn (ha.run pos pins _ σ H _ (I.tok _) h) fun us s1 ⟨vs, H1, I1, r1, a, C, ws, ev, few, T, ea, q⟩ => ?_) he hpl
  subst ev
  cases r1 with
  | @cons _ u0 _ ur ra rw' =>
    obtain rfl : u0 = Value.ref a := ra
    exact init_B T I1 ea (by rw [← Paired.length rw', sizeLine_eq]; omega) fun s' J => ⟨.non, H1, J, rfl, q⟩
end
end Lp

namespace Lp
open PySem PySem.Spec PyProof.Rows L2
def topS (i : Nat) : Stmt := PySem.Challenge.pw_lookpast_k91_errors_made.main.body.getD i (.Pass ⟨0, 0, 0, 0⟩)
theorem KbI.of {K : PySem.W.Frag} {x qual fld : Str} {st : Stmt} {f : Addr} {fd : FuncData} (F : Fun K x qual st f fd)
    (h : ∀ (kV doc pm : Value) (an : Option Addr) (cdv ct u v : Value), bindArgs (PySem.W.fnOf x qual (defArgs st) (defBody st) (defScope st) .none kV doc pm an cdv ct) ⟨[u], [(fld, v)]⟩ = pure [(("self" : Str), u), (fld, v)]) : KbI fd fld := by
  obtain ⟨oc, od, kV, doc, pm, an, cdv, ct, osl, rfl, lk, hcd⟩ := F.ex
  exact fun s u v => .of_eq (h kV doc pm an cdv ct u v)
section
variable [Fns]
variable {P : Program} {w : World} {K : PySem.W.Frag} {mg : Str → Option Value} {base : Heap}
abbrev s_kept : Stmt := topS 1
abbrev n_kept : List Str := ["value"]
theorem sc_kept : FnScope n_kept ["value"] (defScope s_kept) := ⟨rfl, rfl, rfl, by decide +kernel, rfl, by decide +kernel, by decide +kernel⟩
def spKept : Sp := fun vs H Q _ => ∃ v, vs = [v] ∧ okv H v ∧ Q v H
theorem okX_kept {f : Addr} {fd : FuncData} (F : Fun K "kept" "kept" s_kept f fd) (B : Bi mg) : FnOk P w K mg base CX0 1 f fd ["value"] spKept := by
  refine Fun.ok (k := 0) F sc_kept (fun vs H Q E h => ?_) (fun cdv A outer s H vs Q E hr h => ?_)
  · obtain ⟨v, rfl, _⟩ := h
    rfl
  · obtain ⟨v, rfl, ov, q⟩ := h
    refine ⟨_, (pss_one (ps_ret (pe_ifExp (pt_truth (pe_callB (isiK (K := K) rfl) (by rfl) B.isinstance (by decide +kernel) (pa_cons (pv 0) (pa_cons (pe_bltn (v := .ty "list") (by rfl) B.list (by decide +kernel) rfl) pa_nil))) (by intro _; rfl)) (pe_callTy (tupleK (K := K) rfl) (by rfl) B.tuple (by decide +kernel) (pa_cons (pv 0) pa_nil)) (pv 0)))), ?_⟩
    refine ⟨v, rfl, ?_⟩
    rcases ov with ⟨i, rfl⟩ | ⟨p, xs, rfl, o, _, e⟩
    · exact ⟨.int i, .ty "list", .type "int", .type "list", false, rfl, .ty "list", .inl (.base (.int i)), kit_ty (show kitB "int" "list" = some false by decide +kernel), false, rfl, ⟨.int i, rfl, q⟩⟩
    · exact ⟨.ref p, .ty "list", .type "tuple", .type "list", false, rfl, .ty "list", .inl (.fTuple e), kit_ty (show kitB "tuple" "list" = some false by decide +kernel), false, rfl, ⟨.ref p, rfl, q⟩⟩
abbrev s_init_BadDeed : Stmt := match topS 10 with
  | .ClassDef _ _ _ (b :: _) _ _ _ _ _ _ _ => b
  | _ => .Pass ⟨0, 0, 0, 0⟩
theorem sc_init_BadDeed : FnScope ["self", "at"] ["self", "at"] (defScope s_init_BadDeed) := ⟨rfl, rfl, rfl, by decide +kernel, rfl, by decide +kernel, by decide +kernel⟩
theorem ok_init_BadDeed {f C : Addr} {fd : FuncData} (F : Fun K "__init__" "BadDeed.__init__" s_init_BadDeed f fd) (B : Bi mg) (hR : mg "ValueError" = none) (vR : PySem.W.findCls K (.type "ValueError") (.type "type") "__init__" = some (.val (.builtin "ValueError.__init__")))
    (T : OexB K C "ValueError" "ValueError.__new__" "ValueError.__init__" bm_ValueError) (no : PySem.W.findIn K (.ref C) "at" = some none)  : FnOk P w K mg base CX0 1 f fd ["self", "at"] (spI K C "at") := by
  refine Fun.ok (k := 0) F sc_init_BadDeed (fun vs H Q E h => ?_) (fun cdv A outer s H vs Q E hr h => ?_)
  · obtain ⟨a, v, rfl, _⟩ := h
    rfl
  · obtain ⟨a, v, rfl, ea, ov, q⟩ := h
    refine ⟨_, pss_cons (ps_expr (pe_initValueError (bm := bm_ValueError) (newId := "ValueError.__new__") (by rfl) hR vR (pa_cons (pv 0) (pa_cons pe_str pa_nil))))
      (pss_one (ps_storeB (B := "ValueError") (newId := "ValueError.__new__") (initId := "ValueError.__init__") (bm := bm_ValueError) (pv 0) (pv 1))), ?_⟩
    refine ⟨.ref a, rfl, a, C, [_], rfl, by simp, T, ea, ?_⟩
    refine ⟨v, rfl, ?_⟩
    exact ⟨.ref a, rfl, a, C, rfl, T, no, ea, fun dx n ne => q dx n ne⟩
abbrev s_init_BadLine : Stmt := match topS 12 with
  | .ClassDef _ _ _ (b :: _) _ _ _ _ _ _ _ => b
  | _ => .Pass ⟨0, 0, 0, 0⟩
theorem sc_init_BadLine : FnScope ["self", "at"] ["self", "at"] (defScope s_init_BadLine) := ⟨rfl, rfl, rfl, by decide +kernel, rfl, by decide +kernel, by decide +kernel⟩
theorem ok_init_BadLine {f C : Addr} {fd : FuncData} (F : Fun K "__init__" "BadLine.__init__" s_init_BadLine f fd) (B : Bi mg) (hR : mg "ValueError" = none) (vR : PySem.W.findCls K (.type "ValueError") (.type "type") "__init__" = some (.val (.builtin "ValueError.__init__")))
    (T : OexB K C "ValueError" "ValueError.__new__" "ValueError.__init__" bm_ValueError) (no : PySem.W.findIn K (.ref C) "at" = some none)  : FnOk P w K mg base CX0 1 f fd ["self", "at"] (spI K C "at") := by
  refine Fun.ok (k := 0) F sc_init_BadLine (fun vs H Q E h => ?_) (fun cdv A outer s H vs Q E hr h => ?_)
  · obtain ⟨a, v, rfl, _⟩ := h
    rfl
  · obtain ⟨a, v, rfl, ea, ov, q⟩ := h
    refine ⟨_, pss_cons (ps_expr (pe_initValueError (bm := bm_ValueError) (newId := "ValueError.__new__") (by rfl) hR vR (pa_cons (pv 0) (pa_cons pe_str pa_nil))))
      (pss_one (ps_storeB (B := "ValueError") (newId := "ValueError.__new__") (initId := "ValueError.__init__") (bm := bm_ValueError) (pv 0) (pv 1))), ?_⟩
    refine ⟨.ref a, rfl, a, C, [_], rfl, by simp, T, ea, ?_⟩
    refine ⟨v, rfl, ?_⟩
    exact ⟨.ref a, rfl, a, C, rfl, T, no, ea, fun dx n ne => q dx n ne⟩
abbrev s_init_BadText : Stmt := match topS 11 with
  | .ClassDef _ _ _ (b :: _) _ _ _ _ _ _ _ => b
  | _ => .Pass ⟨0, 0, 0, 0⟩
theorem sc_init_BadText : FnScope ["self", "at"] ["self", "at"] (defScope s_init_BadText) := ⟨rfl, rfl, rfl, by decide +kernel, rfl, by decide +kernel, by decide +kernel⟩
theorem ok_init_BadText {f C : Addr} {fd : FuncData} (F : Fun K "__init__" "BadText.__init__" s_init_BadText f fd) (B : Bi mg) (hR : mg "ValueError" = none) (vR : PySem.W.findCls K (.type "ValueError") (.type "type") "__init__" = some (.val (.builtin "ValueError.__init__")))
    (T : OexB K C "ValueError" "ValueError.__new__" "ValueError.__init__" bm_ValueError) (no : PySem.W.findIn K (.ref C) "at" = some none)  : FnOk P w K mg base CX0 1 f fd ["self", "at"] (spI K C "at") := by
  refine Fun.ok (k := 0) F sc_init_BadText (fun vs H Q E h => ?_) (fun cdv A outer s H vs Q E hr h => ?_)
  · obtain ⟨a, v, rfl, _⟩ := h
    rfl
  · obtain ⟨a, v, rfl, ea, ov, q⟩ := h
    refine ⟨_, pss_cons (ps_expr (pe_initValueError (bm := bm_ValueError) (newId := "ValueError.__new__") (by rfl) hR vR (pa_cons (pv 0) (pa_cons pe_str pa_nil))))
      (pss_one (ps_storeB (B := "ValueError") (newId := "ValueError.__new__") (initId := "ValueError.__init__") (bm := bm_ValueError) (pv 0) (pv 1))), ?_⟩
    refine ⟨.ref a, rfl, a, C, [_], rfl, by simp, T, ea, ?_⟩
    refine ⟨v, rfl, ?_⟩
    exact ⟨.ref a, rfl, a, C, rfl, T, no, ea, fun dx n ne => q dx n ne⟩
abbrev s_init_Denied : Stmt := match topS 15 with
  | .ClassDef _ _ _ (b :: _) _ _ _ _ _ _ _ => b
  | _ => .Pass ⟨0, 0, 0, 0⟩
theorem sc_init_Denied : FnScope ["self", "obstacle"] ["self", "obstacle"] (defScope s_init_Denied) := ⟨rfl, rfl, rfl, by decide +kernel, rfl, by decide +kernel, by decide +kernel⟩
theorem ok_init_Denied {f C : Addr} {fd : FuncData} (F : Fun K "__init__" "Denied.__init__" s_init_Denied f fd) (B : Bi mg) (hR : mg "RuntimeError" = none) (vR : PySem.W.findCls K (.type "RuntimeError") (.type "type") "__init__" = some (.val (.builtin "RuntimeError.__init__")))
    (T : OexB K C "RuntimeError" "RuntimeError.__new__" "RuntimeError.__init__" bm_RuntimeError) (no : PySem.W.findIn K (.ref C) "obstacle" = some none) {fk : Addr} {ek : FuncData} (c_kept : Cal P w K mg base "kept" 1 ["value"] spKept fk ek) : FnOk P w K mg base CX0 2 f fd ["self", "obstacle"] (spI K C "obstacle") := by
  refine Fun.ok (k := 1) F sc_init_Denied (fun vs H Q E h => ?_) (fun cdv A outer s H vs Q E hr h => ?_)
  · obtain ⟨a, v, rfl, _⟩ := h
    rfl
  · obtain ⟨a, v, rfl, ea, ov, q⟩ := h
    refine ⟨_, pss_cons (ps_expr (pe_initR (bm := bm_RuntimeError) (newId := "RuntimeError.__new__") (by rfl) hR vR (pa_cons (pv 0) (pa_cons pe_str pa_nil))))
      (pss_one (ps_storeB (B := "RuntimeError") (newId := "RuntimeError.__new__") (initId := "RuntimeError.__init__") (bm := bm_RuntimeError) (pv 0) (pe_call c_kept.ok hr (by rfl) c_kept.g c_kept.kp c_kept.bd .nil pass0 (pa_cons (pv 1) pa_nil)))), ?_⟩
    refine ⟨.ref a, rfl, a, C, [_], rfl, by simp, T, ea, ?_⟩
    refine ⟨v, rfl, v, rfl, ov, ?_⟩
    exact ⟨.ref a, rfl, a, C, rfl, T, no, ea, fun dx n ne => q dx n ne⟩
abbrev s_init_IsRoot : Stmt := match topS 16 with
  | .ClassDef _ _ _ (b :: _) _ _ _ _ _ _ _ => b
  | _ => .Pass ⟨0, 0, 0, 0⟩
theorem sc_init_IsRoot : FnScope ["self", "person"] ["self", "person"] (defScope s_init_IsRoot) := ⟨rfl, rfl, rfl, by decide +kernel, rfl, by decide +kernel, by decide +kernel⟩
theorem ok_init_IsRoot {f C : Addr} {fd : FuncData} (F : Fun K "__init__" "IsRoot.__init__" s_init_IsRoot f fd) (B : Bi mg) (hR : mg "RuntimeError" = none) (vR : PySem.W.findCls K (.type "RuntimeError") (.type "type") "__init__" = some (.val (.builtin "RuntimeError.__init__")))
    (T : OexB K C "RuntimeError" "RuntimeError.__new__" "RuntimeError.__init__" bm_RuntimeError) (no : PySem.W.findIn K (.ref C) "person" = some none)  : FnOk P w K mg base CX0 1 f fd ["self", "person"] (spI K C "person") := by
  refine Fun.ok (k := 0) F sc_init_IsRoot (fun vs H Q E h => ?_) (fun cdv A outer s H vs Q E hr h => ?_)
  · obtain ⟨a, v, rfl, _⟩ := h
    rfl
  · obtain ⟨a, v, rfl, ea, ov, q⟩ := h
    refine ⟨_, pss_cons (ps_expr (pe_initR (bm := bm_RuntimeError) (newId := "RuntimeError.__new__") (by rfl) hR vR (pa_cons (pv 0) (pa_cons pe_str pa_nil))))
      (pss_one (ps_storeB (B := "RuntimeError") (newId := "RuntimeError.__new__") (initId := "RuntimeError.__init__") (bm := bm_RuntimeError) (pv 0) (pv 1))), ?_⟩
    refine ⟨.ref a, rfl, a, C, [_], rfl, by simp, T, ea, ?_⟩
    refine ⟨v, rfl, ?_⟩
    exact ⟨.ref a, rfl, a, C, rfl, T, no, ea, fun dx n ne => q dx n ne⟩
abbrev s_init_MissingRoot : Stmt := match topS 7 with
  | .ClassDef _ _ _ (b :: _) _ _ _ _ _ _ _ => b
  | _ => .Pass ⟨0, 0, 0, 0⟩
theorem sc_init_MissingRoot : FnScope ["self", "person"] ["self", "person"] (defScope s_init_MissingRoot) := ⟨rfl, rfl, rfl, by decide +kernel, rfl, by decide +kernel, by decide +kernel⟩
theorem ok_init_MissingRoot {f C : Addr} {fd : FuncData} (F : Fun K "__init__" "MissingRoot.__init__" s_init_MissingRoot f fd) (B : Bi mg) (hR : mg "ValueError" = none) (vR : PySem.W.findCls K (.type "ValueError") (.type "type") "__init__" = some (.val (.builtin "ValueError.__init__")))
    (T : OexB K C "ValueError" "ValueError.__new__" "ValueError.__init__" bm_ValueError) (no : PySem.W.findIn K (.ref C) "person" = some none)  : FnOk P w K mg base CX0 1 f fd ["self", "person"] (spI K C "person") := by
  refine Fun.ok (k := 0) F sc_init_MissingRoot (fun vs H Q E h => ?_) (fun cdv A outer s H vs Q E hr h => ?_)
  · obtain ⟨a, v, rfl, _⟩ := h
    rfl
  · obtain ⟨a, v, rfl, ea, ov, q⟩ := h
    refine ⟨_, pss_cons (ps_expr (pe_initValueError (bm := bm_ValueError) (newId := "ValueError.__new__") (by rfl) hR vR (pa_cons (pv 0) (pa_cons pe_str pa_nil))))
      (pss_one (ps_storeB (B := "ValueError") (newId := "ValueError.__new__") (initId := "ValueError.__init__") (bm := bm_ValueError) (pv 0) (pv 1))), ?_⟩
    refine ⟨.ref a, rfl, a, C, [_], rfl, by simp, T, ea, ?_⟩
    refine ⟨v, rfl, ?_⟩
    exact ⟨.ref a, rfl, a, C, rfl, T, no, ea, fun dx n ne => q dx n ne⟩
abbrev s_init_NoCommon : Stmt := match topS 14 with
  | .ClassDef _ _ _ (b :: _) _ _ _ _ _ _ _ => b
  | _ => .Pass ⟨0, 0, 0, 0⟩
theorem sc_init_NoCommon : FnScope ["self", "bar"] ["self", "bar"] (defScope s_init_NoCommon) := ⟨rfl, rfl, rfl, by decide +kernel, rfl, by decide +kernel, by decide +kernel⟩
theorem ok_init_NoCommon {f C : Addr} {fd : FuncData} (F : Fun K "__init__" "NoCommon.__init__" s_init_NoCommon f fd) (B : Bi mg) (hR : mg "RuntimeError" = none) (vR : PySem.W.findCls K (.type "RuntimeError") (.type "type") "__init__" = some (.val (.builtin "RuntimeError.__init__")))
    (T : OexB K C "RuntimeError" "RuntimeError.__new__" "RuntimeError.__init__" bm_RuntimeError) (no : PySem.W.findIn K (.ref C) "bar" = some none) {fk : Addr} {ek : FuncData} (c_kept : Cal P w K mg base "kept" 1 ["value"] spKept fk ek) : FnOk P w K mg base CX0 2 f fd ["self", "bar"] (spI K C "bar") := by
  refine Fun.ok (k := 1) F sc_init_NoCommon (fun vs H Q E h => ?_) (fun cdv A outer s H vs Q E hr h => ?_)
  · obtain ⟨a, v, rfl, _⟩ := h
    rfl
  · obtain ⟨a, v, rfl, ea, ov, q⟩ := h
    refine ⟨_, pss_cons (ps_expr (pe_initR (bm := bm_RuntimeError) (newId := "RuntimeError.__new__") (by rfl) hR vR (pa_cons (pv 0) (pa_cons pe_str pa_nil))))
      (pss_one (ps_storeB (B := "RuntimeError") (newId := "RuntimeError.__new__") (initId := "RuntimeError.__init__") (bm := bm_RuntimeError) (pv 0) (pe_call c_kept.ok hr (by rfl) c_kept.g c_kept.kp c_kept.bd .nil pass0 (pa_cons (pv 1) pa_nil)))), ?_⟩
    refine ⟨.ref a, rfl, a, C, [_], rfl, by simp, T, ea, ?_⟩
    refine ⟨v, rfl, v, rfl, ov, ?_⟩
    exact ⟨.ref a, rfl, a, C, rfl, T, no, ea, fun dx n ne => q dx n ne⟩
abbrev s_init_NoDeed : Stmt := match topS 4 with
  | .ClassDef _ _ _ (b :: _) _ _ _ _ _ _ _ => b
  | _ => .Pass ⟨0, 0, 0, 0⟩
theorem sc_init_NoDeed : FnScope ["self", "many"] ["self", "many"] (defScope s_init_NoDeed) := ⟨rfl, rfl, rfl, by decide +kernel, rfl, by decide +kernel, by decide +kernel⟩
theorem ok_init_NoDeed {f C : Addr} {fd : FuncData} (F : Fun K "__init__" "NoDeed.__init__" s_init_NoDeed f fd) (B : Bi mg) (hR : mg "LookupError" = none) (vR : PySem.W.findCls K (.type "LookupError") (.type "type") "__init__" = some (.val (.builtin "LookupError.__init__")))
    (T : OexB K C "LookupError" "LookupError.__new__" "LookupError.__init__" bm_LookupError) (no : PySem.W.findIn K (.ref C) "many" = some none)  : FnOk P w K mg base CX0 1 f fd ["self", "many"] (spI K C "many") := by
  refine Fun.ok (k := 0) F sc_init_NoDeed (fun vs H Q E h => ?_) (fun cdv A outer s H vs Q E hr h => ?_)
  · obtain ⟨a, v, rfl, _⟩ := h
    rfl
  · obtain ⟨a, v, rfl, ea, ov, q⟩ := h
    refine ⟨_, pss_cons (ps_expr (pe_initLookupError (bm := bm_LookupError) (newId := "LookupError.__new__") (by rfl) hR vR (pa_cons (pv 0) (pa_cons pe_str pa_nil))))
      (pss_one (ps_storeB (B := "LookupError") (newId := "LookupError.__new__") (initId := "LookupError.__init__") (bm := bm_LookupError) (pv 0) (pv 1))), ?_⟩
    refine ⟨.ref a, rfl, a, C, [_], rfl, by simp, T, ea, ?_⟩
    refine ⟨v, rfl, ?_⟩
    exact ⟨.ref a, rfl, a, C, rfl, T, no, ea, fun dx n ne => q dx n ne⟩
abbrev s_init_NoNumber : Stmt := match topS 3 with
  | .ClassDef _ _ _ (b :: _) _ _ _ _ _ _ _ => b
  | _ => .Pass ⟨0, 0, 0, 0⟩
theorem sc_init_NoNumber : FnScope ["self", "number"] ["self", "number"] (defScope s_init_NoNumber) := ⟨rfl, rfl, rfl, by decide +kernel, rfl, by decide +kernel, by decide +kernel⟩
theorem ok_init_NoNumber {f C : Addr} {fd : FuncData} (F : Fun K "__init__" "NoNumber.__init__" s_init_NoNumber f fd) (B : Bi mg) (hR : mg "LookupError" = none) (vR : PySem.W.findCls K (.type "LookupError") (.type "type") "__init__" = some (.val (.builtin "LookupError.__init__")))
    (T : OexB K C "LookupError" "LookupError.__new__" "LookupError.__init__" bm_LookupError) (no : PySem.W.findIn K (.ref C) "number" = some none)  : FnOk P w K mg base CX0 1 f fd ["self", "number"] (spI K C "number") := by
  refine Fun.ok (k := 0) F sc_init_NoNumber (fun vs H Q E h => ?_) (fun cdv A outer s H vs Q E hr h => ?_)
  · obtain ⟨a, v, rfl, _⟩ := h
    rfl
  · obtain ⟨a, v, rfl, ea, ov, q⟩ := h
    refine ⟨_, pss_cons (ps_expr (pe_initLookupError (bm := bm_LookupError) (newId := "LookupError.__new__") (by rfl) hR vR (pa_cons (pv 0) (pa_cons pe_str pa_nil))))
      (pss_one (ps_storeB (B := "LookupError") (newId := "LookupError.__new__") (initId := "LookupError.__init__") (bm := bm_LookupError) (pv 0) (pv 1))), ?_⟩
    refine ⟨.ref a, rfl, a, C, [_], rfl, by simp, T, ea, ?_⟩
    refine ⟨v, rfl, ?_⟩
    exact ⟨.ref a, rfl, a, C, rfl, T, no, ea, fun dx n ne => q dx n ne⟩
abbrev s_init_NoPerson : Stmt := match topS 2 with
  | .ClassDef _ _ _ (b :: _) _ _ _ _ _ _ _ => b
  | _ => .Pass ⟨0, 0, 0, 0⟩
theorem sc_init_NoPerson : FnScope ["self", "person"] ["self", "person"] (defScope s_init_NoPerson) := ⟨rfl, rfl, rfl, by decide +kernel, rfl, by decide +kernel, by decide +kernel⟩
theorem ok_init_NoPerson {f C : Addr} {fd : FuncData} (F : Fun K "__init__" "NoPerson.__init__" s_init_NoPerson f fd) (B : Bi mg) (hR : mg "LookupError" = none) (vR : PySem.W.findCls K (.type "LookupError") (.type "type") "__init__" = some (.val (.builtin "LookupError.__init__")))
    (T : OexB K C "LookupError" "LookupError.__new__" "LookupError.__init__" bm_LookupError) (no : PySem.W.findIn K (.ref C) "person" = some none)  : FnOk P w K mg base CX0 1 f fd ["self", "person"] (spI K C "person") := by
  refine Fun.ok (k := 0) F sc_init_NoPerson (fun vs H Q E h => ?_) (fun cdv A outer s H vs Q E hr h => ?_)
  · obtain ⟨a, v, rfl, _⟩ := h
    rfl
  · obtain ⟨a, v, rfl, ea, ov, q⟩ := h
    refine ⟨_, pss_cons (ps_expr (pe_initLookupError (bm := bm_LookupError) (newId := "LookupError.__new__") (by rfl) hR vR (pa_cons (pv 0) (pa_cons pe_str pa_nil))))
      (pss_one (ps_storeB (B := "LookupError") (newId := "LookupError.__new__") (initId := "LookupError.__init__") (bm := bm_LookupError) (pv 0) (pv 1))), ?_⟩
    refine ⟨.ref a, rfl, a, C, [_], rfl, by simp, T, ea, ?_⟩
    refine ⟨v, rfl, ?_⟩
    exact ⟨.ref a, rfl, a, C, rfl, T, no, ea, fun dx n ne => q dx n ne⟩
abbrev s_init_NoRoot : Stmt := match topS 6 with
  | .ClassDef _ _ _ (b :: _) _ _ _ _ _ _ _ => b
  | _ => .Pass ⟨0, 0, 0, 0⟩
theorem sc_init_NoRoot : FnScope ["self", "person"] ["self", "person"] (defScope s_init_NoRoot) := ⟨rfl, rfl, rfl, by decide +kernel, rfl, by decide +kernel, by decide +kernel⟩
theorem ok_init_NoRoot {f C : Addr} {fd : FuncData} (F : Fun K "__init__" "NoRoot.__init__" s_init_NoRoot f fd) (B : Bi mg) (hR : mg "ValueError" = none) (vR : PySem.W.findCls K (.type "ValueError") (.type "type") "__init__" = some (.val (.builtin "ValueError.__init__")))
    (T : OexB K C "ValueError" "ValueError.__new__" "ValueError.__init__" bm_ValueError) (no : PySem.W.findIn K (.ref C) "person" = some none)  : FnOk P w K mg base CX0 1 f fd ["self", "person"] (spI K C "person") := by
  refine Fun.ok (k := 0) F sc_init_NoRoot (fun vs H Q E h => ?_) (fun cdv A outer s H vs Q E hr h => ?_)
  · obtain ⟨a, v, rfl, _⟩ := h
    rfl
  · obtain ⟨a, v, rfl, ea, ov, q⟩ := h
    refine ⟨_, pss_cons (ps_expr (pe_initValueError (bm := bm_ValueError) (newId := "ValueError.__new__") (by rfl) hR vR (pa_cons (pv 0) (pa_cons pe_str pa_nil))))
      (pss_one (ps_storeB (B := "ValueError") (newId := "ValueError.__new__") (initId := "ValueError.__init__") (bm := bm_ValueError) (pv 0) (pv 1))), ?_⟩
    refine ⟨.ref a, rfl, a, C, [_], rfl, by simp, T, ea, ?_⟩
    refine ⟨v, rfl, ?_⟩
    exact ⟨.ref a, rfl, a, C, rfl, T, no, ea, fun dx n ne => q dx n ne⟩
abbrev s_init_NotKin : Stmt := match topS 8 with
  | .ClassDef _ _ _ (b :: _) _ _ _ _ _ _ _ => b
  | _ => .Pass ⟨0, 0, 0, 0⟩
theorem sc_init_NotKin : FnScope ["self"] ["self"] (defScope s_init_NotKin) := ⟨rfl, rfl, rfl, by decide +kernel, rfl, by decide +kernel, by decide +kernel⟩
theorem ok_init_NotKin {f C : Addr} {fd : FuncData} (F : Fun K "__init__" "NotKin.__init__" s_init_NotKin f fd) (B : Bi mg) (hR : mg "ValueError" = none) (vR : PySem.W.findCls K (.type "ValueError") (.type "type") "__init__" = some (.val (.builtin "ValueError.__init__")))
    (T : OexB K C "ValueError" "ValueError.__new__" "ValueError.__init__" bm_ValueError) : FnOk P w K mg base CX0 1 f fd ["self"] (spI0 K C) := by
  refine Fun.ok (k := 0) F sc_init_NotKin (fun vs H Q E h => ?_) (fun cdv A outer s H vs Q E hr h => ?_)
  · obtain ⟨a, rfl, _⟩ := h
    rfl
  · obtain ⟨a, rfl, ea, q⟩ := h
    refine ⟨_, pss_one (ps_expr (pe_initValueError (bm := bm_ValueError) (newId := "ValueError.__new__") (by rfl) hR vR (pa_cons (pv 0) (pa_cons pe_str pa_nil)))), ?_⟩
    exact ⟨.ref a, rfl, a, C, [_], rfl, by simp, T, ea, q⟩
abbrev s_init_NotPast : Stmt := match topS 9 with
  | .ClassDef _ _ _ (b :: _) _ _ _ _ _ _ _ => b
  | _ => .Pass ⟨0, 0, 0, 0⟩
theorem sc_init_NotPast : FnScope ["self"] ["self"] (defScope s_init_NotPast) := ⟨rfl, rfl, rfl, by decide +kernel, rfl, by decide +kernel, by decide +kernel⟩
theorem ok_init_NotPast {f C : Addr} {fd : FuncData} (F : Fun K "__init__" "NotPast.__init__" s_init_NotPast f fd) (B : Bi mg) (hR : mg "ValueError" = none) (vR : PySem.W.findCls K (.type "ValueError") (.type "type") "__init__" = some (.val (.builtin "ValueError.__init__")))
    (T : OexB K C "ValueError" "ValueError.__new__" "ValueError.__init__" bm_ValueError) : FnOk P w K mg base CX0 1 f fd ["self"] (spI0 K C) := by
  refine Fun.ok (k := 0) F sc_init_NotPast (fun vs H Q E h => ?_) (fun cdv A outer s H vs Q E hr h => ?_)
  · obtain ⟨a, rfl, _⟩ := h
    rfl
  · obtain ⟨a, rfl, ea, q⟩ := h
    refine ⟨_, pss_one (ps_expr (pe_initValueError (bm := bm_ValueError) (newId := "ValueError.__new__") (by rfl) hR vR (pa_cons (pv 0) (pa_cons pe_str pa_nil)))), ?_⟩
    exact ⟨.ref a, rfl, a, C, [_], rfl, by simp, T, ea, q⟩
abbrev s_init_OtherSize : Stmt := match topS 5 with
  | .ClassDef _ _ _ (b :: _) _ _ _ _ _ _ _ => b
  | _ => .Pass ⟨0, 0, 0, 0⟩
theorem sc_init_OtherSize : FnScope ["self", "size"] ["self", "size"] (defScope s_init_OtherSize) := ⟨rfl, rfl, rfl, by decide +kernel, rfl, by decide +kernel, by decide +kernel⟩
theorem ok_init_OtherSize {f C : Addr} {fd : FuncData} (F : Fun K "__init__" "OtherSize.__init__" s_init_OtherSize f fd) (B : Bi mg) (hR : mg "ValueError" = none) (vR : PySem.W.findCls K (.type "ValueError") (.type "type") "__init__" = some (.val (.builtin "ValueError.__init__")))
    (T : OexB K C "ValueError" "ValueError.__new__" "ValueError.__init__" bm_ValueError) (no : PySem.W.findIn K (.ref C) "size" = some none)  : FnOk P w K mg base CX0 1 f fd ["self", "size"] (spI K C "size") := by
  refine Fun.ok (k := 0) F sc_init_OtherSize (fun vs H Q E h => ?_) (fun cdv A outer s H vs Q E hr h => ?_)
  · obtain ⟨a, v, rfl, _⟩ := h
    rfl
  · obtain ⟨a, v, rfl, ea, ov, q⟩ := h
    refine ⟨_, pss_cons (ps_expr (pe_initValueError (bm := bm_ValueError) (newId := "ValueError.__new__") (by rfl) hR vR (pa_cons (pv 0) (pa_cons pe_str pa_nil))))
      (pss_one (ps_storeB (B := "ValueError") (newId := "ValueError.__new__") (initId := "ValueError.__init__") (bm := bm_ValueError) (pv 0) (pv 1))), ?_⟩
    refine ⟨.ref a, rfl, a, C, [_], rfl, by simp, T, ea, ?_⟩
    refine ⟨v, rfl, ?_⟩
    exact ⟨.ref a, rfl, a, C, rfl, T, no, ea, fun dx n ne => q dx n ne⟩
abbrev s_init_TooMany : Stmt := match topS 17 with
  | .ClassDef _ _ _ (b :: _) _ _ _ _ _ _ _ => b
  | _ => .Pass ⟨0, 0, 0, 0⟩
theorem sc_init_TooMany : FnScope ["self", "many"] ["self", "many"] (defScope s_init_TooMany) := ⟨rfl, rfl, rfl, by decide +kernel, rfl, by decide +kernel, by decide +kernel⟩
theorem ok_init_TooMany {f C : Addr} {fd : FuncData} (F : Fun K "__init__" "TooMany.__init__" s_init_TooMany f fd) (B : Bi mg) (hR : mg "OverflowError" = none) (vR : PySem.W.findCls K (.type "OverflowError") (.type "type") "__init__" = some (.val (.builtin "OverflowError.__init__")))
    (T : OexB K C "OverflowError" "OverflowError.__new__" "OverflowError.__init__" bm_OverflowError) (no : PySem.W.findIn K (.ref C) "many" = some none)  : FnOk P w K mg base CX0 1 f fd ["self", "many"] (spI K C "many") := by
  refine Fun.ok (k := 0) F sc_init_TooMany (fun vs H Q E h => ?_) (fun cdv A outer s H vs Q E hr h => ?_)
  · obtain ⟨a, v, rfl, _⟩ := h
    rfl
  · obtain ⟨a, v, rfl, ea, ov, q⟩ := h
    refine ⟨_, pss_cons (ps_expr (pe_initOverflowError (bm := bm_OverflowError) (newId := "OverflowError.__new__") (by rfl) hR vR (pa_cons (pv 0) (pa_cons pe_str pa_nil))))
      (pss_one (ps_storeB (B := "OverflowError") (newId := "OverflowError.__new__") (initId := "OverflowError.__init__") (bm := bm_OverflowError) (pv 0) (pv 1))), ?_⟩
    refine ⟨.ref a, rfl, a, C, [_], rfl, by simp, T, ea, ?_⟩
    refine ⟨v, rfl, ?_⟩
    exact ⟨.ref a, rfl, a, C, rfl, T, no, ea, fun dx n ne => q dx n ne⟩
abbrev s_init_Unreachable : Stmt := match topS 13 with
  | .ClassDef _ _ _ (b :: _) _ _ _ _ _ _ _ => b
  | _ => .Pass ⟨0, 0, 0, 0⟩
theorem sc_init_Unreachable : FnScope ["self", "obstacle"] ["self", "obstacle"] (defScope s_init_Unreachable) := ⟨rfl, rfl, rfl, by decide +kernel, rfl, by decide +kernel, by decide +kernel⟩
theorem ok_init_Unreachable {f C : Addr} {fd : FuncData} (F : Fun K "__init__" "Unreachable.__init__" s_init_Unreachable f fd) (B : Bi mg) (hR : mg "RuntimeError" = none) (vR : PySem.W.findCls K (.type "RuntimeError") (.type "type") "__init__" = some (.val (.builtin "RuntimeError.__init__")))
    (T : OexB K C "RuntimeError" "RuntimeError.__new__" "RuntimeError.__init__" bm_RuntimeError) (no : PySem.W.findIn K (.ref C) "obstacle" = some none) {fk : Addr} {ek : FuncData} (c_kept : Cal P w K mg base "kept" 1 ["value"] spKept fk ek) : FnOk P w K mg base CX0 2 f fd ["self", "obstacle"] (spI K C "obstacle") := by
  refine Fun.ok (k := 1) F sc_init_Unreachable (fun vs H Q E h => ?_) (fun cdv A outer s H vs Q E hr h => ?_)
  · obtain ⟨a, v, rfl, _⟩ := h
    rfl
  · obtain ⟨a, v, rfl, ea, ov, q⟩ := h
    refine ⟨_, pss_cons (ps_expr (pe_initR (bm := bm_RuntimeError) (newId := "RuntimeError.__new__") (by rfl) hR vR (pa_cons (pv 0) (pa_cons pe_str pa_nil))))
      (pss_one (ps_storeB (B := "RuntimeError") (newId := "RuntimeError.__new__") (initId := "RuntimeError.__init__") (bm := bm_RuntimeError) (pv 0) (pe_call c_kept.ok hr (by rfl) c_kept.g c_kept.kp c_kept.bd .nil pass0 (pa_cons (pv 1) pa_nil)))), ?_⟩
    refine ⟨.ref a, rfl, a, C, [_], rfl, by simp, T, ea, ?_⟩
    refine ⟨v, rfl, v, rfl, ov, ?_⟩
    exact ⟨.ref a, rfl, a, C, rfl, T, no, ea, fun dx n ne => q dx n ne⟩
abbrev s_law_same : Stmt := topS 19
abbrev n_law_same : List Str := ["_law_found", "_law_due", "_law_mine", "_law_its"]
theorem sc_law_same : FnScope n_law_same ["_law_found", "_law_due"] (defScope s_law_same) := ⟨rfl, rfl, rfl, by decide +kernel, rfl, by decide +kernel, by decide +kernel⟩
theorem ok_law_same {f : Addr} {fd : FuncData} (F : Fun K "_law_same" "_law_same" s_law_same f fd) (B : Bi mg) (g : mg "_law_same" = some (.ref f)) (bd : Binds K fd ["_law_found", "_law_due"] []) : ∀ d, FnOk P w K mg base CX0 (d + 1) f fd ["_law_found", "_law_due"] (spD 2 (p_law_same_3 d))
  | 0 => fn_none (spD_none fun args c Q ⟨a, b, _, _, h, _⟩ => by unfold dep at h; cases h)
  | d + 1 => by
    have c_law_same : Cal P w K mg base "_law_same" (d + 1) ["_law_found", "_law_due"] (spD 2 (p_law_same_3 d)) f fd := ⟨ok_law_same F B g bd d, g, F.kp, bd⟩
    refine okD (k := d + 1) F sc_law_same rfl (fun cdv A outer s H E hr => ?_) m_law_same_3
    exact ⟨_, (pss_cons (ps_if (pt_truth (pe_callB (isiTK (K := K) rfl) (by rfl) B.isinstance (by decide +kernel) (pa_cons (pv 1) (pa_cons (pe_tup (pa_cons (pe_bltn (v := .ty "list") (by rfl) B.list (by decide +kernel) rfl) (pa_cons (pe_bltn (v := .ty "tuple") (by rfl) B.tuple (by decide +kernel) rfl) pa_nil))) pa_nil))) (by intro _; rfl)) (pss_cons (ps_if (PW.pt (pw_or (pt_cmpR (neK (K := K) rfl hr.units) (pe_callB (isiK (K := K) rfl) (by rfl) B.isinstance (by decide +kernel) (pa_cons (pv 0) (pa_cons (pe_bltn (v := .ty "list") (by rfl) B.list (by decide +kernel) rfl) pa_nil))) (pe_callB (isiK (K := K) rfl) (by rfl) B.isinstance (by decide +kernel) (pa_cons (pv 1) (pa_cons (pe_bltn (v := .ty "list") (by rfl) B.list (by decide +kernel) rfl) pa_nil))) (nomark _)) (pw_or1 (pt_cmpR (neK (K := K) rfl hr.units) (pe_callB (isiK (K := K) rfl) (by rfl) B.isinstance (by decide +kernel) (pa_cons (pv 0) (pa_cons (pe_bltn (v := .ty "tuple") (by rfl) B.tuple (by decide +kernel) rfl) pa_nil))) (pe_callB (isiK (K := K) rfl) (by rfl) B.isinstance (by decide +kernel) (pa_cons (pv 1) (pa_cons (pe_bltn (v := .ty "tuple") (by rfl) B.tuple (by decide +kernel) rfl) pa_nil))) (nomark _))))) (pss_one (ps_ret pe_bl)) pss_nil)
      (pss_one (ps_ret (pe_and (pe_cmpR (eqK (K := K) rfl hr.units) (pe_callB (lenK (K := K) rfl) (by rfl) B.len (by decide +kernel) (pa_cons (pv 0) pa_nil)) (pe_callB (lenK (K := K) rfl) (by rfl) B.len (by decide +kernel) (pa_cons (pv 1) pa_nil)) (nomark _)) (pe_one (pe_callB (allK (K := K) rfl rfl) (by rfl) B.all (by decide +kernel) (pa_cons (pe_lc (own := [("_law_mine", 2), ("_law_its", 3)]) (by rfl) sc_law_same.nd (zipA (K := K) rfl (by rfl) B.zip (pa_cons (pv 0) (pa_cons (pv 1) pa_nil))) (blkOk_by (own := [("_law_mine", 2), ("_law_its", 3)]) (N := n_law_same) (sc := (defScope s_law_same)) (by decide +kernel)) (fun _ _ _ _ _ => (gtupK (K := K) rfl (pg_tup rfl (pgs_cons (pg_name (i := 2) sc_law_same.nd rfl (by first | exact Or.inl rfl | exact Or.inr rfl)) (pgs_cons (pg_name (i := 3) sc_law_same.nd rfl (by first | exact Or.inl rfl | exact Or.inr rfl)) pgs_nil))))) (fun _ _ _ _ _ => pts_nil) (fun _ _ _ _ _ => (pe_call c_law_same.ok hr (by rfl) c_law_same.g c_law_same.kp c_law_same.bd .nil pass0 (pa_cons (pv 2) (pa_cons (pv 3) pa_nil))))) pa_nil))))))) pss_nil)
      (pss_cons (ps_if (PW.pt (pw_or (pt_cmpR op_isN (pv 1) pe_non (nomark _)) (pw_or1 (pt_truth (pe_callB (isiTK (K := K) rfl) (by rfl) B.isinstance (by decide +kernel) (pa_cons (pv 1) (pa_cons (pe_tup (pa_cons (pe_bltn (v := .ty "bool") (by rfl) B.bool (by decide +kernel) rfl) (pa_cons (pe_bltn (v := .ty "str") (by rfl) B.str (by decide +kernel) rfl) pa_nil))) pa_nil))) (by intro _; rfl))))) (pss_one (ps_ret (pe_and (pe_cmpR (eqK (K := K) rfl hr.units) (pv 0) (pv 1) (nomark _)) (pe_and (pe_cmpR (eqK (K := K) rfl hr.units) (pe_callB (isiK (K := K) rfl) (by rfl) B.isinstance (by decide +kernel) (pa_cons (pv 0) (pa_cons (pe_bltn (v := .ty "bool") (by rfl) B.bool (by decide +kernel) rfl) pa_nil))) (pe_callB (isiK (K := K) rfl) (by rfl) B.isinstance (by decide +kernel) (pa_cons (pv 1) (pa_cons (pe_bltn (v := .ty "bool") (by rfl) B.bool (by decide +kernel) rfl) pa_nil))) (nomark _)) (pe_one (pe_cmpR (eqK (K := K) rfl hr.units) (pe_cmpR op_isN (pv 0) pe_non (nomark _)) (pe_cmpR op_isN (pv 1) pe_non (nomark _)) (nomark _))))))) pss_nil)
      (pss_one (ps_ret (pe_and (pe_callB (isiK (K := K) rfl) (by rfl) B.isinstance (by decide +kernel) (pa_cons (pv 0) (pa_cons (pe_bltn (v := .ty "int") (by rfl) B.int (by decide +kernel) rfl) pa_nil))) (pe_and (pe_not (pe_callB (isiK (K := K) rfl) (by rfl) B.isinstance (by decide +kernel) (pa_cons (pv 0) (pa_cons (pe_bltn (v := .ty "bool") (by rfl) B.bool (by decide +kernel) rfl) pa_nil)))) (pe_one (pe_cmpR (eqK (K := K) rfl hr.units) (pv 0) (pv 1) (nomark _))))))))),
      (ss_seq (ss_if (st_truth (se_isi2 (.inr (.inr (.inr (.inl rfl)))) (.inr (.inr (.inr (.inr rfl)))) se_var)) (ss_seq (ss_if (st_or (st_test (se_op r2_ne (se_isi (.inr (.inr (.inr (.inl rfl)))) se_var) (se_isi (.inr (.inr (.inr (.inl rfl)))) se_var))) (st_test (se_op r2_ne (se_isi (.inr (.inr (.inr (.inr rfl)))) se_var) (se_isi (.inr (.inr (.inr (.inr rfl)))) se_var)))) (ss_ret se_bl) ss_next)
      (ss_ret (se_andV (se_op r2_eq (se_cb rc_len (sa_cons se_var sa_nil)) (se_cb rc_len (sa_cons se_var sa_nil))) (se_cb rc_all (sa_cons (se_lc (si_zip (sa_cons se_var (sa_cons se_var sa_nil))) (sg_tup (sgs_cons sg_name (sgs_cons sg_name sgs_nil))) st_yes (se_call (mon_law_same_3 d) (sa_cons se_var (sa_cons se_var sa_nil)))) sa_nil))))) ss_next)
      (ss_seq (ss_if (st_or (st_test (se_op r2_isN se_var se_non)) (st_truth (se_isi2 (.inr (.inl rfl)) (.inr (.inr (.inl rfl))) se_var))) (ss_ret (se_andV (se_op r2_eq se_var se_var) (se_andV (se_op r2_eq (se_isi (.inr (.inl rfl)) se_var) (se_isi (.inr (.inl rfl)) se_var)) (se_op r2_eq (se_op r2_isN se_var se_non) (se_op r2_isN se_var se_non))))) ss_next)
      (ss_ret (se_andV (se_isi (.inl rfl) se_var) (se_andV (se_notV (se_isi (.inr (.inl rfl)) se_var)) (se_op r2_eq se_var se_var))))))⟩
abbrev s_law_bases : Stmt := topS 20
abbrev n_law_bases : List Str := ["_law_made", "_law_found"]
theorem sc_law_bases : FnScope n_law_bases ["_law_made"] (defScope s_law_bases) := ⟨rfl, rfl, rfl, by decide +kernel, rfl, by decide +kernel, by decide +kernel⟩
theorem ok_law_bases {f : Addr} {fd : FuncData} (F : Fun K "_law_bases" "_law_bases" s_law_bases f fd) (B : Bi mg)  {C_BadDeed C_BadLine C_BadText C_Denied C_IsRoot C_MissingRoot C_NoCommon C_NoDeed C_NoNumber C_NoPerson C_NoRoot C_NotKin C_NotPast C_OtherSize C_TooMany C_Unreachable : Addr} (hFN : ∀ m C, FN m = .ref C → clT [("BadDeed", C_BadDeed), ("BadLine", C_BadLine), ("BadText", C_BadText), ("Denied", C_Denied), ("IsRoot", C_IsRoot), ("MissingRoot", C_MissingRoot), ("NoCommon", C_NoCommon), ("NoDeed", C_NoDeed), ("NoNumber", C_NoNumber), ("NoPerson", C_NoPerson), ("NoRoot", C_NoRoot), ("NotKin", C_NotKin), ("NotPast", C_NotPast), ("OtherSize", C_OtherSize), ("TooMany", C_TooMany), ("Unreachable", C_Unreachable)] m = some C) (xcs : AllL (fun _ C => ExcC K C) [("BadDeed", C_BadDeed), ("BadLine", C_BadLine), ("BadText", C_BadText), ("Denied", C_Denied), ("IsRoot", C_IsRoot), ("MissingRoot", C_MissingRoot), ("NoCommon", C_NoCommon), ("NoDeed", C_NoDeed), ("NoNumber", C_NoNumber), ("NoPerson", C_NoPerson), ("NoRoot", C_NoRoot), ("NotKin", C_NotKin), ("NotPast", C_NotPast), ("OtherSize", C_OtherSize), ("TooMany", C_TooMany), ("Unreachable", C_Unreachable)]) (i_ValueError : AllL (fun n C => PySem.W.kitOne K (.ref C) (.type "ValueError") = some (subX n "ValueError")) [("BadDeed", C_BadDeed), ("BadLine", C_BadLine), ("BadText", C_BadText), ("Denied", C_Denied), ("IsRoot", C_IsRoot), ("MissingRoot", C_MissingRoot), ("NoCommon", C_NoCommon), ("NoDeed", C_NoDeed), ("NoNumber", C_NoNumber), ("NoPerson", C_NoPerson), ("NoRoot", C_NoRoot), ("NotKin", C_NotKin), ("NotPast", C_NotPast), ("OtherSize", C_OtherSize), ("TooMany", C_TooMany), ("Unreachable", C_Unreachable)]) (z_ValueError : mg "ValueError" = none) (i_LookupError : AllL (fun n C => PySem.W.kitOne K (.ref C) (.type "LookupError") = some (subX n "LookupError")) [("BadDeed", C_BadDeed), ("BadLine", C_BadLine), ("BadText", C_BadText), ("Denied", C_Denied), ("IsRoot", C_IsRoot), ("MissingRoot", C_MissingRoot), ("NoCommon", C_NoCommon), ("NoDeed", C_NoDeed), ("NoNumber", C_NoNumber), ("NoPerson", C_NoPerson), ("NoRoot", C_NoRoot), ("NotKin", C_NotKin), ("NotPast", C_NotPast), ("OtherSize", C_OtherSize), ("TooMany", C_TooMany), ("Unreachable", C_Unreachable)]) (z_LookupError : mg "LookupError" = none) (i_OverflowError : AllL (fun n C => PySem.W.kitOne K (.ref C) (.type "OverflowError") = some (subX n "OverflowError")) [("BadDeed", C_BadDeed), ("BadLine", C_BadLine), ("BadText", C_BadText), ("Denied", C_Denied), ("IsRoot", C_IsRoot), ("MissingRoot", C_MissingRoot), ("NoCommon", C_NoCommon), ("NoDeed", C_NoDeed), ("NoNumber", C_NoNumber), ("NoPerson", C_NoPerson), ("NoRoot", C_NoRoot), ("NotKin", C_NotKin), ("NotPast", C_NotPast), ("OtherSize", C_OtherSize), ("TooMany", C_TooMany), ("Unreachable", C_Unreachable)]) (z_OverflowError : mg "OverflowError" = none) (i_RuntimeError : AllL (fun n C => PySem.W.kitOne K (.ref C) (.type "RuntimeError") = some (subX n "RuntimeError")) [("BadDeed", C_BadDeed), ("BadLine", C_BadLine), ("BadText", C_BadText), ("Denied", C_Denied), ("IsRoot", C_IsRoot), ("MissingRoot", C_MissingRoot), ("NoCommon", C_NoCommon), ("NoDeed", C_NoDeed), ("NoNumber", C_NoNumber), ("NoPerson", C_NoPerson), ("NoRoot", C_NoRoot), ("NotKin", C_NotKin), ("NotPast", C_NotPast), ("OtherSize", C_OtherSize), ("TooMany", C_TooMany), ("Unreachable", C_Unreachable)]) (z_RuntimeError : mg "RuntimeError" = none) : FnOk P w K mg base CX0 1 f fd ["_law_made"] (spD 1 p_law_bases) := by
  refine okD (k := 0) F sc_law_bases rfl (fun cdv A outer s H E hr => ?_) m_law_bases
  exact ⟨_, (pss_cons (ps_set (i := 1) sc_law_bases.nd rfl (by first | exact Or.inl rfl | exact Or.inr rfl) (pe_lst (pa_cons (pe_callB (isXK (K := K) rfl) (by rfl) B.isinstance (by decide +kernel) (pa_cons (pv 0) (pa_cons (pe_bltn (v := .ty "LookupError") (by rfl) z_LookupError (by decide +kernel) rfl) pa_nil))) (pa_cons (pe_callB (isXK (K := K) rfl) (by rfl) B.isinstance (by decide +kernel) (pa_cons (pv 0) (pa_cons (pe_bltn (v := .ty "ValueError") (by rfl) z_ValueError (by decide +kernel) rfl) pa_nil))) pa_nil))))
      (pss_one (ps_ret (pe_op (addK (K := K) rfl) (pv 1) (pe_lst (pa_cons (pe_callB (isXK (K := K) rfl) (by rfl) B.isinstance (by decide +kernel) (pa_cons (pv 0) (pa_cons (pe_bltn (v := .ty "RuntimeError") (by rfl) z_RuntimeError (by decide +kernel) rfl) pa_nil))) (pa_cons (pe_callB (isXK (K := K) rfl) (by rfl) B.isinstance (by decide +kernel) (pa_cons (pv 0) (pa_cons (pe_bltn (v := .ty "OverflowError") (by rfl) z_OverflowError (by decide +kernel) rfl) pa_nil))) pa_nil))))))),
    (ss_seq (ss_set false (se_lst (sa_cons (se_isG (fun n C h => allL xcs n C (hFN n C h)) (.ty "LookupError") (fun n C h => allL i_LookupError n C (hFN n C h)) se_var) (sa_cons (se_isG (fun n C h => allL xcs n C (hFN n C h)) (.ty "ValueError") (fun n C h => allL i_ValueError n C (hFN n C h)) se_var) sa_nil))))
      (ss_ret (se_op r2_add se_var (se_lst (sa_cons (se_isG (fun n C h => allL xcs n C (hFN n C h)) (.ty "RuntimeError") (fun n C h => allL i_RuntimeError n C (hFN n C h)) se_var) (sa_cons (se_isG (fun n C h => allL xcs n C (hFN n C h)) (.ty "OverflowError") (fun n C h => allL i_OverflowError n C (hFN n C h)) se_var) sa_nil))))))⟩
abbrev s_law_kinds : Stmt := topS 21
abbrev n_law_kinds : List Str := ["_law_made", "_law_found"]
theorem sc_law_kinds : FnScope n_law_kinds ["_law_made"] (defScope s_law_kinds) := ⟨rfl, rfl, rfl, by decide +kernel, rfl, by decide +kernel, by decide +kernel⟩
theorem ok_law_kinds {f : Addr} {fd : FuncData} (F : Fun K "_law_kinds" "_law_kinds" s_law_kinds f fd) (B : Bi mg)  {C_BadDeed C_BadLine C_BadText C_Denied C_IsRoot C_MissingRoot C_NoCommon C_NoDeed C_NoNumber C_NoPerson C_NoRoot C_NotKin C_NotPast C_OtherSize C_TooMany C_Unreachable : Addr} (hFN : ∀ m C, FN m = .ref C → clT [("BadDeed", C_BadDeed), ("BadLine", C_BadLine), ("BadText", C_BadText), ("Denied", C_Denied), ("IsRoot", C_IsRoot), ("MissingRoot", C_MissingRoot), ("NoCommon", C_NoCommon), ("NoDeed", C_NoDeed), ("NoNumber", C_NoNumber), ("NoPerson", C_NoPerson), ("NoRoot", C_NoRoot), ("NotKin", C_NotKin), ("NotPast", C_NotPast), ("OtherSize", C_OtherSize), ("TooMany", C_TooMany), ("Unreachable", C_Unreachable)] m = some C) (xcs : AllL (fun _ C => ExcC K C) [("BadDeed", C_BadDeed), ("BadLine", C_BadLine), ("BadText", C_BadText), ("Denied", C_Denied), ("IsRoot", C_IsRoot), ("MissingRoot", C_MissingRoot), ("NoCommon", C_NoCommon), ("NoDeed", C_NoDeed), ("NoNumber", C_NoNumber), ("NoPerson", C_NoPerson), ("NoRoot", C_NoRoot), ("NotKin", C_NotKin), ("NotPast", C_NotPast), ("OtherSize", C_OtherSize), ("TooMany", C_TooMany), ("Unreachable", C_Unreachable)]) (i_NoDeed : AllL (fun n C => PySem.W.kitOne K (.ref C) (.ref C_NoDeed) = some (subX n "NoDeed")) [("BadDeed", C_BadDeed), ("BadLine", C_BadLine), ("BadText", C_BadText), ("Denied", C_Denied), ("IsRoot", C_IsRoot), ("MissingRoot", C_MissingRoot), ("NoCommon", C_NoCommon), ("NoDeed", C_NoDeed), ("NoNumber", C_NoNumber), ("NoPerson", C_NoPerson), ("NoRoot", C_NoRoot), ("NotKin", C_NotKin), ("NotPast", C_NotPast), ("OtherSize", C_OtherSize), ("TooMany", C_TooMany), ("Unreachable", C_Unreachable)]) (g_NoDeed : mg "NoDeed" = some (.ref C_NoDeed)) (i_NoNumber : AllL (fun n C => PySem.W.kitOne K (.ref C) (.ref C_NoNumber) = some (subX n "NoNumber")) [("BadDeed", C_BadDeed), ("BadLine", C_BadLine), ("BadText", C_BadText), ("Denied", C_Denied), ("IsRoot", C_IsRoot), ("MissingRoot", C_MissingRoot), ("NoCommon", C_NoCommon), ("NoDeed", C_NoDeed), ("NoNumber", C_NoNumber), ("NoPerson", C_NoPerson), ("NoRoot", C_NoRoot), ("NotKin", C_NotKin), ("NotPast", C_NotPast), ("OtherSize", C_OtherSize), ("TooMany", C_TooMany), ("Unreachable", C_Unreachable)]) (g_NoNumber : mg "NoNumber" = some (.ref C_NoNumber)) (i_NoPerson : AllL (fun n C => PySem.W.kitOne K (.ref C) (.ref C_NoPerson) = some (subX n "NoPerson")) [("BadDeed", C_BadDeed), ("BadLine", C_BadLine), ("BadText", C_BadText), ("Denied", C_Denied), ("IsRoot", C_IsRoot), ("MissingRoot", C_MissingRoot), ("NoCommon", C_NoCommon), ("NoDeed", C_NoDeed), ("NoNumber", C_NoNumber), ("NoPerson", C_NoPerson), ("NoRoot", C_NoRoot), ("NotKin", C_NotKin), ("NotPast", C_NotPast), ("OtherSize", C_OtherSize), ("TooMany", C_TooMany), ("Unreachable", C_Unreachable)]) (g_NoPerson : mg "NoPerson" = some (.ref C_NoPerson)) (i_NoRoot : AllL (fun n C => PySem.W.kitOne K (.ref C) (.ref C_NoRoot) = some (subX n "NoRoot")) [("BadDeed", C_BadDeed), ("BadLine", C_BadLine), ("BadText", C_BadText), ("Denied", C_Denied), ("IsRoot", C_IsRoot), ("MissingRoot", C_MissingRoot), ("NoCommon", C_NoCommon), ("NoDeed", C_NoDeed), ("NoNumber", C_NoNumber), ("NoPerson", C_NoPerson), ("NoRoot", C_NoRoot), ("NotKin", C_NotKin), ("NotPast", C_NotPast), ("OtherSize", C_OtherSize), ("TooMany", C_TooMany), ("Unreachable", C_Unreachable)]) (g_NoRoot : mg "NoRoot" = some (.ref C_NoRoot)) (i_OtherSize : AllL (fun n C => PySem.W.kitOne K (.ref C) (.ref C_OtherSize) = some (subX n "OtherSize")) [("BadDeed", C_BadDeed), ("BadLine", C_BadLine), ("BadText", C_BadText), ("Denied", C_Denied), ("IsRoot", C_IsRoot), ("MissingRoot", C_MissingRoot), ("NoCommon", C_NoCommon), ("NoDeed", C_NoDeed), ("NoNumber", C_NoNumber), ("NoPerson", C_NoPerson), ("NoRoot", C_NoRoot), ("NotKin", C_NotKin), ("NotPast", C_NotPast), ("OtherSize", C_OtherSize), ("TooMany", C_TooMany), ("Unreachable", C_Unreachable)]) (g_OtherSize : mg "OtherSize" = some (.ref C_OtherSize)) (i_NotKin : AllL (fun n C => PySem.W.kitOne K (.ref C) (.ref C_NotKin) = some (subX n "NotKin")) [("BadDeed", C_BadDeed), ("BadLine", C_BadLine), ("BadText", C_BadText), ("Denied", C_Denied), ("IsRoot", C_IsRoot), ("MissingRoot", C_MissingRoot), ("NoCommon", C_NoCommon), ("NoDeed", C_NoDeed), ("NoNumber", C_NoNumber), ("NoPerson", C_NoPerson), ("NoRoot", C_NoRoot), ("NotKin", C_NotKin), ("NotPast", C_NotPast), ("OtherSize", C_OtherSize), ("TooMany", C_TooMany), ("Unreachable", C_Unreachable)]) (g_NotKin : mg "NotKin" = some (.ref C_NotKin)) (i_MissingRoot : AllL (fun n C => PySem.W.kitOne K (.ref C) (.ref C_MissingRoot) = some (subX n "MissingRoot")) [("BadDeed", C_BadDeed), ("BadLine", C_BadLine), ("BadText", C_BadText), ("Denied", C_Denied), ("IsRoot", C_IsRoot), ("MissingRoot", C_MissingRoot), ("NoCommon", C_NoCommon), ("NoDeed", C_NoDeed), ("NoNumber", C_NoNumber), ("NoPerson", C_NoPerson), ("NoRoot", C_NoRoot), ("NotKin", C_NotKin), ("NotPast", C_NotPast), ("OtherSize", C_OtherSize), ("TooMany", C_TooMany), ("Unreachable", C_Unreachable)]) (g_MissingRoot : mg "MissingRoot" = some (.ref C_MissingRoot)) (i_BadText : AllL (fun n C => PySem.W.kitOne K (.ref C) (.ref C_BadText) = some (subX n "BadText")) [("BadDeed", C_BadDeed), ("BadLine", C_BadLine), ("BadText", C_BadText), ("Denied", C_Denied), ("IsRoot", C_IsRoot), ("MissingRoot", C_MissingRoot), ("NoCommon", C_NoCommon), ("NoDeed", C_NoDeed), ("NoNumber", C_NoNumber), ("NoPerson", C_NoPerson), ("NoRoot", C_NoRoot), ("NotKin", C_NotKin), ("NotPast", C_NotPast), ("OtherSize", C_OtherSize), ("TooMany", C_TooMany), ("Unreachable", C_Unreachable)]) (g_BadText : mg "BadText" = some (.ref C_BadText)) (i_BadDeed : AllL (fun n C => PySem.W.kitOne K (.ref C) (.ref C_BadDeed) = some (subX n "BadDeed")) [("BadDeed", C_BadDeed), ("BadLine", C_BadLine), ("BadText", C_BadText), ("Denied", C_Denied), ("IsRoot", C_IsRoot), ("MissingRoot", C_MissingRoot), ("NoCommon", C_NoCommon), ("NoDeed", C_NoDeed), ("NoNumber", C_NoNumber), ("NoPerson", C_NoPerson), ("NoRoot", C_NoRoot), ("NotKin", C_NotKin), ("NotPast", C_NotPast), ("OtherSize", C_OtherSize), ("TooMany", C_TooMany), ("Unreachable", C_Unreachable)]) (g_BadDeed : mg "BadDeed" = some (.ref C_BadDeed)) (i_NotPast : AllL (fun n C => PySem.W.kitOne K (.ref C) (.ref C_NotPast) = some (subX n "NotPast")) [("BadDeed", C_BadDeed), ("BadLine", C_BadLine), ("BadText", C_BadText), ("Denied", C_Denied), ("IsRoot", C_IsRoot), ("MissingRoot", C_MissingRoot), ("NoCommon", C_NoCommon), ("NoDeed", C_NoDeed), ("NoNumber", C_NoNumber), ("NoPerson", C_NoPerson), ("NoRoot", C_NoRoot), ("NotKin", C_NotKin), ("NotPast", C_NotPast), ("OtherSize", C_OtherSize), ("TooMany", C_TooMany), ("Unreachable", C_Unreachable)]) (g_NotPast : mg "NotPast" = some (.ref C_NotPast)) (i_NoCommon : AllL (fun n C => PySem.W.kitOne K (.ref C) (.ref C_NoCommon) = some (subX n "NoCommon")) [("BadDeed", C_BadDeed), ("BadLine", C_BadLine), ("BadText", C_BadText), ("Denied", C_Denied), ("IsRoot", C_IsRoot), ("MissingRoot", C_MissingRoot), ("NoCommon", C_NoCommon), ("NoDeed", C_NoDeed), ("NoNumber", C_NoNumber), ("NoPerson", C_NoPerson), ("NoRoot", C_NoRoot), ("NotKin", C_NotKin), ("NotPast", C_NotPast), ("OtherSize", C_OtherSize), ("TooMany", C_TooMany), ("Unreachable", C_Unreachable)]) (g_NoCommon : mg "NoCommon" = some (.ref C_NoCommon)) (i_Unreachable : AllL (fun n C => PySem.W.kitOne K (.ref C) (.ref C_Unreachable) = some (subX n "Unreachable")) [("BadDeed", C_BadDeed), ("BadLine", C_BadLine), ("BadText", C_BadText), ("Denied", C_Denied), ("IsRoot", C_IsRoot), ("MissingRoot", C_MissingRoot), ("NoCommon", C_NoCommon), ("NoDeed", C_NoDeed), ("NoNumber", C_NoNumber), ("NoPerson", C_NoPerson), ("NoRoot", C_NoRoot), ("NotKin", C_NotKin), ("NotPast", C_NotPast), ("OtherSize", C_OtherSize), ("TooMany", C_TooMany), ("Unreachable", C_Unreachable)]) (g_Unreachable : mg "Unreachable" = some (.ref C_Unreachable)) (i_BadLine : AllL (fun n C => PySem.W.kitOne K (.ref C) (.ref C_BadLine) = some (subX n "BadLine")) [("BadDeed", C_BadDeed), ("BadLine", C_BadLine), ("BadText", C_BadText), ("Denied", C_Denied), ("IsRoot", C_IsRoot), ("MissingRoot", C_MissingRoot), ("NoCommon", C_NoCommon), ("NoDeed", C_NoDeed), ("NoNumber", C_NoNumber), ("NoPerson", C_NoPerson), ("NoRoot", C_NoRoot), ("NotKin", C_NotKin), ("NotPast", C_NotPast), ("OtherSize", C_OtherSize), ("TooMany", C_TooMany), ("Unreachable", C_Unreachable)]) (g_BadLine : mg "BadLine" = some (.ref C_BadLine)) (i_TooMany : AllL (fun n C => PySem.W.kitOne K (.ref C) (.ref C_TooMany) = some (subX n "TooMany")) [("BadDeed", C_BadDeed), ("BadLine", C_BadLine), ("BadText", C_BadText), ("Denied", C_Denied), ("IsRoot", C_IsRoot), ("MissingRoot", C_MissingRoot), ("NoCommon", C_NoCommon), ("NoDeed", C_NoDeed), ("NoNumber", C_NoNumber), ("NoPerson", C_NoPerson), ("NoRoot", C_NoRoot), ("NotKin", C_NotKin), ("NotPast", C_NotPast), ("OtherSize", C_OtherSize), ("TooMany", C_TooMany), ("Unreachable", C_Unreachable)]) (g_TooMany : mg "TooMany" = some (.ref C_TooMany)) (i_IsRoot : AllL (fun n C => PySem.W.kitOne K (.ref C) (.ref C_IsRoot) = some (subX n "IsRoot")) [("BadDeed", C_BadDeed), ("BadLine", C_BadLine), ("BadText", C_BadText), ("Denied", C_Denied), ("IsRoot", C_IsRoot), ("MissingRoot", C_MissingRoot), ("NoCommon", C_NoCommon), ("NoDeed", C_NoDeed), ("NoNumber", C_NoNumber), ("NoPerson", C_NoPerson), ("NoRoot", C_NoRoot), ("NotKin", C_NotKin), ("NotPast", C_NotPast), ("OtherSize", C_OtherSize), ("TooMany", C_TooMany), ("Unreachable", C_Unreachable)]) (g_IsRoot : mg "IsRoot" = some (.ref C_IsRoot)) (i_Denied : AllL (fun n C => PySem.W.kitOne K (.ref C) (.ref C_Denied) = some (subX n "Denied")) [("BadDeed", C_BadDeed), ("BadLine", C_BadLine), ("BadText", C_BadText), ("Denied", C_Denied), ("IsRoot", C_IsRoot), ("MissingRoot", C_MissingRoot), ("NoCommon", C_NoCommon), ("NoDeed", C_NoDeed), ("NoNumber", C_NoNumber), ("NoPerson", C_NoPerson), ("NoRoot", C_NoRoot), ("NotKin", C_NotKin), ("NotPast", C_NotPast), ("OtherSize", C_OtherSize), ("TooMany", C_TooMany), ("Unreachable", C_Unreachable)]) (g_Denied : mg "Denied" = some (.ref C_Denied)) : FnOk P w K mg base CX0 1 f fd ["_law_made"] (spD 1 p_law_kinds) := by
  refine okD (k := 0) F sc_law_kinds rfl (fun cdv A outer s H E hr => ?_) m_law_kinds
  exact ⟨_, (pss_cons (ps_set (i := 1) sc_law_kinds.nd rfl (by first | exact Or.inl rfl | exact Or.inr rfl) (pe_lst (pa_cons (pe_callB (isXK (K := K) rfl) (by rfl) B.isinstance (by decide +kernel) (pa_cons (pv 0) (pa_cons (pe_glob (v := .ref C_NoPerson) (by rfl) g_NoPerson rfl) pa_nil))) (pa_cons (pe_callB (isXK (K := K) rfl) (by rfl) B.isinstance (by decide +kernel) (pa_cons (pv 0) (pa_cons (pe_glob (v := .ref C_NoNumber) (by rfl) g_NoNumber rfl) pa_nil))) (pa_cons (pe_callB (isXK (K := K) rfl) (by rfl) B.isinstance (by decide +kernel) (pa_cons (pv 0) (pa_cons (pe_glob (v := .ref C_NoDeed) (by rfl) g_NoDeed rfl) pa_nil))) pa_nil)))))
      (pss_cons (ps_set (i := 1) sc_law_kinds.nd rfl (by first | exact Or.inl rfl | exact Or.inr rfl) (pe_op (addK (K := K) rfl) (pv 1) (pe_lst (pa_cons (pe_callB (isXK (K := K) rfl) (by rfl) B.isinstance (by decide +kernel) (pa_cons (pv 0) (pa_cons (pe_glob (v := .ref C_OtherSize) (by rfl) g_OtherSize rfl) pa_nil))) (pa_cons (pe_callB (isXK (K := K) rfl) (by rfl) B.isinstance (by decide +kernel) (pa_cons (pv 0) (pa_cons (pe_glob (v := .ref C_NoRoot) (by rfl) g_NoRoot rfl) pa_nil))) pa_nil)))))
      (pss_cons (ps_set (i := 1) sc_law_kinds.nd rfl (by first | exact Or.inl rfl | exact Or.inr rfl) (pe_op (addK (K := K) rfl) (pv 1) (pe_lst (pa_cons (pe_callB (isXK (K := K) rfl) (by rfl) B.isinstance (by decide +kernel) (pa_cons (pv 0) (pa_cons (pe_glob (v := .ref C_MissingRoot) (by rfl) g_MissingRoot rfl) pa_nil))) (pa_cons (pe_callB (isXK (K := K) rfl) (by rfl) B.isinstance (by decide +kernel) (pa_cons (pv 0) (pa_cons (pe_glob (v := .ref C_NotKin) (by rfl) g_NotKin rfl) pa_nil))) pa_nil)))))
      (pss_cons (ps_set (i := 1) sc_law_kinds.nd rfl (by first | exact Or.inl rfl | exact Or.inr rfl) (pe_op (addK (K := K) rfl) (pv 1) (pe_lst (pa_cons (pe_callB (isXK (K := K) rfl) (by rfl) B.isinstance (by decide +kernel) (pa_cons (pv 0) (pa_cons (pe_glob (v := .ref C_NotPast) (by rfl) g_NotPast rfl) pa_nil))) (pa_cons (pe_callB (isXK (K := K) rfl) (by rfl) B.isinstance (by decide +kernel) (pa_cons (pv 0) (pa_cons (pe_glob (v := .ref C_BadDeed) (by rfl) g_BadDeed rfl) pa_nil))) (pa_cons (pe_callB (isXK (K := K) rfl) (by rfl) B.isinstance (by decide +kernel) (pa_cons (pv 0) (pa_cons (pe_glob (v := .ref C_BadText) (by rfl) g_BadText rfl) pa_nil))) pa_nil))))))
      (pss_cons (ps_set (i := 1) sc_law_kinds.nd rfl (by first | exact Or.inl rfl | exact Or.inr rfl) (pe_op (addK (K := K) rfl) (pv 1) (pe_lst (pa_cons (pe_callB (isXK (K := K) rfl) (by rfl) B.isinstance (by decide +kernel) (pa_cons (pv 0) (pa_cons (pe_glob (v := .ref C_BadLine) (by rfl) g_BadLine rfl) pa_nil))) (pa_cons (pe_callB (isXK (K := K) rfl) (by rfl) B.isinstance (by decide +kernel) (pa_cons (pv 0) (pa_cons (pe_glob (v := .ref C_Unreachable) (by rfl) g_Unreachable rfl) pa_nil))) (pa_cons (pe_callB (isXK (K := K) rfl) (by rfl) B.isinstance (by decide +kernel) (pa_cons (pv 0) (pa_cons (pe_glob (v := .ref C_NoCommon) (by rfl) g_NoCommon rfl) pa_nil))) pa_nil))))))
      (pss_one (ps_ret (pe_op (addK (K := K) rfl) (pv 1) (pe_lst (pa_cons (pe_callB (isXK (K := K) rfl) (by rfl) B.isinstance (by decide +kernel) (pa_cons (pv 0) (pa_cons (pe_glob (v := .ref C_Denied) (by rfl) g_Denied rfl) pa_nil))) (pa_cons (pe_callB (isXK (K := K) rfl) (by rfl) B.isinstance (by decide +kernel) (pa_cons (pv 0) (pa_cons (pe_glob (v := .ref C_IsRoot) (by rfl) g_IsRoot rfl) pa_nil))) (pa_cons (pe_callB (isXK (K := K) rfl) (by rfl) B.isinstance (by decide +kernel) (pa_cons (pv 0) (pa_cons (pe_glob (v := .ref C_TooMany) (by rfl) g_TooMany rfl) pa_nil))) pa_nil)))))))))))),
    (ss_seq (ss_set false (se_lst (sa_cons (se_isG (fun n C h => allL xcs n C (hFN n C h)) (.own C_NoPerson) (fun n C h => allL i_NoPerson n C (hFN n C h)) se_var) (sa_cons (se_isG (fun n C h => allL xcs n C (hFN n C h)) (.own C_NoNumber) (fun n C h => allL i_NoNumber n C (hFN n C h)) se_var) (sa_cons (se_isG (fun n C h => allL xcs n C (hFN n C h)) (.own C_NoDeed) (fun n C h => allL i_NoDeed n C (hFN n C h)) se_var) sa_nil)))))
      (ss_seq (ss_set false (se_op r2_add se_var (se_lst (sa_cons (se_isG (fun n C h => allL xcs n C (hFN n C h)) (.own C_OtherSize) (fun n C h => allL i_OtherSize n C (hFN n C h)) se_var) (sa_cons (se_isG (fun n C h => allL xcs n C (hFN n C h)) (.own C_NoRoot) (fun n C h => allL i_NoRoot n C (hFN n C h)) se_var) sa_nil)))))
      (ss_seq (ss_set false (se_op r2_add se_var (se_lst (sa_cons (se_isG (fun n C h => allL xcs n C (hFN n C h)) (.own C_MissingRoot) (fun n C h => allL i_MissingRoot n C (hFN n C h)) se_var) (sa_cons (se_isG (fun n C h => allL xcs n C (hFN n C h)) (.own C_NotKin) (fun n C h => allL i_NotKin n C (hFN n C h)) se_var) sa_nil)))))
      (ss_seq (ss_set false (se_op r2_add se_var (se_lst (sa_cons (se_isG (fun n C h => allL xcs n C (hFN n C h)) (.own C_NotPast) (fun n C h => allL i_NotPast n C (hFN n C h)) se_var) (sa_cons (se_isG (fun n C h => allL xcs n C (hFN n C h)) (.own C_BadDeed) (fun n C h => allL i_BadDeed n C (hFN n C h)) se_var) (sa_cons (se_isG (fun n C h => allL xcs n C (hFN n C h)) (.own C_BadText) (fun n C h => allL i_BadText n C (hFN n C h)) se_var) sa_nil))))))
      (ss_seq (ss_set false (se_op r2_add se_var (se_lst (sa_cons (se_isG (fun n C h => allL xcs n C (hFN n C h)) (.own C_BadLine) (fun n C h => allL i_BadLine n C (hFN n C h)) se_var) (sa_cons (se_isG (fun n C h => allL xcs n C (hFN n C h)) (.own C_Unreachable) (fun n C h => allL i_Unreachable n C (hFN n C h)) se_var) (sa_cons (se_isG (fun n C h => allL xcs n C (hFN n C h)) (.own C_NoCommon) (fun n C h => allL i_NoCommon n C (hFN n C h)) se_var) sa_nil))))))
      (ss_ret (se_op r2_add se_var (se_lst (sa_cons (se_isG (fun n C h => allL xcs n C (hFN n C h)) (.own C_Denied) (fun n C h => allL i_Denied n C (hFN n C h)) se_var) (sa_cons (se_isG (fun n C h => allL xcs n C (hFN n C h)) (.own C_IsRoot) (fun n C h => allL i_IsRoot n C (hFN n C h)) se_var) (sa_cons (se_isG (fun n C h => allL xcs n C (hFN n C h)) (.own C_TooMany) (fun n C h => allL i_TooMany n C (hFN n C h)) se_var) sa_nil)))))))))))⟩
abbrev s_law_all_right : Stmt := topS 22
abbrev n_law_all_right : List Str := ["_law_made", "_law_base", "_law_mark_at", "_law_error", "_law_k"]
theorem sc_law_all_right : FnScope n_law_all_right ["_law_made", "_law_base"] (defScope s_law_all_right) := ⟨rfl, rfl, rfl, by decide +kernel, rfl, by decide +kernel, by decide +kernel⟩
theorem ok_law_all_right {f : Addr} {fd : FuncData} (F : Fun K "_law_all_right" "_law_all_right" s_law_all_right f fd) (B : Bi mg) {f_law_kinds : Addr} {e_law_kinds : FuncData} (c_law_kinds : Cal P w K mg base "_law_kinds" 1 ["_law_made"] (spD 1 p_law_kinds) f_law_kinds e_law_kinds) {f_law_bases : Addr} {e_law_bases : FuncData} (c_law_bases : Cal P w K mg base "_law_bases" 1 ["_law_made"] (spD 1 p_law_bases) f_law_bases e_law_bases) {C_BadDeed C_BadLine C_BadText C_Denied C_IsRoot C_MissingRoot C_NoCommon C_NoDeed C_NoNumber C_NoPerson C_NoRoot C_NotKin C_NotPast C_OtherSize C_TooMany C_Unreachable : Addr} (hFN : ∀ m C, FN m = .ref C → clT [("BadDeed", C_BadDeed), ("BadLine", C_BadLine), ("BadText", C_BadText), ("Denied", C_Denied), ("IsRoot", C_IsRoot), ("MissingRoot", C_MissingRoot), ("NoCommon", C_NoCommon), ("NoDeed", C_NoDeed), ("NoNumber", C_NoNumber), ("NoPerson", C_NoPerson), ("NoRoot", C_NoRoot), ("NotKin", C_NotKin), ("NotPast", C_NotPast), ("OtherSize", C_OtherSize), ("TooMany", C_TooMany), ("Unreachable", C_Unreachable)] m = some C) (xcs : AllL (fun _ C => ExcC K C) [("BadDeed", C_BadDeed), ("BadLine", C_BadLine), ("BadText", C_BadText), ("Denied", C_Denied), ("IsRoot", C_IsRoot), ("MissingRoot", C_MissingRoot), ("NoCommon", C_NoCommon), ("NoDeed", C_NoDeed), ("NoNumber", C_NoNumber), ("NoPerson", C_NoPerson), ("NoRoot", C_NoRoot), ("NotKin", C_NotKin), ("NotPast", C_NotPast), ("OtherSize", C_OtherSize), ("TooMany", C_TooMany), ("Unreachable", C_Unreachable)]) (i_KeyError_IndexError : AllL (fun n C => PySem.W.kitAny K (.ref C) [.type "KeyError", .type "IndexError"] = some ((["KeyError", "IndexError"] : List Str).any (subX n))) [("BadDeed", C_BadDeed), ("BadLine", C_BadLine), ("BadText", C_BadText), ("Denied", C_Denied), ("IsRoot", C_IsRoot), ("MissingRoot", C_MissingRoot), ("NoCommon", C_NoCommon), ("NoDeed", C_NoDeed), ("NoNumber", C_NoNumber), ("NoPerson", C_NoPerson), ("NoRoot", C_NoRoot), ("NotKin", C_NotKin), ("NotPast", C_NotPast), ("OtherSize", C_OtherSize), ("TooMany", C_TooMany), ("Unreachable", C_Unreachable)]) (z_IndexError : mg "IndexError" = none) (z_KeyError : mg "KeyError" = none) : FnOk P w K mg base CX0 2 f fd ["_law_made", "_law_base"] (spD 2 p_law_all_right) := by
  refine okD (k := 1) F sc_law_all_right rfl (fun cdv A outer s H E hr => ?_) m_law_all_right
  exact ⟨_, (pss_cons (ps_for PassesOwn.never rfl (enumA2 (K := K) rfl (by rfl) B.enumerate (pa_cons (pv 0) pa_nil)) (gtupK (K := K) rfl (pg_tup rfl (pgs_cons (pg_name (i := 2) sc_law_all_right.nd rfl (by first | exact Or.inl rfl | exact Or.inr rfl)) (pgs_cons (pg_name (i := 3) sc_law_all_right.nd rfl (by first | exact Or.inl rfl | exact Or.inr rfl)) pgs_nil)))) (pss_cons (ps_if (pt_cmpR (neK (K := K) rfl hr.units) (pe_call c_law_kinds.ok (hr.mono (by decide)) (by rfl) c_law_kinds.g c_law_kinds.kp c_law_kinds.bd .nil pass0 (pa_cons (pv 3) pa_nil)) (pe_lc (own := [("_law_k", 4)]) (by rfl) sc_law_all_right.nd (pi_range1 (by rfl) B.range (pa_cons pe_int pa_nil)) (blkOk_by (own := [("_law_k", 4)]) (N := n_law_all_right) (sc := (defScope s_law_all_right)) (by decide +kernel)) (fun _ _ _ _ _ => (pg_name (i := 4) sc_law_all_right.nd rfl (by first | exact Or.inl rfl | exact Or.inr rfl))) (fun _ _ _ _ _ => pts_nil) (fun _ _ _ _ _ => (pe_cmpR (eqK (K := K) rfl hr.units) (pv 4) (pv 2) (nomark _)))) (nomark _)) (pss_one (ps_ret pe_bl)) pss_nil)
      (pss_cons (ps_if (PW.pt (pw_or (pt_cmpR op_isnot_bl (pe_ix (ixK (K := K) rfl) (pe_call c_law_bases.ok (hr.mono (by decide)) (by rfl) c_law_bases.g c_law_bases.kp c_law_bases.bd .nil pass0 (pa_cons (pv 3) pa_nil)) (pe_ix (ixK (K := K) rfl) (pv 1) (pv 2) (fun _ _ => rfl)) (fun _ _ => rfl)) pe_bl (nomark _)) (pw_or1 (pt_truth (pe_callB (isXTK (K := K) rfl) (by rfl) B.isinstance (by decide +kernel) (pa_cons (pv 3) (pa_cons (pe_tup (pa_cons (pe_bltn (v := .ty "KeyError") (by rfl) z_KeyError (by decide +kernel) rfl) (pa_cons (pe_bltn (v := .ty "IndexError") (by rfl) z_IndexError (by decide +kernel) rfl) pa_nil))) pa_nil))) (by intro _; rfl))))) (pss_one (ps_ret pe_bl)) pss_nil)
      (pss_one (ps_if (pt_cmpR (neK (K := K) rfl hr.units) (pe_lc (own := [("_law_k", 4)]) (by rfl) sc_law_all_right.nd (pi_range1 (by rfl) B.range (pa_cons pe_int pa_nil)) (blkOk_by (own := [("_law_k", 4)]) (N := n_law_all_right) (sc := (defScope s_law_all_right)) (by decide +kernel)) (fun _ _ _ _ _ => (pg_name (i := 4) sc_law_all_right.nd rfl (by first | exact Or.inl rfl | exact Or.inr rfl))) (fun _ _ _ _ _ => (pts_one (PW.pt (pw_and (pt_cmpR (neK (K := K) rfl hr.units) (pv 4) (pe_ix (ixK (K := K) rfl) (pv 1) (pv 2) (fun _ _ => rfl)) (nomark _)) (pw_and1 (pt_truth (pe_ix (ixK (K := K) rfl) (pe_call c_law_bases.ok (hr.mono (by decide)) (by rfl) c_law_bases.g c_law_bases.kp c_law_bases.bd .nil pass0 (pa_cons (pv 3) pa_nil)) (pv 4) (fun _ _ => rfl)) (by intro _; rfl))))))) (fun _ _ _ _ _ => (pv 4))) (pe_lst pa_nil) (nomark _)) (pss_one (ps_ret pe_bl)) pss_nil)))))
      (pss_one (ps_ret pe_bl))),
    (ss_seq (ss_forE se_var (ss_seq (ss_if (st_test (se_op r2_ne (se_call mon_law_kinds (sa_cons se_var sa_nil)) (se_lc (si_rng1 (sa_cons se_int sa_nil)) sg_name st_yes (se_op r2_eq se_var se_var)))) (ss_ret se_bl) ss_next)
      (ss_seq (ss_if (st_or (st_test (se_op r2_isNB (se_op r2_ix (se_call mon_law_bases (sa_cons se_var sa_nil)) (se_op r2_ix se_var se_var)) se_bl)) (st_truth (se_isGT (cs := [.ty "KeyError", .ty "IndexError"]) (fun n C h => allL xcs n C (hFN n C h)) (.cons (.ty "KeyError") (.cons (.ty "IndexError") .nil)) (fun n C h => allL i_KeyError_IndexError n C (hFN n C h)) se_var (hl := (by decide : 2 ≤ PySem.sizeLine))))) (ss_ret se_bl) ss_next)
      (ss_if (st_test (se_op r2_ne (se_lc (si_rng1 (sa_cons se_int sa_nil)) sg_name (st_and (st_test (se_op r2_ne se_var (se_op r2_ix se_var se_var))) (st_truth (se_op r2_ix (se_call mon_law_bases (sa_cons se_var sa_nil)) se_var))) se_var) (se_lst sa_nil))) (ss_ret se_bl) ss_next))))
      (ss_ret se_bl))⟩
abbrev s_law_right : Stmt := topS 23
abbrev n_law_right : List Str := ["_law_cell", "_law_reason", "_law_bar_due", "_law_made", "_law_base", "_law_found", "_law_reasons", "_law_due"]
theorem sc_law_right : FnScope n_law_right ["_law_cell", "_law_reason", "_law_bar_due"] (defScope s_law_right) := ⟨rfl, rfl, rfl, by decide +kernel, rfl, by decide +kernel, by decide +kernel⟩
theorem ok_law_right {f : Addr} {fd : FuncData} (F : Fun K "_law_right" "_law_right" s_law_right f fd) (B : Bi mg) {f_law_same : Addr} {e_law_same : FuncData} (c_law_same : Cal P w K mg base "_law_same" 4 ["_law_found", "_law_due"] (spD 2 (p_law_same_3 3)) f_law_same e_law_same) {f_law_all_right : Addr} {e_law_all_right : FuncData} (c_law_all_right : Cal P w K mg base "_law_all_right" 2 ["_law_made", "_law_base"] (spD 2 p_law_all_right) f_law_all_right e_law_all_right) {C_BadDeed C_BadLine C_BadText C_Denied C_IsRoot C_MissingRoot C_NoCommon C_NoDeed C_NoNumber C_NoPerson C_NoRoot C_NotKin C_NotPast C_OtherSize C_TooMany C_Unreachable : Addr} (hFN : ∀ m C, FN m = .ref C → clT [("BadDeed", C_BadDeed), ("BadLine", C_BadLine), ("BadText", C_BadText), ("Denied", C_Denied), ("IsRoot", C_IsRoot), ("MissingRoot", C_MissingRoot), ("NoCommon", C_NoCommon), ("NoDeed", C_NoDeed), ("NoNumber", C_NoNumber), ("NoPerson", C_NoPerson), ("NoRoot", C_NoRoot), ("NotKin", C_NotKin), ("NotPast", C_NotPast), ("OtherSize", C_OtherSize), ("TooMany", C_TooMany), ("Unreachable", C_Unreachable)] m = some C) (g_NotKin : mg "NotKin" = some (.ref C_NotKin)) (hF_NotKin : FN "NotKin" = .ref C_NotKin) (r_NotKin : Ini0 P w K mg base "NotKin" C_NotKin 1) (g_MissingRoot : mg "MissingRoot" = some (.ref C_MissingRoot)) (hF_MissingRoot : FN "MissingRoot" = .ref C_MissingRoot) (r_MissingRoot : IniK P w K mg base "MissingRoot" "person" C_MissingRoot 1) (g_NoRoot : mg "NoRoot" = some (.ref C_NoRoot)) (hF_NoRoot : FN "NoRoot" = .ref C_NoRoot) (r_NoRoot : IniK P w K mg base "NoRoot" "person" C_NoRoot 1) (g_OtherSize : mg "OtherSize" = some (.ref C_OtherSize)) (hF_OtherSize : FN "OtherSize" = .ref C_OtherSize) (r_OtherSize : IniK P w K mg base "OtherSize" "size" C_OtherSize 1) (g_NoDeed : mg "NoDeed" = some (.ref C_NoDeed)) (hF_NoDeed : FN "NoDeed" = .ref C_NoDeed) (r_NoDeed : IniK P w K mg base "NoDeed" "many" C_NoDeed 1) (g_NoNumber : mg "NoNumber" = some (.ref C_NoNumber)) (hF_NoNumber : FN "NoNumber" = .ref C_NoNumber) (r_NoNumber : IniK P w K mg base "NoNumber" "number" C_NoNumber 1) (g_NoPerson : mg "NoPerson" = some (.ref C_NoPerson)) (hF_NoPerson : FN "NoPerson" = .ref C_NoPerson) (r_NoPerson : IniK P w K mg base "NoPerson" "person" C_NoPerson 1) (g_NoCommon : mg "NoCommon" = some (.ref C_NoCommon)) (hF_NoCommon : FN "NoCommon" = .ref C_NoCommon) (r_NoCommon : IniK P w K mg base "NoCommon" "bar" C_NoCommon 2) (g_Unreachable : mg "Unreachable" = some (.ref C_Unreachable)) (hF_Unreachable : FN "Unreachable" = .ref C_Unreachable) (r_Unreachable : IniK P w K mg base "Unreachable" "obstacle" C_Unreachable 2) (g_BadLine : mg "BadLine" = some (.ref C_BadLine)) (hF_BadLine : FN "BadLine" = .ref C_BadLine) (r_BadLine : IniK P w K mg base "BadLine" "at" C_BadLine 1) (g_BadText : mg "BadText" = some (.ref C_BadText)) (hF_BadText : FN "BadText" = .ref C_BadText) (r_BadText : IniK P w K mg base "BadText" "at" C_BadText 1) (g_BadDeed : mg "BadDeed" = some (.ref C_BadDeed)) (hF_BadDeed : FN "BadDeed" = .ref C_BadDeed) (r_BadDeed : IniK P w K mg base "BadDeed" "at" C_BadDeed 1) (g_NotPast : mg "NotPast" = some (.ref C_NotPast)) (hF_NotPast : FN "NotPast" = .ref C_NotPast) (r_NotPast : Ini0 P w K mg base "NotPast" C_NotPast 1) (g_TooMany : mg "TooMany" = some (.ref C_TooMany)) (hF_TooMany : FN "TooMany" = .ref C_TooMany) (r_TooMany : IniK P w K mg base "TooMany" "many" C_TooMany 1) (g_IsRoot : mg "IsRoot" = some (.ref C_IsRoot)) (hF_IsRoot : FN "IsRoot" = .ref C_IsRoot) (r_IsRoot : IniK P w K mg base "IsRoot" "person" C_IsRoot 1) (g_Denied : mg "Denied" = some (.ref C_Denied)) (hF_Denied : FN "Denied" = .ref C_Denied) (r_Denied : IniK P w K mg base "Denied" "obstacle" C_Denied 2) (at_at : AllL (fun _ C => XfC K C ∧ PySem.W.findIn K (.ref C) "at" = some none) [("BadDeed", C_BadDeed), ("BadLine", C_BadLine), ("BadText", C_BadText), ("Denied", C_Denied), ("IsRoot", C_IsRoot), ("MissingRoot", C_MissingRoot), ("NoCommon", C_NoCommon), ("NoDeed", C_NoDeed), ("NoNumber", C_NoNumber), ("NoPerson", C_NoPerson), ("NoRoot", C_NoRoot), ("NotKin", C_NotKin), ("NotPast", C_NotPast), ("OtherSize", C_OtherSize), ("TooMany", C_TooMany), ("Unreachable", C_Unreachable)]) (at_person : AllL (fun _ C => XfC K C ∧ PySem.W.findIn K (.ref C) "person" = some none) [("BadDeed", C_BadDeed), ("BadLine", C_BadLine), ("BadText", C_BadText), ("Denied", C_Denied), ("IsRoot", C_IsRoot), ("MissingRoot", C_MissingRoot), ("NoCommon", C_NoCommon), ("NoDeed", C_NoDeed), ("NoNumber", C_NoNumber), ("NoPerson", C_NoPerson), ("NoRoot", C_NoRoot), ("NotKin", C_NotKin), ("NotPast", C_NotPast), ("OtherSize", C_OtherSize), ("TooMany", C_TooMany), ("Unreachable", C_Unreachable)]) (at_size : AllL (fun _ C => XfC K C ∧ PySem.W.findIn K (.ref C) "size" = some none) [("BadDeed", C_BadDeed), ("BadLine", C_BadLine), ("BadText", C_BadText), ("Denied", C_Denied), ("IsRoot", C_IsRoot), ("MissingRoot", C_MissingRoot), ("NoCommon", C_NoCommon), ("NoDeed", C_NoDeed), ("NoNumber", C_NoNumber), ("NoPerson", C_NoPerson), ("NoRoot", C_NoRoot), ("NotKin", C_NotKin), ("NotPast", C_NotPast), ("OtherSize", C_OtherSize), ("TooMany", C_TooMany), ("Unreachable", C_Unreachable)]) (at_many : AllL (fun _ C => XfC K C ∧ PySem.W.findIn K (.ref C) "many" = some none) [("BadDeed", C_BadDeed), ("BadLine", C_BadLine), ("BadText", C_BadText), ("Denied", C_Denied), ("IsRoot", C_IsRoot), ("MissingRoot", C_MissingRoot), ("NoCommon", C_NoCommon), ("NoDeed", C_NoDeed), ("NoNumber", C_NoNumber), ("NoPerson", C_NoPerson), ("NoRoot", C_NoRoot), ("NotKin", C_NotKin), ("NotPast", C_NotPast), ("OtherSize", C_OtherSize), ("TooMany", C_TooMany), ("Unreachable", C_Unreachable)]) (at_number : AllL (fun _ C => XfC K C ∧ PySem.W.findIn K (.ref C) "number" = some none) [("BadDeed", C_BadDeed), ("BadLine", C_BadLine), ("BadText", C_BadText), ("Denied", C_Denied), ("IsRoot", C_IsRoot), ("MissingRoot", C_MissingRoot), ("NoCommon", C_NoCommon), ("NoDeed", C_NoDeed), ("NoNumber", C_NoNumber), ("NoPerson", C_NoPerson), ("NoRoot", C_NoRoot), ("NotKin", C_NotKin), ("NotPast", C_NotPast), ("OtherSize", C_OtherSize), ("TooMany", C_TooMany), ("Unreachable", C_Unreachable)]) (at_obstacle : AllL (fun _ C => XfC K C ∧ PySem.W.findIn K (.ref C) "obstacle" = some none) [("BadDeed", C_BadDeed), ("BadLine", C_BadLine), ("BadText", C_BadText), ("Denied", C_Denied), ("IsRoot", C_IsRoot), ("MissingRoot", C_MissingRoot), ("NoCommon", C_NoCommon), ("NoDeed", C_NoDeed), ("NoNumber", C_NoNumber), ("NoPerson", C_NoPerson), ("NoRoot", C_NoRoot), ("NotKin", C_NotKin), ("NotPast", C_NotPast), ("OtherSize", C_OtherSize), ("TooMany", C_TooMany), ("Unreachable", C_Unreachable)]) (at_bar : AllL (fun _ C => XfC K C ∧ PySem.W.findIn K (.ref C) "bar" = some none) [("BadDeed", C_BadDeed), ("BadLine", C_BadLine), ("BadText", C_BadText), ("Denied", C_Denied), ("IsRoot", C_IsRoot), ("MissingRoot", C_MissingRoot), ("NoCommon", C_NoCommon), ("NoDeed", C_NoDeed), ("NoNumber", C_NoNumber), ("NoPerson", C_NoPerson), ("NoRoot", C_NoRoot), ("NotKin", C_NotKin), ("NotPast", C_NotPast), ("OtherSize", C_OtherSize), ("TooMany", C_TooMany), ("Unreachable", C_Unreachable)]) : FnOk P w K mg base CX0 5 f fd ["_law_cell", "_law_reason", "_law_bar_due"] (spD 3 p_k91_law_right) := by
  refine okD (k := 4) F sc_law_right rfl (fun cdv A outer s H E hr => ?_) m_k91_law_right
  exact ⟨_, (pss_cons (ps_set (i := 3) sc_law_right.nd rfl (by first | exact Or.inl rfl | exact Or.inr rfl) (pe_lst (pa_cons (pe_newI (K := K) rfl r_NoPerson.i g_NoPerson (hr.mono (by decide)) (by rfl) (pa_cons (pv 0) pa_nil)) (pa_cons (pe_newI (K := K) rfl r_NoNumber.i g_NoNumber (hr.mono (by decide)) (by rfl) (pa_cons (pv 0) pa_nil)) (pa_cons (pe_newI (K := K) rfl r_NoDeed.i g_NoDeed (hr.mono (by decide)) (by rfl) (pa_cons (pv 0) pa_nil)) (pa_cons (pe_newI (K := K) rfl r_OtherSize.i g_OtherSize (hr.mono (by decide)) (by rfl) (pa_cons (pv 0) pa_nil)) (pa_cons (pe_newI (K := K) rfl r_NoRoot.i g_NoRoot (hr.mono (by decide)) (by rfl) (pa_cons (pv 0) pa_nil)) (pa_cons (pe_newI (K := K) rfl r_MissingRoot.i g_MissingRoot (hr.mono (by decide)) (by rfl) (pa_cons (pv 0) pa_nil)) (pa_cons (pe_newI0 (K := K) rfl r_NotKin g_NotKin (hr.mono (by decide)) (by rfl)) pa_nil)))))))))
      (pss_cons (ps_set (i := 3) sc_law_right.nd rfl (by first | exact Or.inl rfl | exact Or.inr rfl) (pe_op (addK (K := K) rfl) (pv 3) (pe_lst (pa_cons (pe_newI0 (K := K) rfl r_NotPast g_NotPast (hr.mono (by decide)) (by rfl)) (pa_cons (pe_newI (K := K) rfl r_BadDeed.i g_BadDeed (hr.mono (by decide)) (by rfl) (pa_cons (pv 0) pa_nil)) (pa_cons (pe_newI (K := K) rfl r_BadText.i g_BadText (hr.mono (by decide)) (by rfl) (pa_cons (pv 0) pa_nil)) (pa_cons (pe_newI (K := K) rfl r_BadLine.i g_BadLine (hr.mono (by decide)) (by rfl) (pa_cons (pv 0) pa_nil)) (pa_cons (pe_newI (K := K) rfl r_Unreachable.i g_Unreachable (hr.mono (by decide)) (by rfl) (pa_cons (pv 1) pa_nil)) (pa_cons (pe_newI (K := K) rfl r_NoCommon.i g_NoCommon (hr.mono (by decide)) (by rfl) (pa_cons (pv 2) pa_nil)) pa_nil)))))))))
      (pss_cons (ps_set (i := 3) sc_law_right.nd rfl (by first | exact Or.inl rfl | exact Or.inr rfl) (pe_op (addK (K := K) rfl) (pv 3) (pe_lst (pa_cons (pe_newI (K := K) rfl r_Denied.i g_Denied (hr.mono (by decide)) (by rfl) (pa_cons (pv 1) pa_nil)) (pa_cons (pe_newI (K := K) rfl r_IsRoot.i g_IsRoot (hr.mono (by decide)) (by rfl) (pa_cons (pv 0) pa_nil)) (pa_cons (pe_newI (K := K) rfl r_TooMany.i g_TooMany (hr.mono (by decide)) (by rfl) (pa_cons (pv 0) pa_nil)) pa_nil))))))
      (pss_cons (ps_set (i := 4) sc_law_right.nd rfl (by first | exact Or.inl rfl | exact Or.inr rfl) (pe_lst (pa_cons pe_int (pa_cons pe_int (pa_cons pe_int (pa_cons pe_int (pa_cons pe_int (pa_cons pe_int (pa_cons pe_int (pa_cons pe_int (pa_cons pe_int (pa_cons pe_int (pa_cons pe_int (pa_cons pe_int (pa_cons pe_int (pa_cons pe_int (pa_cons pe_int (pa_cons pe_int pa_nil))))))))))))))))))
      (pss_cons (ps_set (i := 5) sc_law_right.nd rfl (by first | exact Or.inl rfl | exact Or.inr rfl) (pe_lst (pa_cons (xgK (K := K) rfl (pe_xg (pe_ix (ixK (K := K) rfl) (pv 3) pe_int (fun _ _ => rfl)))) (pa_cons (xgK (K := K) rfl (pe_xg (pe_ix (ixK (K := K) rfl) (pv 3) pe_int (fun _ _ => rfl)))) (pa_cons (xgK (K := K) rfl (pe_xg (pe_ix (ixK (K := K) rfl) (pv 3) pe_int (fun _ _ => rfl)))) (pa_cons (xgK (K := K) rfl (pe_xg (pe_ix (ixK (K := K) rfl) (pv 3) pe_int (fun _ _ => rfl)))) (pa_cons (xgK (K := K) rfl (pe_xg (pe_ix (ixK (K := K) rfl) (pv 3) pe_int (fun _ _ => rfl)))) (pa_cons (xgK (K := K) rfl (pe_xg (pe_ix (ixK (K := K) rfl) (pv 3) pe_int (fun _ _ => rfl)))) (pa_cons (xgK (K := K) rfl (pe_xg (pe_ix (ixK (K := K) rfl) (pv 3) pe_int (fun _ _ => rfl)))) pa_nil)))))))))
      (pss_cons (ps_set (i := 5) sc_law_right.nd rfl (by first | exact Or.inl rfl | exact Or.inr rfl) (pe_op (addK (K := K) rfl) (pv 5) (pe_lst (pa_cons (xgK (K := K) rfl (pe_xg (pe_ix (ixK (K := K) rfl) (pv 3) pe_int (fun _ _ => rfl)))) (pa_cons (xgK (K := K) rfl (pe_xg (pe_ix (ixK (K := K) rfl) (pv 3) pe_int (fun _ _ => rfl)))) (pa_cons (xgK (K := K) rfl (pe_xg (pe_ix (ixK (K := K) rfl) (pv 3) pe_int (fun _ _ => rfl)))) (pa_cons (xgK (K := K) rfl (pe_xg (pe_ix (ixK (K := K) rfl) (pv 3) pe_int (fun _ _ => rfl)))) pa_nil)))))))
      (pss_cons (ps_set (i := 6) sc_law_right.nd rfl (by first | exact Or.inl rfl | exact Or.inr rfl) (pe_lst (pa_cons (xgK (K := K) rfl (pe_xg (pe_ix (ixK (K := K) rfl) (pv 3) pe_int (fun _ _ => rfl)))) (pa_cons (xgK (K := K) rfl (pe_xg (pe_ix (ixK (K := K) rfl) (pv 3) pe_int (fun _ _ => rfl)))) (pa_cons (xgK (K := K) rfl (pe_xg (pe_ix (ixK (K := K) rfl) (pv 3) pe_int (fun _ _ => rfl)))) pa_nil)))))
      (pss_cons (ps_set (i := 7) sc_law_right.nd rfl (by first | exact Or.inl rfl | exact Or.inr rfl) (pe_lst (pa_cons (pv 1) (pa_cons (pv 2) (pa_cons (pv 1) pa_nil)))))
      (pss_cons (ps_if (PW.pt (pw_or (pt_not (pt_truth (pe_call c_law_same.ok (hr.mono (by decide)) (by rfl) c_law_same.g c_law_same.kp c_law_same.bd .nil pass0 (pa_cons (pv 5) (pa_cons (pe_op op_mulA (pe_lst (pa_cons (pv 0) pa_nil)) pe_int) pa_nil))) (by intro _; rfl))) (pw_or (pt_not (pt_truth (pe_call c_law_same.ok (hr.mono (by decide)) (by rfl) c_law_same.g c_law_same.kp c_law_same.bd .nil pass0 (pa_cons (pv 6) (pa_cons (pv 7) pa_nil))) (by intro _; rfl))) (pw_or1 (pt_not (pt_truth (pe_call c_law_all_right.ok (hr.mono (by decide)) (by rfl) c_law_all_right.g c_law_all_right.kp c_law_all_right.bd .nil pass0 (pa_cons (pv 3) (pa_cons (pv 4) pa_nil))) (by intro _; rfl))))))) (pss_one (ps_ret pe_bl)) pss_nil)
      (pss_cons (ps_set (i := 5) sc_law_right.nd rfl (by first | exact Or.inl rfl | exact Or.inr rfl) (pe_lst (pa_cons (xgK (K := K) rfl (pe_xg (pe_newIK (K := K) rfl r_NoPerson g_NoPerson (hr.mono (by decide)) (by rfl) (pk_cons (pv 0) pk_nil)))) (pa_cons (xgK (K := K) rfl (pe_xg (pe_newIK (K := K) rfl r_NoNumber g_NoNumber (hr.mono (by decide)) (by rfl) (pk_cons (pv 0) pk_nil)))) (pa_cons (xgK (K := K) rfl (pe_xg (pe_newIK (K := K) rfl r_NoDeed g_NoDeed (hr.mono (by decide)) (by rfl) (pk_cons (pv 0) pk_nil)))) pa_nil)))))
      (pss_cons (ps_set (i := 5) sc_law_right.nd rfl (by first | exact Or.inl rfl | exact Or.inr rfl) (pe_op (addK (K := K) rfl) (pv 5) (pe_lst (pa_cons (xgK (K := K) rfl (pe_xg (pe_newIK (K := K) rfl r_OtherSize g_OtherSize (hr.mono (by decide)) (by rfl) (pk_cons (pv 0) pk_nil)))) (pa_cons (xgK (K := K) rfl (pe_xg (pe_newIK (K := K) rfl r_NoRoot g_NoRoot (hr.mono (by decide)) (by rfl) (pk_cons (pv 0) pk_nil)))) (pa_cons (xgK (K := K) rfl (pe_xg (pe_newIK (K := K) rfl r_MissingRoot g_MissingRoot (hr.mono (by decide)) (by rfl) (pk_cons (pv 0) pk_nil)))) pa_nil))))))
      (pss_cons (ps_set (i := 5) sc_law_right.nd rfl (by first | exact Or.inl rfl | exact Or.inr rfl) (pe_op (addK (K := K) rfl) (pv 5) (pe_lst (pa_cons (xgK (K := K) rfl (pe_xg (pe_newIK (K := K) rfl r_BadDeed g_BadDeed (hr.mono (by decide)) (by rfl) (pk_cons (pv 0) pk_nil)))) (pa_cons (xgK (K := K) rfl (pe_xg (pe_newIK (K := K) rfl r_BadText g_BadText (hr.mono (by decide)) (by rfl) (pk_cons (pv 0) pk_nil)))) (pa_cons (xgK (K := K) rfl (pe_xg (pe_newIK (K := K) rfl r_BadLine g_BadLine (hr.mono (by decide)) (by rfl) (pk_cons (pv 0) pk_nil)))) (pa_cons (xgK (K := K) rfl (pe_xg (pe_newIK (K := K) rfl r_IsRoot g_IsRoot (hr.mono (by decide)) (by rfl) (pk_cons (pv 0) pk_nil)))) pa_nil)))))))
      (pss_cons (ps_set (i := 6) sc_law_right.nd rfl (by first | exact Or.inl rfl | exact Or.inr rfl) (pe_lst (pa_cons (xgK (K := K) rfl (pe_xg (pe_newIK (K := K) rfl r_Unreachable g_Unreachable (hr.mono (by decide)) (by rfl) (pk_cons (pv 1) pk_nil)))) (pa_cons (xgK (K := K) rfl (pe_xg (pe_newIK (K := K) rfl r_NoCommon g_NoCommon (hr.mono (by decide)) (by rfl) (pk_cons (pv 2) pk_nil)))) (pa_cons (xgK (K := K) rfl (pe_xg (pe_newIK (K := K) rfl r_Denied g_Denied (hr.mono (by decide)) (by rfl) (pk_cons (pv 1) pk_nil)))) pa_nil)))))
      (pss_one (ps_ret (pe_and (pe_call c_law_same.ok (hr.mono (by decide)) (by rfl) c_law_same.g c_law_same.kp c_law_same.bd .nil pass0 (pa_cons (pe_op (addK (K := K) rfl) (pv 5) (pe_lst (pa_cons (xgK (K := K) rfl (pe_xg (pe_newIK (K := K) rfl r_TooMany g_TooMany (hr.mono (by decide)) (by rfl) (pk_cons (pv 0) pk_nil)))) pa_nil))) (pa_cons (pe_op op_mulA (pe_lst (pa_cons (pv 0) pa_nil)) pe_int) pa_nil))) (pe_one (pe_call c_law_same.ok (hr.mono (by decide)) (by rfl) c_law_same.g c_law_same.kp c_law_same.bd .nil pass0 (pa_cons (pv 6) (pa_cons (pv 7) pa_nil)))))))))))))))))))),
    (ss_seq (ss_set false (se_exL (sa_cons (se_newX hF_NoPerson se_var) (sa_cons (se_newX hF_NoNumber se_var) (sa_cons (se_newX hF_NoDeed se_var) (sa_cons (se_newX hF_OtherSize se_var) (sa_cons (se_newX hF_NoRoot se_var) (sa_cons (se_newX hF_MissingRoot se_var) (sa_cons (se_newX0 (hF_NotKin)) sa_nil)))))))))
      (ss_seq (ss_set false (se_exCat se_var (se_exL (sa_cons (se_newX0 (hF_NotPast)) (sa_cons (se_newX hF_BadDeed se_var) (sa_cons (se_newX hF_BadText se_var) (sa_cons (se_newX hF_BadLine se_var) (sa_cons (se_newX hF_Unreachable se_var) (sa_cons (se_newX hF_NoCommon se_var) sa_nil)))))))))
      (ss_seq (ss_set false (se_exCat se_var (se_exL (sa_cons (se_newX hF_Denied se_var) (sa_cons (se_newX hF_IsRoot se_var) (sa_cons (se_newX hF_TooMany se_var) sa_nil))))))
      (ss_seq (ss_set false (se_lst (sa_cons se_int (sa_cons se_int (sa_cons se_int (sa_cons se_int (sa_cons se_int (sa_cons se_int (sa_cons se_int (sa_cons se_int (sa_cons se_int (sa_cons se_int (sa_cons se_int (sa_cons se_int (sa_cons se_int (sa_cons se_int (sa_cons se_int (sa_cons se_int sa_nil))))))))))))))))))
      (ss_seq (ss_set false (se_lst (sa_cons (se_attrG (fun m C h => allL at_person m C (hFN m C h)) (se_exIx (i := 0) rfl se_var)) (sa_cons (se_attrG (fun m C h => allL at_number m C (hFN m C h)) (se_exIx (i := 1) rfl se_var)) (sa_cons (se_attrG (fun m C h => allL at_many m C (hFN m C h)) (se_exIx (i := 2) rfl se_var)) (sa_cons (se_attrG (fun m C h => allL at_size m C (hFN m C h)) (se_exIx (i := 3) rfl se_var)) (sa_cons (se_attrG (fun m C h => allL at_person m C (hFN m C h)) (se_exIx (i := 4) rfl se_var)) (sa_cons (se_attrG (fun m C h => allL at_person m C (hFN m C h)) (se_exIx (i := 5) rfl se_var)) (sa_cons (se_attrG (fun m C h => allL at_at m C (hFN m C h)) (se_exIx (i := 8) rfl se_var)) sa_nil)))))))))
      (ss_seq (ss_set false (se_op r2_add se_var (se_lst (sa_cons (se_attrG (fun m C h => allL at_at m C (hFN m C h)) (se_exIx (i := 9) rfl se_var)) (sa_cons (se_attrG (fun m C h => allL at_at m C (hFN m C h)) (se_exIx (i := 10) rfl se_var)) (sa_cons (se_attrG (fun m C h => allL at_person m C (hFN m C h)) (se_exIx (i := 14) rfl se_var)) (sa_cons (se_attrG (fun m C h => allL at_many m C (hFN m C h)) (se_exIx (i := 15) rfl se_var)) sa_nil)))))))
      (ss_seq (ss_set false (se_lst (sa_cons (se_attrG (fun m C h => allL at_obstacle m C (hFN m C h)) (se_exIx (i := 11) rfl se_var)) (sa_cons (se_attrG (fun m C h => allL at_bar m C (hFN m C h)) (se_exIx (i := 12) rfl se_var)) (sa_cons (se_attrG (fun m C h => allL at_obstacle m C (hFN m C h)) (se_exIx (i := 13) rfl se_var)) sa_nil)))))
      (ss_seq (ss_set false (se_lst (sa_cons se_var (sa_cons se_var (sa_cons se_var sa_nil)))))
      (ss_seq (ss_if (st_or (st_not (st_truth (se_call (mon_law_same_3 3) (sa_cons se_var (sa_cons (se_op r2_mul (se_lst (sa_cons se_var sa_nil)) se_int) sa_nil))))) (st_or (st_not (st_truth (se_call (mon_law_same_3 3) (sa_cons se_var (sa_cons se_var sa_nil))))) (st_not (st_truth (se_call mon_law_all_right (sa_cons se_var (sa_cons se_var sa_nil))))))) (ss_ret se_bl) ss_next)
      (ss_seq (ss_set false (se_lst (sa_cons (se_attrG (fun m C h => allL at_person m C (hFN m C h)) (se_newX hF_NoPerson se_var)) (sa_cons (se_attrG (fun m C h => allL at_number m C (hFN m C h)) (se_newX hF_NoNumber se_var)) (sa_cons (se_attrG (fun m C h => allL at_many m C (hFN m C h)) (se_newX hF_NoDeed se_var)) sa_nil)))))
      (ss_seq (ss_set false (se_op r2_add se_var (se_lst (sa_cons (se_attrG (fun m C h => allL at_size m C (hFN m C h)) (se_newX hF_OtherSize se_var)) (sa_cons (se_attrG (fun m C h => allL at_person m C (hFN m C h)) (se_newX hF_NoRoot se_var)) (sa_cons (se_attrG (fun m C h => allL at_person m C (hFN m C h)) (se_newX hF_MissingRoot se_var)) sa_nil))))))
      (ss_seq (ss_set false (se_op r2_add se_var (se_lst (sa_cons (se_attrG (fun m C h => allL at_at m C (hFN m C h)) (se_newX hF_BadDeed se_var)) (sa_cons (se_attrG (fun m C h => allL at_at m C (hFN m C h)) (se_newX hF_BadText se_var)) (sa_cons (se_attrG (fun m C h => allL at_at m C (hFN m C h)) (se_newX hF_BadLine se_var)) (sa_cons (se_attrG (fun m C h => allL at_person m C (hFN m C h)) (se_newX hF_IsRoot se_var)) sa_nil)))))))
      (ss_seq (ss_set false (se_lst (sa_cons (se_attrG (fun m C h => allL at_obstacle m C (hFN m C h)) (se_newX hF_Unreachable se_var)) (sa_cons (se_attrG (fun m C h => allL at_bar m C (hFN m C h)) (se_newX hF_NoCommon se_var)) (sa_cons (se_attrG (fun m C h => allL at_obstacle m C (hFN m C h)) (se_newX hF_Denied se_var)) sa_nil)))))
      (ss_ret (se_andV (se_call (mon_law_same_3 3) (sa_cons (se_op r2_add se_var (se_lst (sa_cons (se_attrG (fun m C h => allL at_many m C (hFN m C h)) (se_newX hF_TooMany se_var)) sa_nil))) (sa_cons (se_op r2_mul (se_lst (sa_cons se_var sa_nil)) se_int) sa_nil))) (se_call (mon_law_same_3 3) (sa_cons se_var (sa_cons se_var sa_nil))))))))))))))))))⟩
abbrev s_law : Stmt := topS 24
abbrev n_law : List Str := ["_law_script", "_law_cells", "_law_cell", "_law_k", "_law_spot", "_law_reason", "_law_bar_due"]
theorem sc_law : FnScope n_law ["_law_script"] (defScope s_law) := ⟨rfl, rfl, rfl, by decide +kernel, rfl, by decide +kernel, by decide +kernel⟩
theorem ok_law {f : Addr} {fd : FuncData} (F : Fun K "law" "law" s_law f fd) (B : Bi mg) {f_law_right : Addr} {e_law_right : FuncData} (c_law_right : Cal P w K mg base "_law_right" 5 ["_law_cell", "_law_reason", "_law_bar_due"] (spD 3 p_k91_law_right) f_law_right e_law_right)  : FnOk P w K mg base CX0 6 f fd ["_law_script"] (spD 1 (p_k91_law K)) := by
  refine okD (k := 5) F sc_law rfl (fun cdv A outer s H E hr => ?_) m_k91_law
  exact ⟨_, (pss_cons (ps_set (i := 1) sc_law.nd rfl (by first | exact Or.inl rfl | exact Or.inr rfl) (pe_op (addK (K := K) rfl) (pe_lc (own := [("_law_cell", 2)]) (by rfl) sc_law.nd (seqK (K := K) rfl (pe_slice (slK (K := K) rfl) (pv 0) po_none (po_some pe_int))) (blkOk_by (own := [("_law_cell", 2)]) (N := n_law) (sc := (defScope s_law)) (by decide +kernel)) (fun _ _ _ _ _ => (pg_name (i := 2) sc_law.nd rfl (by first | exact Or.inl rfl | exact Or.inr rfl))) (fun _ _ _ _ _ => pts_nil) (fun _ _ _ _ _ => (pe_op (addK (K := K) rfl) (pe_op op_mod (pe_callB (call_abs) (by rfl) B.abs (by decide +kernel) (pa_cons (pv 2) pa_nil)) pe_int) pe_int))) (pe_lst (pa_cons pe_int pa_nil))))
      (pss_cons (ps_for PassesOwn.never rfl (enumA2 (K := K) rfl (by rfl) B.enumerate (pa_cons (pv 1) pa_nil)) (gtupK (K := K) rfl (pg_tup rfl (pgs_cons (pg_name (i := 3) sc_law.nd rfl (by first | exact Or.inl rfl | exact Or.inr rfl)) (pgs_cons (pg_name (i := 2) sc_law.nd rfl (by first | exact Or.inl rfl | exact Or.inr rfl)) pgs_nil)))) (pss_cons (ps_set (i := 4) sc_law.nd rfl (by first | exact Or.inl rfl | exact Or.inr rfl) (pe_op op_sub (pv 2) pe_int))
      (pss_cons (ps_set (i := 5) sc_law.nd rfl (by first | exact Or.inl rfl | exact Or.inr rfl) (pe_ix (ixK (K := K) rfl) (pe_lst (pa_cons (pe_tupS (pa_cons pe_str (pa_cons (pv 4) pa_nil))) (pa_cons (pe_tupS (pa_cons pe_str (pa_cons (pv 4) (pa_cons (pe_op (addK (K := K) rfl) pe_int (pv 4)) pa_nil)))) (pa_cons (pe_tupS (pa_cons pe_str (pa_cons pe_int (pa_cons (pe_op (addK (K := K) rfl) pe_int (pv 4)) (pa_cons pe_int pa_nil))))) pa_nil)))) (pe_op op_mod (pv 3) pe_int) (fun _ _ => rfl)))
      (pss_cons (ps_set (i := 6) sc_law.nd rfl (by first | exact Or.inl rfl | exact Or.inr rfl) (pe_ix (ixK (K := K) rfl) (pe_lst (pa_cons (pe_tupS (pa_cons pe_str (pa_cons (pv 4) pa_nil))) (pa_cons (pe_tupS (pa_cons pe_str (pa_cons pe_int (pa_cons pe_int (pa_cons (pe_op (addK (K := K) rfl) pe_int (pv 4)) pa_nil))))) (pa_cons (pe_tupS (pa_cons pe_str (pa_cons (pv 4) pa_nil))) pa_nil)))) (pe_op op_mod (pv 3) pe_int) (fun _ _ => rfl)))
      (pss_one (ps_if (pt_not (pt_truth (pe_call c_law_right.ok (hr.mono (by decide)) (by rfl) c_law_right.g c_law_right.kp c_law_right.bd .nil pass0 (pa_cons (pv 2) (pa_cons (pv 5) (pa_cons (pv 6) pa_nil)))) (by intro _; rfl))) (pss_one (ps_ret pe_bl)) pss_nil))))))
      (pss_one (ps_ret pe_bl)))),
    (ss_seq (ss_set false (se_op r2_add (se_lc (si_seq (se_slG se_var)) sg_name st_yes (se_op r2_add (se_op r2_C (se_cb rc_abs (sa_cons se_var sa_nil)) se_int) se_int)) (se_lst (sa_cons se_int sa_nil))))
      (ss_seq (ss_for (si_enA (sa_cons se_var sa_nil)) (sg_tup (sgs_cons sg_name (sgs_cons sg_name sgs_nil))) (ss_seq (ss_set false (se_op r2_I se_var se_int))
      (ss_seq (ss_set false (se_op r2_ix (se_lst (sa_cons (se_tup (sa_cons se_str (sa_cons se_var sa_nil))) (sa_cons (se_tup (sa_cons se_str (sa_cons se_var (sa_cons (se_op r2_add se_int se_var) sa_nil)))) (sa_cons (se_tup (sa_cons se_str (sa_cons se_int (sa_cons (se_op r2_add se_int se_var) (sa_cons se_int sa_nil))))) sa_nil)))) (se_op r2_C se_var se_int)))
      (ss_seq (ss_set false (se_op r2_ix (se_lst (sa_cons (se_tup (sa_cons se_str (sa_cons se_var sa_nil))) (sa_cons (se_tup (sa_cons se_str (sa_cons se_int (sa_cons se_int (sa_cons (se_op r2_add se_int se_var) sa_nil))))) (sa_cons (se_tup (sa_cons se_str (sa_cons se_var sa_nil))) sa_nil)))) (se_op r2_C se_var se_int)))
      (ss_if (st_not (st_truth (se_call mon_k91_law_right (sa_cons se_var (sa_cons se_var (sa_cons se_var sa_nil)))))) (ss_ret se_bl) ss_next)))))
      (ss_ret se_bl)))⟩
theorem law_imp {vs : List V} {H : Hp} {Q : VK} {E : XK} (h : spLaw K vs H Q E) : spD 1 (p_k91_law K) vs H Q E := by
  obtain ⟨a, ns, rfl, hS, hl, q⟩ := h
  refine ⟨none, H, 0, [.gen (scrG K ns)], rfl, ⟨Same.refl H, fun b hb => nomatch hb⟩, .cons ⟨a, rfl, hS⟩ .nil, ns, rfl, hl, fun v L' H' z e r => ?_⟩
  have r2 : DV L' v (.bool true) := r
  cases r2
  exact q H'
end
theorem all_mk {l : PySem.W.OpenLaw} {w : World} {K : PySem.W.Frag} {h : Heap} {mg : Str → Option Value} {fa : Addr} (X : K.In h) (G : h.Ns mainGlobals mg) (hfa : mg "law" = some (.ref fa)) (Z : Zs K)
    (d1 : Dx K "kept" s_kept) (d19 : Dx K "_law_same" s_law_same) (d20 : Dx K "_law_bases" s_law_bases) (d21 : Dx K "_law_kinds" s_law_kinds) (d22 : Dx K "_law_all_right" s_law_all_right) (d23 : Dx K "_law_right" s_law_right) (d24 : Dx K "law" s_law) {C_BadDeed C_BadLine C_BadText C_Denied C_IsRoot C_MissingRoot C_NoCommon C_NoDeed C_NoNumber C_NoPerson C_NoRoot C_NotKin C_NotPast C_OtherSize C_TooMany C_Unreachable : Addr} {fI_BadDeed fI_BadLine fI_BadText fI_Denied fI_IsRoot fI_MissingRoot fI_NoCommon fI_NoDeed fI_NoNumber fI_NoPerson fI_NoRoot fI_NotKin fI_NotPast fI_OtherSize fI_TooMany fI_Unreachable : Addr} (cg_BadDeed : PySem.W.nsIn K mainGlobals "BadDeed" = some (some (.ref C_BadDeed))) (cg_BadLine : PySem.W.nsIn K mainGlobals "BadLine" = some (some (.ref C_BadLine))) (cg_BadText : PySem.W.nsIn K mainGlobals "BadText" = some (some (.ref C_BadText))) (cg_Denied : PySem.W.nsIn K mainGlobals "Denied" = some (some (.ref C_Denied))) (cg_IsRoot : PySem.W.nsIn K mainGlobals "IsRoot" = some (some (.ref C_IsRoot))) (cg_MissingRoot : PySem.W.nsIn K mainGlobals "MissingRoot" = some (some (.ref C_MissingRoot))) (cg_NoCommon : PySem.W.nsIn K mainGlobals "NoCommon" = some (some (.ref C_NoCommon))) (cg_NoDeed : PySem.W.nsIn K mainGlobals "NoDeed" = some (some (.ref C_NoDeed))) (cg_NoNumber : PySem.W.nsIn K mainGlobals "NoNumber" = some (some (.ref C_NoNumber))) (cg_NoPerson : PySem.W.nsIn K mainGlobals "NoPerson" = some (some (.ref C_NoPerson))) (cg_NoRoot : PySem.W.nsIn K mainGlobals "NoRoot" = some (some (.ref C_NoRoot))) (cg_NotKin : PySem.W.nsIn K mainGlobals "NotKin" = some (some (.ref C_NotKin))) (cg_NotPast : PySem.W.nsIn K mainGlobals "NotPast" = some (some (.ref C_NotPast))) (cg_OtherSize : PySem.W.nsIn K mainGlobals "OtherSize" = some (some (.ref C_OtherSize))) (cg_TooMany : PySem.W.nsIn K mainGlobals "TooMany" = some (some (.ref C_TooMany))) (cg_Unreachable : PySem.W.nsIn K mainGlobals "Unreachable" = some (some (.ref C_Unreachable))) (cf_BadDeed : ClF K C_BadDeed bm_ValueError "ValueError.__new__") (ci_BadDeed : PySem.W.findIn K (.ref C_BadDeed) "__init__" = some (some (.ref fI_BadDeed))) (ct_BadDeed : PySem.W.typeIn K (.ref fI_BadDeed) = some (.type "function")) (ce_BadDeed : ∃ fd, Fun K "__init__" "BadDeed.__init__" s_init_BadDeed fI_BadDeed fd) (ca_BadDeed_at : PySem.W.findIn K (.ref C_BadDeed) "at" = some none) (ca_BadDeed_bar : PySem.W.findIn K (.ref C_BadDeed) "bar" = some none) (ca_BadDeed_many : PySem.W.findIn K (.ref C_BadDeed) "many" = some none) (ca_BadDeed_number : PySem.W.findIn K (.ref C_BadDeed) "number" = some none) (ca_BadDeed_obstacle : PySem.W.findIn K (.ref C_BadDeed) "obstacle" = some none) (ca_BadDeed_person : PySem.W.findIn K (.ref C_BadDeed) "person" = some none) (ca_BadDeed_size : PySem.W.findIn K (.ref C_BadDeed) "size" = some none) (cf_BadLine : ClF K C_BadLine bm_ValueError "ValueError.__new__") (ci_BadLine : PySem.W.findIn K (.ref C_BadLine) "__init__" = some (some (.ref fI_BadLine))) (ct_BadLine : PySem.W.typeIn K (.ref fI_BadLine) = some (.type "function")) (ce_BadLine : ∃ fd, Fun K "__init__" "BadLine.__init__" s_init_BadLine fI_BadLine fd) (ca_BadLine_at : PySem.W.findIn K (.ref C_BadLine) "at" = some none) (ca_BadLine_bar : PySem.W.findIn K (.ref C_BadLine) "bar" = some none) (ca_BadLine_many : PySem.W.findIn K (.ref C_BadLine) "many" = some none) (ca_BadLine_number : PySem.W.findIn K (.ref C_BadLine) "number" = some none) (ca_BadLine_obstacle : PySem.W.findIn K (.ref C_BadLine) "obstacle" = some none) (ca_BadLine_person : PySem.W.findIn K (.ref C_BadLine) "person" = some none) (ca_BadLine_size : PySem.W.findIn K (.ref C_BadLine) "size" = some none) (cf_BadText : ClF K C_BadText bm_ValueError "ValueError.__new__") (ci_BadText : PySem.W.findIn K (.ref C_BadText) "__init__" = some (some (.ref fI_BadText))) (ct_BadText : PySem.W.typeIn K (.ref fI_BadText) = some (.type "function")) (ce_BadText : ∃ fd, Fun K "__init__" "BadText.__init__" s_init_BadText fI_BadText fd) (ca_BadText_at : PySem.W.findIn K (.ref C_BadText) "at" = some none) (ca_BadText_bar : PySem.W.findIn K (.ref C_BadText) "bar" = some none) (ca_BadText_many : PySem.W.findIn K (.ref C_BadText) "many" = some none) (ca_BadText_number : PySem.W.findIn K (.ref C_BadText) "number" = some none) (ca_BadText_obstacle : PySem.W.findIn K (.ref C_BadText) "obstacle" = some none) (ca_BadText_person : PySem.W.findIn K (.ref C_BadText) "person" = some none) (ca_BadText_size : PySem.W.findIn K (.ref C_BadText) "size" = some none) (cf_Denied : ClF K C_Denied bm_RuntimeError "RuntimeError.__new__") (ci_Denied : PySem.W.findIn K (.ref C_Denied) "__init__" = some (some (.ref fI_Denied))) (ct_Denied : PySem.W.typeIn K (.ref fI_Denied) = some (.type "function")) (ce_Denied : ∃ fd, Fun K "__init__" "Denied.__init__" s_init_Denied fI_Denied fd) (ca_Denied_at : PySem.W.findIn K (.ref C_Denied) "at" = some none) (ca_Denied_bar : PySem.W.findIn K (.ref C_Denied) "bar" = some none) (ca_Denied_many : PySem.W.findIn K (.ref C_Denied) "many" = some none) (ca_Denied_number : PySem.W.findIn K (.ref C_Denied) "number" = some none) (ca_Denied_obstacle : PySem.W.findIn K (.ref C_Denied) "obstacle" = some none) (ca_Denied_person : PySem.W.findIn K (.ref C_Denied) "person" = some none) (ca_Denied_size : PySem.W.findIn K (.ref C_Denied) "size" = some none) (cf_IsRoot : ClF K C_IsRoot bm_RuntimeError "RuntimeError.__new__") (ci_IsRoot : PySem.W.findIn K (.ref C_IsRoot) "__init__" = some (some (.ref fI_IsRoot))) (ct_IsRoot : PySem.W.typeIn K (.ref fI_IsRoot) = some (.type "function")) (ce_IsRoot : ∃ fd, Fun K "__init__" "IsRoot.__init__" s_init_IsRoot fI_IsRoot fd) (ca_IsRoot_at : PySem.W.findIn K (.ref C_IsRoot) "at" = some none) (ca_IsRoot_bar : PySem.W.findIn K (.ref C_IsRoot) "bar" = some none) (ca_IsRoot_many : PySem.W.findIn K (.ref C_IsRoot) "many" = some none) (ca_IsRoot_number : PySem.W.findIn K (.ref C_IsRoot) "number" = some none) (ca_IsRoot_obstacle : PySem.W.findIn K (.ref C_IsRoot) "obstacle" = some none) (ca_IsRoot_person : PySem.W.findIn K (.ref C_IsRoot) "person" = some none) (ca_IsRoot_size : PySem.W.findIn K (.ref C_IsRoot) "size" = some none) (cf_MissingRoot : ClF K C_MissingRoot bm_ValueError "ValueError.__new__") (ci_MissingRoot : PySem.W.findIn K (.ref C_MissingRoot) "__init__" = some (some (.ref fI_MissingRoot))) (ct_MissingRoot : PySem.W.typeIn K (.ref fI_MissingRoot) = some (.type "function")) (ce_MissingRoot : ∃ fd, Fun K "__init__" "MissingRoot.__init__" s_init_MissingRoot fI_MissingRoot fd) (ca_MissingRoot_at : PySem.W.findIn K (.ref C_MissingRoot) "at" = some none) (ca_MissingRoot_bar : PySem.W.findIn K (.ref C_MissingRoot) "bar" = some none) (ca_MissingRoot_many : PySem.W.findIn K (.ref C_MissingRoot) "many" = some none) (ca_MissingRoot_number : PySem.W.findIn K (.ref C_MissingRoot) "number" = some none) (ca_MissingRoot_obstacle : PySem.W.findIn K (.ref C_MissingRoot) "obstacle" = some none) (ca_MissingRoot_person : PySem.W.findIn K (.ref C_MissingRoot) "person" = some none) (ca_MissingRoot_size : PySem.W.findIn K (.ref C_MissingRoot) "size" = some none) (cf_NoCommon : ClF K C_NoCommon bm_RuntimeError "RuntimeError.__new__") (ci_NoCommon : PySem.W.findIn K (.ref C_NoCommon) "__init__" = some (some (.ref fI_NoCommon))) (ct_NoCommon : PySem.W.typeIn K (.ref fI_NoCommon) = some (.type "function")) (ce_NoCommon : ∃ fd, Fun K "__init__" "NoCommon.__init__" s_init_NoCommon fI_NoCommon fd) (ca_NoCommon_at : PySem.W.findIn K (.ref C_NoCommon) "at" = some none) (ca_NoCommon_bar : PySem.W.findIn K (.ref C_NoCommon) "bar" = some none) (ca_NoCommon_many : PySem.W.findIn K (.ref C_NoCommon) "many" = some none) (ca_NoCommon_number : PySem.W.findIn K (.ref C_NoCommon) "number" = some none) (ca_NoCommon_obstacle : PySem.W.findIn K (.ref C_NoCommon) "obstacle" = some none) (ca_NoCommon_person : PySem.W.findIn K (.ref C_NoCommon) "person" = some none) (ca_NoCommon_size : PySem.W.findIn K (.ref C_NoCommon) "size" = some none) (cf_NoDeed : ClF K C_NoDeed bm_LookupError "LookupError.__new__") (ci_NoDeed : PySem.W.findIn K (.ref C_NoDeed) "__init__" = some (some (.ref fI_NoDeed))) (ct_NoDeed : PySem.W.typeIn K (.ref fI_NoDeed) = some (.type "function")) (ce_NoDeed : ∃ fd, Fun K "__init__" "NoDeed.__init__" s_init_NoDeed fI_NoDeed fd) (ca_NoDeed_at : PySem.W.findIn K (.ref C_NoDeed) "at" = some none) (ca_NoDeed_bar : PySem.W.findIn K (.ref C_NoDeed) "bar" = some none) (ca_NoDeed_many : PySem.W.findIn K (.ref C_NoDeed) "many" = some none) (ca_NoDeed_number : PySem.W.findIn K (.ref C_NoDeed) "number" = some none) (ca_NoDeed_obstacle : PySem.W.findIn K (.ref C_NoDeed) "obstacle" = some none) (ca_NoDeed_person : PySem.W.findIn K (.ref C_NoDeed) "person" = some none) (ca_NoDeed_size : PySem.W.findIn K (.ref C_NoDeed) "size" = some none) (cf_NoNumber : ClF K C_NoNumber bm_LookupError "LookupError.__new__") (ci_NoNumber : PySem.W.findIn K (.ref C_NoNumber) "__init__" = some (some (.ref fI_NoNumber))) (ct_NoNumber : PySem.W.typeIn K (.ref fI_NoNumber) = some (.type "function")) (ce_NoNumber : ∃ fd, Fun K "__init__" "NoNumber.__init__" s_init_NoNumber fI_NoNumber fd) (ca_NoNumber_at : PySem.W.findIn K (.ref C_NoNumber) "at" = some none) (ca_NoNumber_bar : PySem.W.findIn K (.ref C_NoNumber) "bar" = some none) (ca_NoNumber_many : PySem.W.findIn K (.ref C_NoNumber) "many" = some none) (ca_NoNumber_number : PySem.W.findIn K (.ref C_NoNumber) "number" = some none) (ca_NoNumber_obstacle : PySem.W.findIn K (.ref C_NoNumber) "obstacle" = some none) (ca_NoNumber_person : PySem.W.findIn K (.ref C_NoNumber) "person" = some none) (ca_NoNumber_size : PySem.W.findIn K (.ref C_NoNumber) "size" = some none) (cf_NoPerson : ClF K C_NoPerson bm_LookupError "LookupError.__new__") (ci_NoPerson : PySem.W.findIn K (.ref C_NoPerson) "__init__" = some (some (.ref fI_NoPerson))) (ct_NoPerson : PySem.W.typeIn K (.ref fI_NoPerson) = some (.type "function")) (ce_NoPerson : ∃ fd, Fun K "__init__" "NoPerson.__init__" s_init_NoPerson fI_NoPerson fd) (ca_NoPerson_at : PySem.W.findIn K (.ref C_NoPerson) "at" = some none) (ca_NoPerson_bar : PySem.W.findIn K (.ref C_NoPerson) "bar" = some none) (ca_NoPerson_many : PySem.W.findIn K (.ref C_NoPerson) "many" = some none) (ca_NoPerson_number : PySem.W.findIn K (.ref C_NoPerson) "number" = some none) (ca_NoPerson_obstacle : PySem.W.findIn K (.ref C_NoPerson) "obstacle" = some none) (ca_NoPerson_person : PySem.W.findIn K (.ref C_NoPerson) "person" = some none) (ca_NoPerson_size : PySem.W.findIn K (.ref C_NoPerson) "size" = some none) (cf_NoRoot : ClF K C_NoRoot bm_ValueError "ValueError.__new__") (ci_NoRoot : PySem.W.findIn K (.ref C_NoRoot) "__init__" = some (some (.ref fI_NoRoot))) (ct_NoRoot : PySem.W.typeIn K (.ref fI_NoRoot) = some (.type "function")) (ce_NoRoot : ∃ fd, Fun K "__init__" "NoRoot.__init__" s_init_NoRoot fI_NoRoot fd) (ca_NoRoot_at : PySem.W.findIn K (.ref C_NoRoot) "at" = some none) (ca_NoRoot_bar : PySem.W.findIn K (.ref C_NoRoot) "bar" = some none) (ca_NoRoot_many : PySem.W.findIn K (.ref C_NoRoot) "many" = some none) (ca_NoRoot_number : PySem.W.findIn K (.ref C_NoRoot) "number" = some none) (ca_NoRoot_obstacle : PySem.W.findIn K (.ref C_NoRoot) "obstacle" = some none) (ca_NoRoot_person : PySem.W.findIn K (.ref C_NoRoot) "person" = some none) (ca_NoRoot_size : PySem.W.findIn K (.ref C_NoRoot) "size" = some none) (cf_NotKin : ClF K C_NotKin bm_ValueError "ValueError.__new__") (ci_NotKin : PySem.W.findIn K (.ref C_NotKin) "__init__" = some (some (.ref fI_NotKin))) (ct_NotKin : PySem.W.typeIn K (.ref fI_NotKin) = some (.type "function")) (ce_NotKin : ∃ fd, Fun K "__init__" "NotKin.__init__" s_init_NotKin fI_NotKin fd) (ca_NotKin_at : PySem.W.findIn K (.ref C_NotKin) "at" = some none) (ca_NotKin_bar : PySem.W.findIn K (.ref C_NotKin) "bar" = some none) (ca_NotKin_many : PySem.W.findIn K (.ref C_NotKin) "many" = some none) (ca_NotKin_number : PySem.W.findIn K (.ref C_NotKin) "number" = some none) (ca_NotKin_obstacle : PySem.W.findIn K (.ref C_NotKin) "obstacle" = some none) (ca_NotKin_person : PySem.W.findIn K (.ref C_NotKin) "person" = some none) (ca_NotKin_size : PySem.W.findIn K (.ref C_NotKin) "size" = some none) (cf_NotPast : ClF K C_NotPast bm_ValueError "ValueError.__new__") (ci_NotPast : PySem.W.findIn K (.ref C_NotPast) "__init__" = some (some (.ref fI_NotPast))) (ct_NotPast : PySem.W.typeIn K (.ref fI_NotPast) = some (.type "function")) (ce_NotPast : ∃ fd, Fun K "__init__" "NotPast.__init__" s_init_NotPast fI_NotPast fd) (ca_NotPast_at : PySem.W.findIn K (.ref C_NotPast) "at" = some none) (ca_NotPast_bar : PySem.W.findIn K (.ref C_NotPast) "bar" = some none) (ca_NotPast_many : PySem.W.findIn K (.ref C_NotPast) "many" = some none) (ca_NotPast_number : PySem.W.findIn K (.ref C_NotPast) "number" = some none) (ca_NotPast_obstacle : PySem.W.findIn K (.ref C_NotPast) "obstacle" = some none) (ca_NotPast_person : PySem.W.findIn K (.ref C_NotPast) "person" = some none) (ca_NotPast_size : PySem.W.findIn K (.ref C_NotPast) "size" = some none) (cf_OtherSize : ClF K C_OtherSize bm_ValueError "ValueError.__new__") (ci_OtherSize : PySem.W.findIn K (.ref C_OtherSize) "__init__" = some (some (.ref fI_OtherSize))) (ct_OtherSize : PySem.W.typeIn K (.ref fI_OtherSize) = some (.type "function")) (ce_OtherSize : ∃ fd, Fun K "__init__" "OtherSize.__init__" s_init_OtherSize fI_OtherSize fd) (ca_OtherSize_at : PySem.W.findIn K (.ref C_OtherSize) "at" = some none) (ca_OtherSize_bar : PySem.W.findIn K (.ref C_OtherSize) "bar" = some none) (ca_OtherSize_many : PySem.W.findIn K (.ref C_OtherSize) "many" = some none) (ca_OtherSize_number : PySem.W.findIn K (.ref C_OtherSize) "number" = some none) (ca_OtherSize_obstacle : PySem.W.findIn K (.ref C_OtherSize) "obstacle" = some none) (ca_OtherSize_person : PySem.W.findIn K (.ref C_OtherSize) "person" = some none) (ca_OtherSize_size : PySem.W.findIn K (.ref C_OtherSize) "size" = some none) (cf_TooMany : ClF K C_TooMany bm_OverflowError "OverflowError.__new__") (ci_TooMany : PySem.W.findIn K (.ref C_TooMany) "__init__" = some (some (.ref fI_TooMany))) (ct_TooMany : PySem.W.typeIn K (.ref fI_TooMany) = some (.type "function")) (ce_TooMany : ∃ fd, Fun K "__init__" "TooMany.__init__" s_init_TooMany fI_TooMany fd) (ca_TooMany_at : PySem.W.findIn K (.ref C_TooMany) "at" = some none) (ca_TooMany_bar : PySem.W.findIn K (.ref C_TooMany) "bar" = some none) (ca_TooMany_many : PySem.W.findIn K (.ref C_TooMany) "many" = some none) (ca_TooMany_number : PySem.W.findIn K (.ref C_TooMany) "number" = some none) (ca_TooMany_obstacle : PySem.W.findIn K (.ref C_TooMany) "obstacle" = some none) (ca_TooMany_person : PySem.W.findIn K (.ref C_TooMany) "person" = some none) (ca_TooMany_size : PySem.W.findIn K (.ref C_TooMany) "size" = some none) (cf_Unreachable : ClF K C_Unreachable bm_RuntimeError "RuntimeError.__new__") (ci_Unreachable : PySem.W.findIn K (.ref C_Unreachable) "__init__" = some (some (.ref fI_Unreachable))) (ct_Unreachable : PySem.W.typeIn K (.ref fI_Unreachable) = some (.type "function")) (ce_Unreachable : ∃ fd, Fun K "__init__" "Unreachable.__init__" s_init_Unreachable fI_Unreachable fd) (ca_Unreachable_at : PySem.W.findIn K (.ref C_Unreachable) "at" = some none) (ca_Unreachable_bar : PySem.W.findIn K (.ref C_Unreachable) "bar" = some none) (ca_Unreachable_many : PySem.W.findIn K (.ref C_Unreachable) "many" = some none) (ca_Unreachable_number : PySem.W.findIn K (.ref C_Unreachable) "number" = some none) (ca_Unreachable_obstacle : PySem.W.findIn K (.ref C_Unreachable) "obstacle" = some none) (ca_Unreachable_person : PySem.W.findIn K (.ref C_Unreachable) "person" = some none) (ca_Unreachable_size : PySem.W.findIn K (.ref C_Unreachable) "size" = some none) (cz_IndexError : PySem.W.nsIn K mainGlobals "IndexError" = some none) (cz_KeyError : PySem.W.nsIn K mainGlobals "KeyError" = some none) (cz_LookupError : PySem.W.nsIn K mainGlobals "LookupError" = some none) (cz_OverflowError : PySem.W.nsIn K mainGlobals "OverflowError" = some none) (cz_RuntimeError : PySem.W.nsIn K mainGlobals "RuntimeError" = some none) (cz_ValueError : PySem.W.nsIn K mainGlobals "ValueError" = some none) (cv_LookupError : PySem.W.findCls K (.type "LookupError") (.type "type") "__init__" = some (.val (.builtin "LookupError.__init__"))) (cv_OverflowError : PySem.W.findCls K (.type "OverflowError") (.type "type") "__init__" = some (.val (.builtin "OverflowError.__init__"))) (cv_RuntimeError : PySem.W.findCls K (.type "RuntimeError") (.type "type") "__init__" = some (.val (.builtin "RuntimeError.__init__"))) (cv_ValueError : PySem.W.findCls K (.type "ValueError") (.type "type") "__init__" = some (.val (.builtin "ValueError.__init__"))) (i_ValueError : AllL (fun n C => PySem.W.kitOne K (.ref C) (.type "ValueError") = some (subX n "ValueError")) [("BadDeed", C_BadDeed), ("BadLine", C_BadLine), ("BadText", C_BadText), ("Denied", C_Denied), ("IsRoot", C_IsRoot), ("MissingRoot", C_MissingRoot), ("NoCommon", C_NoCommon), ("NoDeed", C_NoDeed), ("NoNumber", C_NoNumber), ("NoPerson", C_NoPerson), ("NoRoot", C_NoRoot), ("NotKin", C_NotKin), ("NotPast", C_NotPast), ("OtherSize", C_OtherSize), ("TooMany", C_TooMany), ("Unreachable", C_Unreachable)]) (i_LookupError : AllL (fun n C => PySem.W.kitOne K (.ref C) (.type "LookupError") = some (subX n "LookupError")) [("BadDeed", C_BadDeed), ("BadLine", C_BadLine), ("BadText", C_BadText), ("Denied", C_Denied), ("IsRoot", C_IsRoot), ("MissingRoot", C_MissingRoot), ("NoCommon", C_NoCommon), ("NoDeed", C_NoDeed), ("NoNumber", C_NoNumber), ("NoPerson", C_NoPerson), ("NoRoot", C_NoRoot), ("NotKin", C_NotKin), ("NotPast", C_NotPast), ("OtherSize", C_OtherSize), ("TooMany", C_TooMany), ("Unreachable", C_Unreachable)]) (i_OverflowError : AllL (fun n C => PySem.W.kitOne K (.ref C) (.type "OverflowError") = some (subX n "OverflowError")) [("BadDeed", C_BadDeed), ("BadLine", C_BadLine), ("BadText", C_BadText), ("Denied", C_Denied), ("IsRoot", C_IsRoot), ("MissingRoot", C_MissingRoot), ("NoCommon", C_NoCommon), ("NoDeed", C_NoDeed), ("NoNumber", C_NoNumber), ("NoPerson", C_NoPerson), ("NoRoot", C_NoRoot), ("NotKin", C_NotKin), ("NotPast", C_NotPast), ("OtherSize", C_OtherSize), ("TooMany", C_TooMany), ("Unreachable", C_Unreachable)]) (i_RuntimeError : AllL (fun n C => PySem.W.kitOne K (.ref C) (.type "RuntimeError") = some (subX n "RuntimeError")) [("BadDeed", C_BadDeed), ("BadLine", C_BadLine), ("BadText", C_BadText), ("Denied", C_Denied), ("IsRoot", C_IsRoot), ("MissingRoot", C_MissingRoot), ("NoCommon", C_NoCommon), ("NoDeed", C_NoDeed), ("NoNumber", C_NoNumber), ("NoPerson", C_NoPerson), ("NoRoot", C_NoRoot), ("NotKin", C_NotKin), ("NotPast", C_NotPast), ("OtherSize", C_OtherSize), ("TooMany", C_TooMany), ("Unreachable", C_Unreachable)]) (i_NoDeed : AllL (fun n C => PySem.W.kitOne K (.ref C) (.ref C_NoDeed) = some (subX n "NoDeed")) [("BadDeed", C_BadDeed), ("BadLine", C_BadLine), ("BadText", C_BadText), ("Denied", C_Denied), ("IsRoot", C_IsRoot), ("MissingRoot", C_MissingRoot), ("NoCommon", C_NoCommon), ("NoDeed", C_NoDeed), ("NoNumber", C_NoNumber), ("NoPerson", C_NoPerson), ("NoRoot", C_NoRoot), ("NotKin", C_NotKin), ("NotPast", C_NotPast), ("OtherSize", C_OtherSize), ("TooMany", C_TooMany), ("Unreachable", C_Unreachable)]) (i_NoNumber : AllL (fun n C => PySem.W.kitOne K (.ref C) (.ref C_NoNumber) = some (subX n "NoNumber")) [("BadDeed", C_BadDeed), ("BadLine", C_BadLine), ("BadText", C_BadText), ("Denied", C_Denied), ("IsRoot", C_IsRoot), ("MissingRoot", C_MissingRoot), ("NoCommon", C_NoCommon), ("NoDeed", C_NoDeed), ("NoNumber", C_NoNumber), ("NoPerson", C_NoPerson), ("NoRoot", C_NoRoot), ("NotKin", C_NotKin), ("NotPast", C_NotPast), ("OtherSize", C_OtherSize), ("TooMany", C_TooMany), ("Unreachable", C_Unreachable)]) (i_NoPerson : AllL (fun n C => PySem.W.kitOne K (.ref C) (.ref C_NoPerson) = some (subX n "NoPerson")) [("BadDeed", C_BadDeed), ("BadLine", C_BadLine), ("BadText", C_BadText), ("Denied", C_Denied), ("IsRoot", C_IsRoot), ("MissingRoot", C_MissingRoot), ("NoCommon", C_NoCommon), ("NoDeed", C_NoDeed), ("NoNumber", C_NoNumber), ("NoPerson", C_NoPerson), ("NoRoot", C_NoRoot), ("NotKin", C_NotKin), ("NotPast", C_NotPast), ("OtherSize", C_OtherSize), ("TooMany", C_TooMany), ("Unreachable", C_Unreachable)]) (i_NoRoot : AllL (fun n C => PySem.W.kitOne K (.ref C) (.ref C_NoRoot) = some (subX n "NoRoot")) [("BadDeed", C_BadDeed), ("BadLine", C_BadLine), ("BadText", C_BadText), ("Denied", C_Denied), ("IsRoot", C_IsRoot), ("MissingRoot", C_MissingRoot), ("NoCommon", C_NoCommon), ("NoDeed", C_NoDeed), ("NoNumber", C_NoNumber), ("NoPerson", C_NoPerson), ("NoRoot", C_NoRoot), ("NotKin", C_NotKin), ("NotPast", C_NotPast), ("OtherSize", C_OtherSize), ("TooMany", C_TooMany), ("Unreachable", C_Unreachable)]) (i_OtherSize : AllL (fun n C => PySem.W.kitOne K (.ref C) (.ref C_OtherSize) = some (subX n "OtherSize")) [("BadDeed", C_BadDeed), ("BadLine", C_BadLine), ("BadText", C_BadText), ("Denied", C_Denied), ("IsRoot", C_IsRoot), ("MissingRoot", C_MissingRoot), ("NoCommon", C_NoCommon), ("NoDeed", C_NoDeed), ("NoNumber", C_NoNumber), ("NoPerson", C_NoPerson), ("NoRoot", C_NoRoot), ("NotKin", C_NotKin), ("NotPast", C_NotPast), ("OtherSize", C_OtherSize), ("TooMany", C_TooMany), ("Unreachable", C_Unreachable)]) (i_NotKin : AllL (fun n C => PySem.W.kitOne K (.ref C) (.ref C_NotKin) = some (subX n "NotKin")) [("BadDeed", C_BadDeed), ("BadLine", C_BadLine), ("BadText", C_BadText), ("Denied", C_Denied), ("IsRoot", C_IsRoot), ("MissingRoot", C_MissingRoot), ("NoCommon", C_NoCommon), ("NoDeed", C_NoDeed), ("NoNumber", C_NoNumber), ("NoPerson", C_NoPerson), ("NoRoot", C_NoRoot), ("NotKin", C_NotKin), ("NotPast", C_NotPast), ("OtherSize", C_OtherSize), ("TooMany", C_TooMany), ("Unreachable", C_Unreachable)]) (i_MissingRoot : AllL (fun n C => PySem.W.kitOne K (.ref C) (.ref C_MissingRoot) = some (subX n "MissingRoot")) [("BadDeed", C_BadDeed), ("BadLine", C_BadLine), ("BadText", C_BadText), ("Denied", C_Denied), ("IsRoot", C_IsRoot), ("MissingRoot", C_MissingRoot), ("NoCommon", C_NoCommon), ("NoDeed", C_NoDeed), ("NoNumber", C_NoNumber), ("NoPerson", C_NoPerson), ("NoRoot", C_NoRoot), ("NotKin", C_NotKin), ("NotPast", C_NotPast), ("OtherSize", C_OtherSize), ("TooMany", C_TooMany), ("Unreachable", C_Unreachable)]) (i_BadText : AllL (fun n C => PySem.W.kitOne K (.ref C) (.ref C_BadText) = some (subX n "BadText")) [("BadDeed", C_BadDeed), ("BadLine", C_BadLine), ("BadText", C_BadText), ("Denied", C_Denied), ("IsRoot", C_IsRoot), ("MissingRoot", C_MissingRoot), ("NoCommon", C_NoCommon), ("NoDeed", C_NoDeed), ("NoNumber", C_NoNumber), ("NoPerson", C_NoPerson), ("NoRoot", C_NoRoot), ("NotKin", C_NotKin), ("NotPast", C_NotPast), ("OtherSize", C_OtherSize), ("TooMany", C_TooMany), ("Unreachable", C_Unreachable)]) (i_BadDeed : AllL (fun n C => PySem.W.kitOne K (.ref C) (.ref C_BadDeed) = some (subX n "BadDeed")) [("BadDeed", C_BadDeed), ("BadLine", C_BadLine), ("BadText", C_BadText), ("Denied", C_Denied), ("IsRoot", C_IsRoot), ("MissingRoot", C_MissingRoot), ("NoCommon", C_NoCommon), ("NoDeed", C_NoDeed), ("NoNumber", C_NoNumber), ("NoPerson", C_NoPerson), ("NoRoot", C_NoRoot), ("NotKin", C_NotKin), ("NotPast", C_NotPast), ("OtherSize", C_OtherSize), ("TooMany", C_TooMany), ("Unreachable", C_Unreachable)]) (i_NotPast : AllL (fun n C => PySem.W.kitOne K (.ref C) (.ref C_NotPast) = some (subX n "NotPast")) [("BadDeed", C_BadDeed), ("BadLine", C_BadLine), ("BadText", C_BadText), ("Denied", C_Denied), ("IsRoot", C_IsRoot), ("MissingRoot", C_MissingRoot), ("NoCommon", C_NoCommon), ("NoDeed", C_NoDeed), ("NoNumber", C_NoNumber), ("NoPerson", C_NoPerson), ("NoRoot", C_NoRoot), ("NotKin", C_NotKin), ("NotPast", C_NotPast), ("OtherSize", C_OtherSize), ("TooMany", C_TooMany), ("Unreachable", C_Unreachable)]) (i_NoCommon : AllL (fun n C => PySem.W.kitOne K (.ref C) (.ref C_NoCommon) = some (subX n "NoCommon")) [("BadDeed", C_BadDeed), ("BadLine", C_BadLine), ("BadText", C_BadText), ("Denied", C_Denied), ("IsRoot", C_IsRoot), ("MissingRoot", C_MissingRoot), ("NoCommon", C_NoCommon), ("NoDeed", C_NoDeed), ("NoNumber", C_NoNumber), ("NoPerson", C_NoPerson), ("NoRoot", C_NoRoot), ("NotKin", C_NotKin), ("NotPast", C_NotPast), ("OtherSize", C_OtherSize), ("TooMany", C_TooMany), ("Unreachable", C_Unreachable)]) (i_Unreachable : AllL (fun n C => PySem.W.kitOne K (.ref C) (.ref C_Unreachable) = some (subX n "Unreachable")) [("BadDeed", C_BadDeed), ("BadLine", C_BadLine), ("BadText", C_BadText), ("Denied", C_Denied), ("IsRoot", C_IsRoot), ("MissingRoot", C_MissingRoot), ("NoCommon", C_NoCommon), ("NoDeed", C_NoDeed), ("NoNumber", C_NoNumber), ("NoPerson", C_NoPerson), ("NoRoot", C_NoRoot), ("NotKin", C_NotKin), ("NotPast", C_NotPast), ("OtherSize", C_OtherSize), ("TooMany", C_TooMany), ("Unreachable", C_Unreachable)]) (i_BadLine : AllL (fun n C => PySem.W.kitOne K (.ref C) (.ref C_BadLine) = some (subX n "BadLine")) [("BadDeed", C_BadDeed), ("BadLine", C_BadLine), ("BadText", C_BadText), ("Denied", C_Denied), ("IsRoot", C_IsRoot), ("MissingRoot", C_MissingRoot), ("NoCommon", C_NoCommon), ("NoDeed", C_NoDeed), ("NoNumber", C_NoNumber), ("NoPerson", C_NoPerson), ("NoRoot", C_NoRoot), ("NotKin", C_NotKin), ("NotPast", C_NotPast), ("OtherSize", C_OtherSize), ("TooMany", C_TooMany), ("Unreachable", C_Unreachable)]) (i_TooMany : AllL (fun n C => PySem.W.kitOne K (.ref C) (.ref C_TooMany) = some (subX n "TooMany")) [("BadDeed", C_BadDeed), ("BadLine", C_BadLine), ("BadText", C_BadText), ("Denied", C_Denied), ("IsRoot", C_IsRoot), ("MissingRoot", C_MissingRoot), ("NoCommon", C_NoCommon), ("NoDeed", C_NoDeed), ("NoNumber", C_NoNumber), ("NoPerson", C_NoPerson), ("NoRoot", C_NoRoot), ("NotKin", C_NotKin), ("NotPast", C_NotPast), ("OtherSize", C_OtherSize), ("TooMany", C_TooMany), ("Unreachable", C_Unreachable)]) (i_IsRoot : AllL (fun n C => PySem.W.kitOne K (.ref C) (.ref C_IsRoot) = some (subX n "IsRoot")) [("BadDeed", C_BadDeed), ("BadLine", C_BadLine), ("BadText", C_BadText), ("Denied", C_Denied), ("IsRoot", C_IsRoot), ("MissingRoot", C_MissingRoot), ("NoCommon", C_NoCommon), ("NoDeed", C_NoDeed), ("NoNumber", C_NoNumber), ("NoPerson", C_NoPerson), ("NoRoot", C_NoRoot), ("NotKin", C_NotKin), ("NotPast", C_NotPast), ("OtherSize", C_OtherSize), ("TooMany", C_TooMany), ("Unreachable", C_Unreachable)]) (i_Denied : AllL (fun n C => PySem.W.kitOne K (.ref C) (.ref C_Denied) = some (subX n "Denied")) [("BadDeed", C_BadDeed), ("BadLine", C_BadLine), ("BadText", C_BadText), ("Denied", C_Denied), ("IsRoot", C_IsRoot), ("MissingRoot", C_MissingRoot), ("NoCommon", C_NoCommon), ("NoDeed", C_NoDeed), ("NoNumber", C_NoNumber), ("NoPerson", C_NoPerson), ("NoRoot", C_NoRoot), ("NotKin", C_NotKin), ("NotPast", C_NotPast), ("OtherSize", C_OtherSize), ("TooMany", C_TooMany), ("Unreachable", C_Unreachable)]) (i_KeyError_IndexError : AllL (fun n C => PySem.W.kitAny K (.ref C) [.type "KeyError", .type "IndexError"] = some ((["KeyError", "IndexError"] : List Str).any (subX n))) [("BadDeed", C_BadDeed), ("BadLine", C_BadLine), ("BadText", C_BadText), ("Denied", C_Denied), ("IsRoot", C_IsRoot), ("MissingRoot", C_MissingRoot), ("NoCommon", C_NoCommon), ("NoDeed", C_NoDeed), ("NoNumber", C_NoNumber), ("NoPerson", C_NoPerson), ("NoRoot", C_NoRoot), ("NotKin", C_NotKin), ("NotPast", C_NotPast), ("OtherSize", C_OtherSize), ("TooMany", C_TooMany), ("Unreachable", C_Unreachable)]) :
    ∃ fd : FuncData, (∀ (s : Shared) (v : Value), BindsTo s fd ⟨[v], []⟩ [("_law_script", v)]) ∧ ∀ base : Heap, K.In base → base.Ns mainGlobals mg → FnOk l.prog w K mg base CX0 6 fa fd ["_law_script"] (spLaw K) := by
  have B := Z.bi X G
  obtain ⟨f1, e1, F1, g1⟩ := d1.fn X G
  obtain ⟨f19, e19, F19, g19⟩ := d19.fn X G
  obtain ⟨f20, e20, F20, g20⟩ := d20.fn X G
  obtain ⟨f21, e21, F21, g21⟩ := d21.fn X G
  obtain ⟨f22, e22, F22, g22⟩ := d22.fn X G
  obtain ⟨f23, e23, F23, g23⟩ := d23.fn X G
  obtain ⟨f24, e24, F24, g24⟩ := d24.fn X G
  have g_BadDeed := PySem.W.mg_of X G cg_BadDeed
  have g_BadLine := PySem.W.mg_of X G cg_BadLine
  have g_BadText := PySem.W.mg_of X G cg_BadText
  have g_Denied := PySem.W.mg_of X G cg_Denied
  have g_IsRoot := PySem.W.mg_of X G cg_IsRoot
  have g_MissingRoot := PySem.W.mg_of X G cg_MissingRoot
  have g_NoCommon := PySem.W.mg_of X G cg_NoCommon
  have g_NoDeed := PySem.W.mg_of X G cg_NoDeed
  have g_NoNumber := PySem.W.mg_of X G cg_NoNumber
  have g_NoPerson := PySem.W.mg_of X G cg_NoPerson
  have g_NoRoot := PySem.W.mg_of X G cg_NoRoot
  have g_NotKin := PySem.W.mg_of X G cg_NotKin
  have g_NotPast := PySem.W.mg_of X G cg_NotPast
  have g_OtherSize := PySem.W.mg_of X G cg_OtherSize
  have g_TooMany := PySem.W.mg_of X G cg_TooMany
  have g_Unreachable := PySem.W.mg_of X G cg_Unreachable
  have z_IndexError := PySem.W.mg_none_of X G cz_IndexError
  have z_KeyError := PySem.W.mg_none_of X G cz_KeyError
  have z_LookupError := PySem.W.mg_none_of X G cz_LookupError
  have z_OverflowError := PySem.W.mg_none_of X G cz_OverflowError
  have z_RuntimeError := PySem.W.mg_none_of X G cz_RuntimeError
  have z_ValueError := PySem.W.mg_none_of X G cz_ValueError
  obtain ⟨ed_BadDeed, Fi_BadDeed⟩ := ce_BadDeed
  obtain ⟨ed_BadLine, Fi_BadLine⟩ := ce_BadLine
  obtain ⟨ed_BadText, Fi_BadText⟩ := ce_BadText
  obtain ⟨ed_Denied, Fi_Denied⟩ := ce_Denied
  obtain ⟨ed_IsRoot, Fi_IsRoot⟩ := ce_IsRoot
  obtain ⟨ed_MissingRoot, Fi_MissingRoot⟩ := ce_MissingRoot
  obtain ⟨ed_NoCommon, Fi_NoCommon⟩ := ce_NoCommon
  obtain ⟨ed_NoDeed, Fi_NoDeed⟩ := ce_NoDeed
  obtain ⟨ed_NoNumber, Fi_NoNumber⟩ := ce_NoNumber
  obtain ⟨ed_NoPerson, Fi_NoPerson⟩ := ce_NoPerson
  obtain ⟨ed_NoRoot, Fi_NoRoot⟩ := ce_NoRoot
  obtain ⟨ed_NotKin, Fi_NotKin⟩ := ce_NotKin
  obtain ⟨ed_NotPast, Fi_NotPast⟩ := ce_NotPast
  obtain ⟨ed_OtherSize, Fi_OtherSize⟩ := ce_OtherSize
  obtain ⟨ed_TooMany, Fi_TooMany⟩ := ce_TooMany
  obtain ⟨ed_Unreachable, Fi_Unreachable⟩ := ce_Unreachable
  have xcs : AllL (fun _ C => ExcC K C) [("BadDeed", C_BadDeed), ("BadLine", C_BadLine), ("BadText", C_BadText), ("Denied", C_Denied), ("IsRoot", C_IsRoot), ("MissingRoot", C_MissingRoot), ("NoCommon", C_NoCommon), ("NoDeed", C_NoDeed), ("NoNumber", C_NoNumber), ("NoPerson", C_NoPerson), ("NoRoot", C_NoRoot), ("NotKin", C_NotKin), ("NotPast", C_NotPast), ("OtherSize", C_OtherSize), ("TooMany", C_TooMany), ("Unreachable", C_Unreachable)] := ⟨cf_BadDeed.xc, cf_BadLine.xc, cf_BadText.xc, cf_Denied.xc, cf_IsRoot.xc, cf_MissingRoot.xc, cf_NoCommon.xc, cf_NoDeed.xc, cf_NoNumber.xc, cf_NoPerson.xc, cf_NoRoot.xc, cf_NotKin.xc, cf_NotPast.xc, cf_OtherSize.xc, cf_TooMany.xc, cf_Unreachable.xc, trivial⟩
  have at_at : AllL (fun _ C => XfC K C ∧ PySem.W.findIn K (.ref C) "at" = some none) [("BadDeed", C_BadDeed), ("BadLine", C_BadLine), ("BadText", C_BadText), ("Denied", C_Denied), ("IsRoot", C_IsRoot), ("MissingRoot", C_MissingRoot), ("NoCommon", C_NoCommon), ("NoDeed", C_NoDeed), ("NoNumber", C_NoNumber), ("NoPerson", C_NoPerson), ("NoRoot", C_NoRoot), ("NotKin", C_NotKin), ("NotPast", C_NotPast), ("OtherSize", C_OtherSize), ("TooMany", C_TooMany), ("Unreachable", C_Unreachable)] := ⟨⟨cf_BadDeed.xf, ca_BadDeed_at⟩, ⟨cf_BadLine.xf, ca_BadLine_at⟩, ⟨cf_BadText.xf, ca_BadText_at⟩, ⟨cf_Denied.xf, ca_Denied_at⟩, ⟨cf_IsRoot.xf, ca_IsRoot_at⟩, ⟨cf_MissingRoot.xf, ca_MissingRoot_at⟩, ⟨cf_NoCommon.xf, ca_NoCommon_at⟩, ⟨cf_NoDeed.xf, ca_NoDeed_at⟩, ⟨cf_NoNumber.xf, ca_NoNumber_at⟩, ⟨cf_NoPerson.xf, ca_NoPerson_at⟩, ⟨cf_NoRoot.xf, ca_NoRoot_at⟩, ⟨cf_NotKin.xf, ca_NotKin_at⟩, ⟨cf_NotPast.xf, ca_NotPast_at⟩, ⟨cf_OtherSize.xf, ca_OtherSize_at⟩, ⟨cf_TooMany.xf, ca_TooMany_at⟩, ⟨cf_Unreachable.xf, ca_Unreachable_at⟩, trivial⟩
  have at_bar : AllL (fun _ C => XfC K C ∧ PySem.W.findIn K (.ref C) "bar" = some none) [("BadDeed", C_BadDeed), ("BadLine", C_BadLine), ("BadText", C_BadText), ("Denied", C_Denied), ("IsRoot", C_IsRoot), ("MissingRoot", C_MissingRoot), ("NoCommon", C_NoCommon), ("NoDeed", C_NoDeed), ("NoNumber", C_NoNumber), ("NoPerson", C_NoPerson), ("NoRoot", C_NoRoot), ("NotKin", C_NotKin), ("NotPast", C_NotPast), ("OtherSize", C_OtherSize), ("TooMany", C_TooMany), ("Unreachable", C_Unreachable)] := ⟨⟨cf_BadDeed.xf, ca_BadDeed_bar⟩, ⟨cf_BadLine.xf, ca_BadLine_bar⟩, ⟨cf_BadText.xf, ca_BadText_bar⟩, ⟨cf_Denied.xf, ca_Denied_bar⟩, ⟨cf_IsRoot.xf, ca_IsRoot_bar⟩, ⟨cf_MissingRoot.xf, ca_MissingRoot_bar⟩, ⟨cf_NoCommon.xf, ca_NoCommon_bar⟩, ⟨cf_NoDeed.xf, ca_NoDeed_bar⟩, ⟨cf_NoNumber.xf, ca_NoNumber_bar⟩, ⟨cf_NoPerson.xf, ca_NoPerson_bar⟩, ⟨cf_NoRoot.xf, ca_NoRoot_bar⟩, ⟨cf_NotKin.xf, ca_NotKin_bar⟩, ⟨cf_NotPast.xf, ca_NotPast_bar⟩, ⟨cf_OtherSize.xf, ca_OtherSize_bar⟩, ⟨cf_TooMany.xf, ca_TooMany_bar⟩, ⟨cf_Unreachable.xf, ca_Unreachable_bar⟩, trivial⟩
  have at_many : AllL (fun _ C => XfC K C ∧ PySem.W.findIn K (.ref C) "many" = some none) [("BadDeed", C_BadDeed), ("BadLine", C_BadLine), ("BadText", C_BadText), ("Denied", C_Denied), ("IsRoot", C_IsRoot), ("MissingRoot", C_MissingRoot), ("NoCommon", C_NoCommon), ("NoDeed", C_NoDeed), ("NoNumber", C_NoNumber), ("NoPerson", C_NoPerson), ("NoRoot", C_NoRoot), ("NotKin", C_NotKin), ("NotPast", C_NotPast), ("OtherSize", C_OtherSize), ("TooMany", C_TooMany), ("Unreachable", C_Unreachable)] := ⟨⟨cf_BadDeed.xf, ca_BadDeed_many⟩, ⟨cf_BadLine.xf, ca_BadLine_many⟩, ⟨cf_BadText.xf, ca_BadText_many⟩, ⟨cf_Denied.xf, ca_Denied_many⟩, ⟨cf_IsRoot.xf, ca_IsRoot_many⟩, ⟨cf_MissingRoot.xf, ca_MissingRoot_many⟩, ⟨cf_NoCommon.xf, ca_NoCommon_many⟩, ⟨cf_NoDeed.xf, ca_NoDeed_many⟩, ⟨cf_NoNumber.xf, ca_NoNumber_many⟩, ⟨cf_NoPerson.xf, ca_NoPerson_many⟩, ⟨cf_NoRoot.xf, ca_NoRoot_many⟩, ⟨cf_NotKin.xf, ca_NotKin_many⟩, ⟨cf_NotPast.xf, ca_NotPast_many⟩, ⟨cf_OtherSize.xf, ca_OtherSize_many⟩, ⟨cf_TooMany.xf, ca_TooMany_many⟩, ⟨cf_Unreachable.xf, ca_Unreachable_many⟩, trivial⟩
  have at_number : AllL (fun _ C => XfC K C ∧ PySem.W.findIn K (.ref C) "number" = some none) [("BadDeed", C_BadDeed), ("BadLine", C_BadLine), ("BadText", C_BadText), ("Denied", C_Denied), ("IsRoot", C_IsRoot), ("MissingRoot", C_MissingRoot), ("NoCommon", C_NoCommon), ("NoDeed", C_NoDeed), ("NoNumber", C_NoNumber), ("NoPerson", C_NoPerson), ("NoRoot", C_NoRoot), ("NotKin", C_NotKin), ("NotPast", C_NotPast), ("OtherSize", C_OtherSize), ("TooMany", C_TooMany), ("Unreachable", C_Unreachable)] := ⟨⟨cf_BadDeed.xf, ca_BadDeed_number⟩, ⟨cf_BadLine.xf, ca_BadLine_number⟩, ⟨cf_BadText.xf, ca_BadText_number⟩, ⟨cf_Denied.xf, ca_Denied_number⟩, ⟨cf_IsRoot.xf, ca_IsRoot_number⟩, ⟨cf_MissingRoot.xf, ca_MissingRoot_number⟩, ⟨cf_NoCommon.xf, ca_NoCommon_number⟩, ⟨cf_NoDeed.xf, ca_NoDeed_number⟩, ⟨cf_NoNumber.xf, ca_NoNumber_number⟩, ⟨cf_NoPerson.xf, ca_NoPerson_number⟩, ⟨cf_NoRoot.xf, ca_NoRoot_number⟩, ⟨cf_NotKin.xf, ca_NotKin_number⟩, ⟨cf_NotPast.xf, ca_NotPast_number⟩, ⟨cf_OtherSize.xf, ca_OtherSize_number⟩, ⟨cf_TooMany.xf, ca_TooMany_number⟩, ⟨cf_Unreachable.xf, ca_Unreachable_number⟩, trivial⟩
  have at_obstacle : AllL (fun _ C => XfC K C ∧ PySem.W.findIn K (.ref C) "obstacle" = some none) [("BadDeed", C_BadDeed), ("BadLine", C_BadLine), ("BadText", C_BadText), ("Denied", C_Denied), ("IsRoot", C_IsRoot), ("MissingRoot", C_MissingRoot), ("NoCommon", C_NoCommon), ("NoDeed", C_NoDeed), ("NoNumber", C_NoNumber), ("NoPerson", C_NoPerson), ("NoRoot", C_NoRoot), ("NotKin", C_NotKin), ("NotPast", C_NotPast), ("OtherSize", C_OtherSize), ("TooMany", C_TooMany), ("Unreachable", C_Unreachable)] := ⟨⟨cf_BadDeed.xf, ca_BadDeed_obstacle⟩, ⟨cf_BadLine.xf, ca_BadLine_obstacle⟩, ⟨cf_BadText.xf, ca_BadText_obstacle⟩, ⟨cf_Denied.xf, ca_Denied_obstacle⟩, ⟨cf_IsRoot.xf, ca_IsRoot_obstacle⟩, ⟨cf_MissingRoot.xf, ca_MissingRoot_obstacle⟩, ⟨cf_NoCommon.xf, ca_NoCommon_obstacle⟩, ⟨cf_NoDeed.xf, ca_NoDeed_obstacle⟩, ⟨cf_NoNumber.xf, ca_NoNumber_obstacle⟩, ⟨cf_NoPerson.xf, ca_NoPerson_obstacle⟩, ⟨cf_NoRoot.xf, ca_NoRoot_obstacle⟩, ⟨cf_NotKin.xf, ca_NotKin_obstacle⟩, ⟨cf_NotPast.xf, ca_NotPast_obstacle⟩, ⟨cf_OtherSize.xf, ca_OtherSize_obstacle⟩, ⟨cf_TooMany.xf, ca_TooMany_obstacle⟩, ⟨cf_Unreachable.xf, ca_Unreachable_obstacle⟩, trivial⟩
  have at_person : AllL (fun _ C => XfC K C ∧ PySem.W.findIn K (.ref C) "person" = some none) [("BadDeed", C_BadDeed), ("BadLine", C_BadLine), ("BadText", C_BadText), ("Denied", C_Denied), ("IsRoot", C_IsRoot), ("MissingRoot", C_MissingRoot), ("NoCommon", C_NoCommon), ("NoDeed", C_NoDeed), ("NoNumber", C_NoNumber), ("NoPerson", C_NoPerson), ("NoRoot", C_NoRoot), ("NotKin", C_NotKin), ("NotPast", C_NotPast), ("OtherSize", C_OtherSize), ("TooMany", C_TooMany), ("Unreachable", C_Unreachable)] := ⟨⟨cf_BadDeed.xf, ca_BadDeed_person⟩, ⟨cf_BadLine.xf, ca_BadLine_person⟩, ⟨cf_BadText.xf, ca_BadText_person⟩, ⟨cf_Denied.xf, ca_Denied_person⟩, ⟨cf_IsRoot.xf, ca_IsRoot_person⟩, ⟨cf_MissingRoot.xf, ca_MissingRoot_person⟩, ⟨cf_NoCommon.xf, ca_NoCommon_person⟩, ⟨cf_NoDeed.xf, ca_NoDeed_person⟩, ⟨cf_NoNumber.xf, ca_NoNumber_person⟩, ⟨cf_NoPerson.xf, ca_NoPerson_person⟩, ⟨cf_NoRoot.xf, ca_NoRoot_person⟩, ⟨cf_NotKin.xf, ca_NotKin_person⟩, ⟨cf_NotPast.xf, ca_NotPast_person⟩, ⟨cf_OtherSize.xf, ca_OtherSize_person⟩, ⟨cf_TooMany.xf, ca_TooMany_person⟩, ⟨cf_Unreachable.xf, ca_Unreachable_person⟩, trivial⟩
  have at_size : AllL (fun _ C => XfC K C ∧ PySem.W.findIn K (.ref C) "size" = some none) [("BadDeed", C_BadDeed), ("BadLine", C_BadLine), ("BadText", C_BadText), ("Denied", C_Denied), ("IsRoot", C_IsRoot), ("MissingRoot", C_MissingRoot), ("NoCommon", C_NoCommon), ("NoDeed", C_NoDeed), ("NoNumber", C_NoNumber), ("NoPerson", C_NoPerson), ("NoRoot", C_NoRoot), ("NotKin", C_NotKin), ("NotPast", C_NotPast), ("OtherSize", C_OtherSize), ("TooMany", C_TooMany), ("Unreachable", C_Unreachable)] := ⟨⟨cf_BadDeed.xf, ca_BadDeed_size⟩, ⟨cf_BadLine.xf, ca_BadLine_size⟩, ⟨cf_BadText.xf, ca_BadText_size⟩, ⟨cf_Denied.xf, ca_Denied_size⟩, ⟨cf_IsRoot.xf, ca_IsRoot_size⟩, ⟨cf_MissingRoot.xf, ca_MissingRoot_size⟩, ⟨cf_NoCommon.xf, ca_NoCommon_size⟩, ⟨cf_NoDeed.xf, ca_NoDeed_size⟩, ⟨cf_NoNumber.xf, ca_NoNumber_size⟩, ⟨cf_NoPerson.xf, ca_NoPerson_size⟩, ⟨cf_NoRoot.xf, ca_NoRoot_size⟩, ⟨cf_NotKin.xf, ca_NotKin_size⟩, ⟨cf_NotPast.xf, ca_NotPast_size⟩, ⟨cf_OtherSize.xf, ca_OtherSize_size⟩, ⟨cf_TooMany.xf, ca_TooMany_size⟩, ⟨cf_Unreachable.xf, ca_Unreachable_size⟩, trivial⟩
  cases hfa.symm.trans g24
  refine ⟨e24, fun s v => ?_, fun base _ _ => ?_⟩
  · obtain ⟨oc, od, kV, doc, pm, an, cdv, ct, osl, rfl, lk, hcd⟩ := F24.ex
    exact .of_eq rfl
  · letI : Fns := ⟨fun n => match clT [("BadDeed", C_BadDeed), ("BadLine", C_BadLine), ("BadText", C_BadText), ("Denied", C_Denied), ("IsRoot", C_IsRoot), ("MissingRoot", C_MissingRoot), ("NoCommon", C_NoCommon), ("NoDeed", C_NoDeed), ("NoNumber", C_NoNumber), ("NoPerson", C_NoPerson), ("NoRoot", C_NoRoot), ("NotKin", C_NotKin), ("NotPast", C_NotPast), ("OtherSize", C_OtherSize), ("TooMany", C_TooMany), ("Unreachable", C_Unreachable)] n with | some C => .ref C | none => .non⟩
    have hFN : ∀ m C, FN m = .ref C → clT [("BadDeed", C_BadDeed), ("BadLine", C_BadLine), ("BadText", C_BadText), ("Denied", C_Denied), ("IsRoot", C_IsRoot), ("MissingRoot", C_MissingRoot), ("NoCommon", C_NoCommon), ("NoDeed", C_NoDeed), ("NoNumber", C_NoNumber), ("NoPerson", C_NoPerson), ("NoRoot", C_NoRoot), ("NotKin", C_NotKin), ("NotPast", C_NotPast), ("OtherSize", C_OtherSize), ("TooMany", C_TooMany), ("Unreachable", C_Unreachable)] m = some C := by
      intro m C h_
      have h2_ : (match clT [("BadDeed", C_BadDeed), ("BadLine", C_BadLine), ("BadText", C_BadText), ("Denied", C_Denied), ("IsRoot", C_IsRoot), ("MissingRoot", C_MissingRoot), ("NoCommon", C_NoCommon), ("NoDeed", C_NoDeed), ("NoNumber", C_NoNumber), ("NoPerson", C_NoPerson), ("NoRoot", C_NoRoot), ("NotKin", C_NotKin), ("NotPast", C_NotPast), ("OtherSize", C_OtherSize), ("TooMany", C_TooMany), ("Unreachable", C_Unreachable)] m with | some C => V.ref C | none => .non) = .ref C := h_
      cases q_ : clT [("BadDeed", C_BadDeed), ("BadLine", C_BadLine), ("BadText", C_BadText), ("Denied", C_Denied), ("IsRoot", C_IsRoot), ("MissingRoot", C_MissingRoot), ("NoCommon", C_NoCommon), ("NoDeed", C_NoDeed), ("NoNumber", C_NoNumber), ("NoPerson", C_NoPerson), ("NoRoot", C_NoRoot), ("NotKin", C_NotKin), ("NotPast", C_NotPast), ("OtherSize", C_OtherSize), ("TooMany", C_TooMany), ("Unreachable", C_Unreachable)] m with
      | none => rw [q_] at h2_; cases h2_
      | some D_ => rw [q_] at h2_; cases h2_; rfl
    have hF_BadDeed : FN "BadDeed" = .ref C_BadDeed := rfl
    have hF_BadLine : FN "BadLine" = .ref C_BadLine := rfl
    have hF_BadText : FN "BadText" = .ref C_BadText := rfl
    have hF_Denied : FN "Denied" = .ref C_Denied := rfl
    have hF_IsRoot : FN "IsRoot" = .ref C_IsRoot := rfl
    have hF_MissingRoot : FN "MissingRoot" = .ref C_MissingRoot := rfl
    have hF_NoCommon : FN "NoCommon" = .ref C_NoCommon := rfl
    have hF_NoDeed : FN "NoDeed" = .ref C_NoDeed := rfl
    have hF_NoNumber : FN "NoNumber" = .ref C_NoNumber := rfl
    have hF_NoPerson : FN "NoPerson" = .ref C_NoPerson := rfl
    have hF_NoRoot : FN "NoRoot" = .ref C_NoRoot := rfl
    have hF_NotKin : FN "NotKin" = .ref C_NotKin := rfl
    have hF_NotPast : FN "NotPast" = .ref C_NotPast := rfl
    have hF_OtherSize : FN "OtherSize" = .ref C_OtherSize := rfl
    have hF_TooMany : FN "TooMany" = .ref C_TooMany := rfl
    have hF_Unreachable : FN "Unreachable" = .ref C_Unreachable := rfl
    have bd1 : Binds K e1 ["value"] [] := b1 F1 fun _ _ _ _ _ _ _ => rfl
    have t1 : Cal l.prog w K mg base "kept" 1 ["value"] spKept f1 e1 := ⟨okX_kept F1 B, g1, F1.kp, bd1⟩
    have r_BadDeed : IniK l.prog w K mg base "BadDeed" "at" C_BadDeed 1 := ⟨_, _, _, _, fI_BadDeed, ed_BadDeed, cf_BadDeed.ox_ValueError, ci_BadDeed, ct_BadDeed, ok_init_BadDeed Fi_BadDeed B z_ValueError cv_ValueError cf_BadDeed.ox_ValueError ca_BadDeed_at, Fi_BadDeed.binds (fun kV doc pm an cdv ct us hl => match us, hl with | [u, v], _ => rfl), KbI.of Fi_BadDeed fun _ _ _ _ _ _ _ _ => rfl⟩
    have r_BadLine : IniK l.prog w K mg base "BadLine" "at" C_BadLine 1 := ⟨_, _, _, _, fI_BadLine, ed_BadLine, cf_BadLine.ox_ValueError, ci_BadLine, ct_BadLine, ok_init_BadLine Fi_BadLine B z_ValueError cv_ValueError cf_BadLine.ox_ValueError ca_BadLine_at, Fi_BadLine.binds (fun kV doc pm an cdv ct us hl => match us, hl with | [u, v], _ => rfl), KbI.of Fi_BadLine fun _ _ _ _ _ _ _ _ => rfl⟩
    have r_BadText : IniK l.prog w K mg base "BadText" "at" C_BadText 1 := ⟨_, _, _, _, fI_BadText, ed_BadText, cf_BadText.ox_ValueError, ci_BadText, ct_BadText, ok_init_BadText Fi_BadText B z_ValueError cv_ValueError cf_BadText.ox_ValueError ca_BadText_at, Fi_BadText.binds (fun kV doc pm an cdv ct us hl => match us, hl with | [u, v], _ => rfl), KbI.of Fi_BadText fun _ _ _ _ _ _ _ _ => rfl⟩
    have r_Denied : IniK l.prog w K mg base "Denied" "obstacle" C_Denied 2 := ⟨_, _, _, _, fI_Denied, ed_Denied, cf_Denied.ox_RuntimeError, ci_Denied, ct_Denied, ok_init_Denied Fi_Denied B z_RuntimeError cv_RuntimeError cf_Denied.ox_RuntimeError ca_Denied_obstacle t1, Fi_Denied.binds (fun kV doc pm an cdv ct us hl => match us, hl with | [u, v], _ => rfl), KbI.of Fi_Denied fun _ _ _ _ _ _ _ _ => rfl⟩
    have r_IsRoot : IniK l.prog w K mg base "IsRoot" "person" C_IsRoot 1 := ⟨_, _, _, _, fI_IsRoot, ed_IsRoot, cf_IsRoot.ox_RuntimeError, ci_IsRoot, ct_IsRoot, ok_init_IsRoot Fi_IsRoot B z_RuntimeError cv_RuntimeError cf_IsRoot.ox_RuntimeError ca_IsRoot_person, Fi_IsRoot.binds (fun kV doc pm an cdv ct us hl => match us, hl with | [u, v], _ => rfl), KbI.of Fi_IsRoot fun _ _ _ _ _ _ _ _ => rfl⟩
    have r_MissingRoot : IniK l.prog w K mg base "MissingRoot" "person" C_MissingRoot 1 := ⟨_, _, _, _, fI_MissingRoot, ed_MissingRoot, cf_MissingRoot.ox_ValueError, ci_MissingRoot, ct_MissingRoot, ok_init_MissingRoot Fi_MissingRoot B z_ValueError cv_ValueError cf_MissingRoot.ox_ValueError ca_MissingRoot_person, Fi_MissingRoot.binds (fun kV doc pm an cdv ct us hl => match us, hl with | [u, v], _ => rfl), KbI.of Fi_MissingRoot fun _ _ _ _ _ _ _ _ => rfl⟩
    have r_NoCommon : IniK l.prog w K mg base "NoCommon" "bar" C_NoCommon 2 := ⟨_, _, _, _, fI_NoCommon, ed_NoCommon, cf_NoCommon.ox_RuntimeError, ci_NoCommon, ct_NoCommon, ok_init_NoCommon Fi_NoCommon B z_RuntimeError cv_RuntimeError cf_NoCommon.ox_RuntimeError ca_NoCommon_bar t1, Fi_NoCommon.binds (fun kV doc pm an cdv ct us hl => match us, hl with | [u, v], _ => rfl), KbI.of Fi_NoCommon fun _ _ _ _ _ _ _ _ => rfl⟩
    have r_NoDeed : IniK l.prog w K mg base "NoDeed" "many" C_NoDeed 1 := ⟨_, _, _, _, fI_NoDeed, ed_NoDeed, cf_NoDeed.ox_LookupError, ci_NoDeed, ct_NoDeed, ok_init_NoDeed Fi_NoDeed B z_LookupError cv_LookupError cf_NoDeed.ox_LookupError ca_NoDeed_many, Fi_NoDeed.binds (fun kV doc pm an cdv ct us hl => match us, hl with | [u, v], _ => rfl), KbI.of Fi_NoDeed fun _ _ _ _ _ _ _ _ => rfl⟩
    have r_NoNumber : IniK l.prog w K mg base "NoNumber" "number" C_NoNumber 1 := ⟨_, _, _, _, fI_NoNumber, ed_NoNumber, cf_NoNumber.ox_LookupError, ci_NoNumber, ct_NoNumber, ok_init_NoNumber Fi_NoNumber B z_LookupError cv_LookupError cf_NoNumber.ox_LookupError ca_NoNumber_number, Fi_NoNumber.binds (fun kV doc pm an cdv ct us hl => match us, hl with | [u, v], _ => rfl), KbI.of Fi_NoNumber fun _ _ _ _ _ _ _ _ => rfl⟩
    have r_NoPerson : IniK l.prog w K mg base "NoPerson" "person" C_NoPerson 1 := ⟨_, _, _, _, fI_NoPerson, ed_NoPerson, cf_NoPerson.ox_LookupError, ci_NoPerson, ct_NoPerson, ok_init_NoPerson Fi_NoPerson B z_LookupError cv_LookupError cf_NoPerson.ox_LookupError ca_NoPerson_person, Fi_NoPerson.binds (fun kV doc pm an cdv ct us hl => match us, hl with | [u, v], _ => rfl), KbI.of Fi_NoPerson fun _ _ _ _ _ _ _ _ => rfl⟩
    have r_NoRoot : IniK l.prog w K mg base "NoRoot" "person" C_NoRoot 1 := ⟨_, _, _, _, fI_NoRoot, ed_NoRoot, cf_NoRoot.ox_ValueError, ci_NoRoot, ct_NoRoot, ok_init_NoRoot Fi_NoRoot B z_ValueError cv_ValueError cf_NoRoot.ox_ValueError ca_NoRoot_person, Fi_NoRoot.binds (fun kV doc pm an cdv ct us hl => match us, hl with | [u, v], _ => rfl), KbI.of Fi_NoRoot fun _ _ _ _ _ _ _ _ => rfl⟩
    have r_NotKin : Ini0 l.prog w K mg base "NotKin" C_NotKin 1 := ⟨_, _, _, _, fI_NotKin, ed_NotKin, cf_NotKin.ox_ValueError, ci_NotKin, ct_NotKin, ok_init_NotKin Fi_NotKin B z_ValueError cv_ValueError cf_NotKin.ox_ValueError, Fi_NotKin.binds fun kV doc pm an cdv ct us hl => match us, hl with | [u], _ => rfl⟩
    have r_NotPast : Ini0 l.prog w K mg base "NotPast" C_NotPast 1 := ⟨_, _, _, _, fI_NotPast, ed_NotPast, cf_NotPast.ox_ValueError, ci_NotPast, ct_NotPast, ok_init_NotPast Fi_NotPast B z_ValueError cv_ValueError cf_NotPast.ox_ValueError, Fi_NotPast.binds fun kV doc pm an cdv ct us hl => match us, hl with | [u], _ => rfl⟩
    have r_OtherSize : IniK l.prog w K mg base "OtherSize" "size" C_OtherSize 1 := ⟨_, _, _, _, fI_OtherSize, ed_OtherSize, cf_OtherSize.ox_ValueError, ci_OtherSize, ct_OtherSize, ok_init_OtherSize Fi_OtherSize B z_ValueError cv_ValueError cf_OtherSize.ox_ValueError ca_OtherSize_size, Fi_OtherSize.binds (fun kV doc pm an cdv ct us hl => match us, hl with | [u, v], _ => rfl), KbI.of Fi_OtherSize fun _ _ _ _ _ _ _ _ => rfl⟩
    have r_TooMany : IniK l.prog w K mg base "TooMany" "many" C_TooMany 1 := ⟨_, _, _, _, fI_TooMany, ed_TooMany, cf_TooMany.ox_OverflowError, ci_TooMany, ct_TooMany, ok_init_TooMany Fi_TooMany B z_OverflowError cv_OverflowError cf_TooMany.ox_OverflowError ca_TooMany_many, Fi_TooMany.binds (fun kV doc pm an cdv ct us hl => match us, hl with | [u, v], _ => rfl), KbI.of Fi_TooMany fun _ _ _ _ _ _ _ _ => rfl⟩
    have r_Unreachable : IniK l.prog w K mg base "Unreachable" "obstacle" C_Unreachable 2 := ⟨_, _, _, _, fI_Unreachable, ed_Unreachable, cf_Unreachable.ox_RuntimeError, ci_Unreachable, ct_Unreachable, ok_init_Unreachable Fi_Unreachable B z_RuntimeError cv_RuntimeError cf_Unreachable.ox_RuntimeError ca_Unreachable_obstacle t1, Fi_Unreachable.binds (fun kV doc pm an cdv ct us hl => match us, hl with | [u, v], _ => rfl), KbI.of Fi_Unreachable fun _ _ _ _ _ _ _ _ => rfl⟩
    have bd19 : Binds K e19 ["_law_found", "_law_due"] [] := b2 F19 fun _ _ _ _ _ _ _ _ => rfl
    have t19 : Cal l.prog w K mg base "_law_same" 4 ["_law_found", "_law_due"] (spD 2 (p_law_same_3 3)) f19 e19 := ⟨ok_law_same F19 B g19 bd19 3, g19, F19.kp, bd19⟩
    have bd20 : Binds K e20 ["_law_made"] [] := b1 F20 fun _ _ _ _ _ _ _ => rfl
    have t20 : Cal l.prog w K mg base "_law_bases" 1 ["_law_made"] (spD 1 p_law_bases) f20 e20 := ⟨ok_law_bases F20 B  hFN xcs i_ValueError z_ValueError i_LookupError z_LookupError i_OverflowError z_OverflowError i_RuntimeError z_RuntimeError, g20, F20.kp, bd20⟩
    have bd21 : Binds K e21 ["_law_made"] [] := b1 F21 fun _ _ _ _ _ _ _ => rfl
    have t21 : Cal l.prog w K mg base "_law_kinds" 1 ["_law_made"] (spD 1 p_law_kinds) f21 e21 := ⟨ok_law_kinds F21 B  hFN xcs i_NoDeed g_NoDeed i_NoNumber g_NoNumber i_NoPerson g_NoPerson i_NoRoot g_NoRoot i_OtherSize g_OtherSize i_NotKin g_NotKin i_MissingRoot g_MissingRoot i_BadText g_BadText i_BadDeed g_BadDeed i_NotPast g_NotPast i_NoCommon g_NoCommon i_Unreachable g_Unreachable i_BadLine g_BadLine i_TooMany g_TooMany i_IsRoot g_IsRoot i_Denied g_Denied, g21, F21.kp, bd21⟩
    have bd22 : Binds K e22 ["_law_made", "_law_base"] [] := b2 F22 fun _ _ _ _ _ _ _ _ => rfl
    have t22 : Cal l.prog w K mg base "_law_all_right" 2 ["_law_made", "_law_base"] (spD 2 p_law_all_right) f22 e22 := ⟨ok_law_all_right F22 B t21 t20 hFN xcs i_KeyError_IndexError z_IndexError z_KeyError, g22, F22.kp, bd22⟩
    have bd23 : Binds K e23 ["_law_cell", "_law_reason", "_law_bar_due"] [] := b3 F23 fun _ _ _ _ _ _ _ _ _ => rfl
    have t23 : Cal l.prog w K mg base "_law_right" 5 ["_law_cell", "_law_reason", "_law_bar_due"] (spD 3 p_k91_law_right) f23 e23 := ⟨ok_law_right F23 B t19 t22 hFN g_NotKin hF_NotKin r_NotKin g_MissingRoot hF_MissingRoot r_MissingRoot g_NoRoot hF_NoRoot r_NoRoot g_OtherSize hF_OtherSize r_OtherSize g_NoDeed hF_NoDeed r_NoDeed g_NoNumber hF_NoNumber r_NoNumber g_NoPerson hF_NoPerson r_NoPerson g_NoCommon hF_NoCommon r_NoCommon g_Unreachable hF_Unreachable r_Unreachable g_BadLine hF_BadLine r_BadLine g_BadText hF_BadText r_BadText g_BadDeed hF_BadDeed r_BadDeed g_NotPast hF_NotPast r_NotPast g_TooMany hF_TooMany r_TooMany g_IsRoot hF_IsRoot r_IsRoot g_Denied hF_Denied r_Denied at_at at_person at_size at_many at_number at_obstacle at_bar, g23, F23.kp, bd23⟩
    exact FnOk.imp (ok_law F24 B t23 ) fun _ _ _ _ h => law_imp h
end Lp

open PySem PySem.W PyProof.Rows
set_option maxHeartbeats 0 in
theorem PySem.Challenge.cw_lookpast_k91_errors_made_holds : PySem.Challenge.rw_lookpast_k91_errors_made.Holds := by
  w_on; o_law; k_head; (case hw => w_witness2)
  k_fill
  refine L2.walk_of (l := PySem.Challenge.rw_lookpast_k91_errors_made) (n := 63) (k := 6) (x := "_law_script") (CX := fun _ => L2.CX0) (sp := fun w => Lp.spLaw _) rfl (by decide) rfl ⟨rfl, by decide, by decide⟩ (fun w h Y => PySem.W.kIn_of Y) ?F (fun _ _ a ns hl _ hS => ⟨a, ns, rfl, hS, hl, fun _ => rfl⟩) (fun _ _ _ _ _ h => h)
  case F =>
    intro w mg fa h KX G hmg
    refine' Lp.all_mk KX G hmg ?z ?d1 ?d19 ?d20 ?d21 ?d22 ?d23 ?d24 ?cg_BadDeed ?cg_BadLine ?cg_BadText ?cg_Denied ?cg_IsRoot ?cg_MissingRoot ?cg_NoCommon ?cg_NoDeed ?cg_NoNumber ?cg_NoPerson ?cg_NoRoot ?cg_NotKin ?cg_NotPast ?cg_OtherSize ?cg_TooMany ?cg_Unreachable ?cf_BadDeed ?ci_BadDeed ?ct_BadDeed ?ce_BadDeed ?ca_BadDeed_at ?ca_BadDeed_bar ?ca_BadDeed_many ?ca_BadDeed_number ?ca_BadDeed_obstacle ?ca_BadDeed_person ?ca_BadDeed_size ?cf_BadLine ?ci_BadLine ?ct_BadLine ?ce_BadLine ?ca_BadLine_at ?ca_BadLine_bar ?ca_BadLine_many ?ca_BadLine_number ?ca_BadLine_obstacle ?ca_BadLine_person ?ca_BadLine_size ?cf_BadText ?ci_BadText ?ct_BadText ?ce_BadText ?ca_BadText_at ?ca_BadText_bar ?ca_BadText_many ?ca_BadText_number ?ca_BadText_obstacle ?ca_BadText_person ?ca_BadText_size ?cf_Denied ?ci_Denied ?ct_Denied ?ce_Denied ?ca_Denied_at ?ca_Denied_bar ?ca_Denied_many ?ca_Denied_number ?ca_Denied_obstacle ?ca_Denied_person ?ca_Denied_size ?cf_IsRoot ?ci_IsRoot ?ct_IsRoot ?ce_IsRoot ?ca_IsRoot_at ?ca_IsRoot_bar ?ca_IsRoot_many ?ca_IsRoot_number ?ca_IsRoot_obstacle ?ca_IsRoot_person ?ca_IsRoot_size ?cf_MissingRoot ?ci_MissingRoot ?ct_MissingRoot ?ce_MissingRoot ?ca_MissingRoot_at ?ca_MissingRoot_bar ?ca_MissingRoot_many ?ca_MissingRoot_number ?ca_MissingRoot_obstacle ?ca_MissingRoot_person ?ca_MissingRoot_size ?cf_NoCommon ?ci_NoCommon ?ct_NoCommon ?ce_NoCommon ?ca_NoCommon_at ?ca_NoCommon_bar ?ca_NoCommon_many ?ca_NoCommon_number ?ca_NoCommon_obstacle ?ca_NoCommon_person ?ca_NoCommon_size ?cf_NoDeed ?ci_NoDeed ?ct_NoDeed ?ce_NoDeed ?ca_NoDeed_at ?ca_NoDeed_bar ?ca_NoDeed_many ?ca_NoDeed_number ?ca_NoDeed_obstacle ?ca_NoDeed_person ?ca_NoDeed_size ?cf_NoNumber ?ci_NoNumber ?ct_NoNumber ?ce_NoNumber ?ca_NoNumber_at ?ca_NoNumber_bar ?ca_NoNumber_many ?ca_NoNumber_number ?ca_NoNumber_obstacle ?ca_NoNumber_person ?ca_NoNumber_size ?cf_NoPerson ?ci_NoPerson ?ct_NoPerson ?ce_NoPerson ?ca_NoPerson_at ?ca_NoPerson_bar ?ca_NoPerson_many ?ca_NoPerson_number ?ca_NoPerson_obstacle ?ca_NoPerson_person ?ca_NoPerson_size ?cf_NoRoot ?ci_NoRoot ?ct_NoRoot ?ce_NoRoot ?ca_NoRoot_at ?ca_NoRoot_bar ?ca_NoRoot_many ?ca_NoRoot_number ?ca_NoRoot_obstacle ?ca_NoRoot_person ?ca_NoRoot_size ?cf_NotKin ?ci_NotKin ?ct_NotKin ?ce_NotKin ?ca_NotKin_at ?ca_NotKin_bar ?ca_NotKin_many ?ca_NotKin_number ?ca_NotKin_obstacle ?ca_NotKin_person ?ca_NotKin_size ?cf_NotPast ?ci_NotPast ?ct_NotPast ?ce_NotPast ?ca_NotPast_at ?ca_NotPast_bar ?ca_NotPast_many ?ca_NotPast_number ?ca_NotPast_obstacle ?ca_NotPast_person ?ca_NotPast_size ?cf_OtherSize ?ci_OtherSize ?ct_OtherSize ?ce_OtherSize ?ca_OtherSize_at ?ca_OtherSize_bar ?ca_OtherSize_many ?ca_OtherSize_number ?ca_OtherSize_obstacle ?ca_OtherSize_person ?ca_OtherSize_size ?cf_TooMany ?ci_TooMany ?ct_TooMany ?ce_TooMany ?ca_TooMany_at ?ca_TooMany_bar ?ca_TooMany_many ?ca_TooMany_number ?ca_TooMany_obstacle ?ca_TooMany_person ?ca_TooMany_size ?cf_Unreachable ?ci_Unreachable ?ct_Unreachable ?ce_Unreachable ?ca_Unreachable_at ?ca_Unreachable_bar ?ca_Unreachable_many ?ca_Unreachable_number ?ca_Unreachable_obstacle ?ca_Unreachable_person ?ca_Unreachable_size ?cz_IndexError ?cz_KeyError ?cz_LookupError ?cz_OverflowError ?cz_RuntimeError ?cz_ValueError ?cv_LookupError ?cv_OverflowError ?cv_RuntimeError ?cv_ValueError ?i_ValueError ?i_LookupError ?i_OverflowError ?i_RuntimeError ?i_NoDeed ?i_NoNumber ?i_NoPerson ?i_NoRoot ?i_OtherSize ?i_NotKin ?i_MissingRoot ?i_BadText ?i_BadDeed ?i_NotPast ?i_NoCommon ?i_Unreachable ?i_BadLine ?i_TooMany ?i_IsRoot ?i_Denied ?i_KeyError_IndexError
    (case z => refine' ⟨?_, ?_, ?_, ?_, ?_, ?_, ?_, ?_, ?_, ?_, ?_, ?_, ?_, ?_, ?_, ?_, ?_, ?_, ?_⟩ <;> k_is)
    (case d1 => refine' Lp.dx_mk ?a ?l ?c ?k; (case a => k_is); (case l => k_is); (case c => k_is); (case k => k_is))
    (case d19 => refine' Lp.dx_mk ?a ?l ?c ?k; (case a => k_is); (case l => k_is); (case c => k_is); (case k => k_is))
    (case d20 => refine' Lp.dx_mk ?a ?l ?c ?k; (case a => k_is); (case l => k_is); (case c => k_is); (case k => k_is))
    (case d21 => refine' Lp.dx_mk ?a ?l ?c ?k; (case a => k_is); (case l => k_is); (case c => k_is); (case k => k_is))
    (case d22 => refine' Lp.dx_mk ?a ?l ?c ?k; (case a => k_is); (case l => k_is); (case c => k_is); (case k => k_is))
    (case d23 => refine' Lp.dx_mk ?a ?l ?c ?k; (case a => k_is); (case l => k_is); (case c => k_is); (case k => k_is))
    (case d24 => refine' Lp.dx_mk ?a ?l ?c ?k; (case a => k_is); (case l => k_is); (case c => k_is); (case k => k_is))
    (case cg_BadDeed => k_is)
    (case cg_BadLine => k_is)
    (case cg_BadText => k_is)
    (case cg_Denied => k_is)
    (case cg_IsRoot => k_is)
    (case cg_MissingRoot => k_is)
    (case cg_NoCommon => k_is)
    (case cg_NoDeed => k_is)
    (case cg_NoNumber => k_is)
    (case cg_NoPerson => k_is)
    (case cg_NoRoot => k_is)
    (case cg_NotKin => k_is)
    (case cg_NotPast => k_is)
    (case cg_OtherSize => k_is)
    (case cg_TooMany => k_is)
    (case cg_Unreachable => k_is)
    (case cf_BadDeed => refine' Lp.clf_mk ?c1 ?c2 ?c3 ?c4 ?c5 ?c6 ?c7 ?c8 ?c9 ?c10 ?c11 ?c12; (case c1 => k_is); (case c2 => k_is); (case c3 => k_is); (case c4 => k_is); (case c5 => k_is); (case c6 => k_is); (case c7 => k_is); (case c8 => k_is); (case c9 => k_is); (case c10 => k_is); (case c11 => k_is); (case c12 => k_is))
    (case ci_BadDeed => k_is)
    (case ct_BadDeed => k_is)
    (case ce_BadDeed => refine' Lp.funI_mk ?l ?c ?k; (case l => k_is); (case c => k_is); (case k => k_is))
    (case ca_BadDeed_at => k_is)
    (case ca_BadDeed_bar => k_is)
    (case ca_BadDeed_many => k_is)
    (case ca_BadDeed_number => k_is)
    (case ca_BadDeed_obstacle => k_is)
    (case ca_BadDeed_person => k_is)
    (case ca_BadDeed_size => k_is)
    (case cf_BadLine => refine' Lp.clf_mk ?c1 ?c2 ?c3 ?c4 ?c5 ?c6 ?c7 ?c8 ?c9 ?c10 ?c11 ?c12; (case c1 => k_is); (case c2 => k_is); (case c3 => k_is); (case c4 => k_is); (case c5 => k_is); (case c6 => k_is); (case c7 => k_is); (case c8 => k_is); (case c9 => k_is); (case c10 => k_is); (case c11 => k_is); (case c12 => k_is))
    (case ci_BadLine => k_is)
    (case ct_BadLine => k_is)
    (case ce_BadLine => refine' Lp.funI_mk ?l ?c ?k; (case l => k_is); (case c => k_is); (case k => k_is))
    (case ca_BadLine_at => k_is)
    (case ca_BadLine_bar => k_is)
    (case ca_BadLine_many => k_is)
    (case ca_BadLine_number => k_is)
    (case ca_BadLine_obstacle => k_is)
    (case ca_BadLine_person => k_is)
    (case ca_BadLine_size => k_is)
    (case cf_BadText => refine' Lp.clf_mk ?c1 ?c2 ?c3 ?c4 ?c5 ?c6 ?c7 ?c8 ?c9 ?c10 ?c11 ?c12; (case c1 => k_is); (case c2 => k_is); (case c3 => k_is); (case c4 => k_is); (case c5 => k_is); (case c6 => k_is); (case c7 => k_is); (case c8 => k_is); (case c9 => k_is); (case c10 => k_is); (case c11 => k_is); (case c12 => k_is))
    (case ci_BadText => k_is)
    (case ct_BadText => k_is)
    (case ce_BadText => refine' Lp.funI_mk ?l ?c ?k; (case l => k_is); (case c => k_is); (case k => k_is))
    (case ca_BadText_at => k_is)
    (case ca_BadText_bar => k_is)
    (case ca_BadText_many => k_is)
    (case ca_BadText_number => k_is)
    (case ca_BadText_obstacle => k_is)
    (case ca_BadText_person => k_is)
    (case ca_BadText_size => k_is)
    (case cf_Denied => refine' Lp.clf_mk ?c1 ?c2 ?c3 ?c4 ?c5 ?c6 ?c7 ?c8 ?c9 ?c10 ?c11 ?c12; (case c1 => k_is); (case c2 => k_is); (case c3 => k_is); (case c4 => k_is); (case c5 => k_is); (case c6 => k_is); (case c7 => k_is); (case c8 => k_is); (case c9 => k_is); (case c10 => k_is); (case c11 => k_is); (case c12 => k_is))
    (case ci_Denied => k_is)
    (case ct_Denied => k_is)
    (case ce_Denied => refine' Lp.funI_mk ?l ?c ?k; (case l => k_is); (case c => k_is); (case k => k_is))
    (case ca_Denied_at => k_is)
    (case ca_Denied_bar => k_is)
    (case ca_Denied_many => k_is)
    (case ca_Denied_number => k_is)
    (case ca_Denied_obstacle => k_is)
    (case ca_Denied_person => k_is)
    (case ca_Denied_size => k_is)
    (case cf_IsRoot => refine' Lp.clf_mk ?c1 ?c2 ?c3 ?c4 ?c5 ?c6 ?c7 ?c8 ?c9 ?c10 ?c11 ?c12; (case c1 => k_is); (case c2 => k_is); (case c3 => k_is); (case c4 => k_is); (case c5 => k_is); (case c6 => k_is); (case c7 => k_is); (case c8 => k_is); (case c9 => k_is); (case c10 => k_is); (case c11 => k_is); (case c12 => k_is))
    (case ci_IsRoot => k_is)
    (case ct_IsRoot => k_is)
    (case ce_IsRoot => refine' Lp.funI_mk ?l ?c ?k; (case l => k_is); (case c => k_is); (case k => k_is))
    (case ca_IsRoot_at => k_is)
    (case ca_IsRoot_bar => k_is)
    (case ca_IsRoot_many => k_is)
    (case ca_IsRoot_number => k_is)
    (case ca_IsRoot_obstacle => k_is)
    (case ca_IsRoot_person => k_is)
    (case ca_IsRoot_size => k_is)
    (case cf_MissingRoot => refine' Lp.clf_mk ?c1 ?c2 ?c3 ?c4 ?c5 ?c6 ?c7 ?c8 ?c9 ?c10 ?c11 ?c12; (case c1 => k_is); (case c2 => k_is); (case c3 => k_is); (case c4 => k_is); (case c5 => k_is); (case c6 => k_is); (case c7 => k_is); (case c8 => k_is); (case c9 => k_is); (case c10 => k_is); (case c11 => k_is); (case c12 => k_is))
    (case ci_MissingRoot => k_is)
    (case ct_MissingRoot => k_is)
    (case ce_MissingRoot => refine' Lp.funI_mk ?l ?c ?k; (case l => k_is); (case c => k_is); (case k => k_is))
    (case ca_MissingRoot_at => k_is)
    (case ca_MissingRoot_bar => k_is)
    (case ca_MissingRoot_many => k_is)
    (case ca_MissingRoot_number => k_is)
    (case ca_MissingRoot_obstacle => k_is)
    (case ca_MissingRoot_person => k_is)
    (case ca_MissingRoot_size => k_is)
    (case cf_NoCommon => refine' Lp.clf_mk ?c1 ?c2 ?c3 ?c4 ?c5 ?c6 ?c7 ?c8 ?c9 ?c10 ?c11 ?c12; (case c1 => k_is); (case c2 => k_is); (case c3 => k_is); (case c4 => k_is); (case c5 => k_is); (case c6 => k_is); (case c7 => k_is); (case c8 => k_is); (case c9 => k_is); (case c10 => k_is); (case c11 => k_is); (case c12 => k_is))
    (case ci_NoCommon => k_is)
    (case ct_NoCommon => k_is)
    (case ce_NoCommon => refine' Lp.funI_mk ?l ?c ?k; (case l => k_is); (case c => k_is); (case k => k_is))
    (case ca_NoCommon_at => k_is)
    (case ca_NoCommon_bar => k_is)
    (case ca_NoCommon_many => k_is)
    (case ca_NoCommon_number => k_is)
    (case ca_NoCommon_obstacle => k_is)
    (case ca_NoCommon_person => k_is)
    (case ca_NoCommon_size => k_is)
    (case cf_NoDeed => refine' Lp.clf_mk ?c1 ?c2 ?c3 ?c4 ?c5 ?c6 ?c7 ?c8 ?c9 ?c10 ?c11 ?c12; (case c1 => k_is); (case c2 => k_is); (case c3 => k_is); (case c4 => k_is); (case c5 => k_is); (case c6 => k_is); (case c7 => k_is); (case c8 => k_is); (case c9 => k_is); (case c10 => k_is); (case c11 => k_is); (case c12 => k_is))
    (case ci_NoDeed => k_is)
    (case ct_NoDeed => k_is)
    (case ce_NoDeed => refine' Lp.funI_mk ?l ?c ?k; (case l => k_is); (case c => k_is); (case k => k_is))
    (case ca_NoDeed_at => k_is)
    (case ca_NoDeed_bar => k_is)
    (case ca_NoDeed_many => k_is)
    (case ca_NoDeed_number => k_is)
    (case ca_NoDeed_obstacle => k_is)
    (case ca_NoDeed_person => k_is)
    (case ca_NoDeed_size => k_is)
    (case cf_NoNumber => refine' Lp.clf_mk ?c1 ?c2 ?c3 ?c4 ?c5 ?c6 ?c7 ?c8 ?c9 ?c10 ?c11 ?c12; (case c1 => k_is); (case c2 => k_is); (case c3 => k_is); (case c4 => k_is); (case c5 => k_is); (case c6 => k_is); (case c7 => k_is); (case c8 => k_is); (case c9 => k_is); (case c10 => k_is); (case c11 => k_is); (case c12 => k_is))
    (case ci_NoNumber => k_is)
    (case ct_NoNumber => k_is)
    (case ce_NoNumber => refine' Lp.funI_mk ?l ?c ?k; (case l => k_is); (case c => k_is); (case k => k_is))
    (case ca_NoNumber_at => k_is)
    (case ca_NoNumber_bar => k_is)
    (case ca_NoNumber_many => k_is)
    (case ca_NoNumber_number => k_is)
    (case ca_NoNumber_obstacle => k_is)
    (case ca_NoNumber_person => k_is)
    (case ca_NoNumber_size => k_is)
    (case cf_NoPerson => refine' Lp.clf_mk ?c1 ?c2 ?c3 ?c4 ?c5 ?c6 ?c7 ?c8 ?c9 ?c10 ?c11 ?c12; (case c1 => k_is); (case c2 => k_is); (case c3 => k_is); (case c4 => k_is); (case c5 => k_is); (case c6 => k_is); (case c7 => k_is); (case c8 => k_is); (case c9 => k_is); (case c10 => k_is); (case c11 => k_is); (case c12 => k_is))
    (case ci_NoPerson => k_is)
    (case ct_NoPerson => k_is)
    (case ce_NoPerson => refine' Lp.funI_mk ?l ?c ?k; (case l => k_is); (case c => k_is); (case k => k_is))
    (case ca_NoPerson_at => k_is)
    (case ca_NoPerson_bar => k_is)
    (case ca_NoPerson_many => k_is)
    (case ca_NoPerson_number => k_is)
    (case ca_NoPerson_obstacle => k_is)
    (case ca_NoPerson_person => k_is)
    (case ca_NoPerson_size => k_is)
    (case cf_NoRoot => refine' Lp.clf_mk ?c1 ?c2 ?c3 ?c4 ?c5 ?c6 ?c7 ?c8 ?c9 ?c10 ?c11 ?c12; (case c1 => k_is); (case c2 => k_is); (case c3 => k_is); (case c4 => k_is); (case c5 => k_is); (case c6 => k_is); (case c7 => k_is); (case c8 => k_is); (case c9 => k_is); (case c10 => k_is); (case c11 => k_is); (case c12 => k_is))
    (case ci_NoRoot => k_is)
    (case ct_NoRoot => k_is)
    (case ce_NoRoot => refine' Lp.funI_mk ?l ?c ?k; (case l => k_is); (case c => k_is); (case k => k_is))
    (case ca_NoRoot_at => k_is)
    (case ca_NoRoot_bar => k_is)
    (case ca_NoRoot_many => k_is)
    (case ca_NoRoot_number => k_is)
    (case ca_NoRoot_obstacle => k_is)
    (case ca_NoRoot_person => k_is)
    (case ca_NoRoot_size => k_is)
    (case cf_NotKin => refine' Lp.clf_mk ?c1 ?c2 ?c3 ?c4 ?c5 ?c6 ?c7 ?c8 ?c9 ?c10 ?c11 ?c12; (case c1 => k_is); (case c2 => k_is); (case c3 => k_is); (case c4 => k_is); (case c5 => k_is); (case c6 => k_is); (case c7 => k_is); (case c8 => k_is); (case c9 => k_is); (case c10 => k_is); (case c11 => k_is); (case c12 => k_is))
    (case ci_NotKin => k_is)
    (case ct_NotKin => k_is)
    (case ce_NotKin => refine' Lp.funI_mk ?l ?c ?k; (case l => k_is); (case c => k_is); (case k => k_is))
    (case ca_NotKin_at => k_is)
    (case ca_NotKin_bar => k_is)
    (case ca_NotKin_many => k_is)
    (case ca_NotKin_number => k_is)
    (case ca_NotKin_obstacle => k_is)
    (case ca_NotKin_person => k_is)
    (case ca_NotKin_size => k_is)
    (case cf_NotPast => refine' Lp.clf_mk ?c1 ?c2 ?c3 ?c4 ?c5 ?c6 ?c7 ?c8 ?c9 ?c10 ?c11 ?c12; (case c1 => k_is); (case c2 => k_is); (case c3 => k_is); (case c4 => k_is); (case c5 => k_is); (case c6 => k_is); (case c7 => k_is); (case c8 => k_is); (case c9 => k_is); (case c10 => k_is); (case c11 => k_is); (case c12 => k_is))
    (case ci_NotPast => k_is)
    (case ct_NotPast => k_is)
    (case ce_NotPast => refine' Lp.funI_mk ?l ?c ?k; (case l => k_is); (case c => k_is); (case k => k_is))
    (case ca_NotPast_at => k_is)
    (case ca_NotPast_bar => k_is)
    (case ca_NotPast_many => k_is)
    (case ca_NotPast_number => k_is)
    (case ca_NotPast_obstacle => k_is)
    (case ca_NotPast_person => k_is)
    (case ca_NotPast_size => k_is)
    (case cf_OtherSize => refine' Lp.clf_mk ?c1 ?c2 ?c3 ?c4 ?c5 ?c6 ?c7 ?c8 ?c9 ?c10 ?c11 ?c12; (case c1 => k_is); (case c2 => k_is); (case c3 => k_is); (case c4 => k_is); (case c5 => k_is); (case c6 => k_is); (case c7 => k_is); (case c8 => k_is); (case c9 => k_is); (case c10 => k_is); (case c11 => k_is); (case c12 => k_is))
    (case ci_OtherSize => k_is)
    (case ct_OtherSize => k_is)
    (case ce_OtherSize => refine' Lp.funI_mk ?l ?c ?k; (case l => k_is); (case c => k_is); (case k => k_is))
    (case ca_OtherSize_at => k_is)
    (case ca_OtherSize_bar => k_is)
    (case ca_OtherSize_many => k_is)
    (case ca_OtherSize_number => k_is)
    (case ca_OtherSize_obstacle => k_is)
    (case ca_OtherSize_person => k_is)
    (case ca_OtherSize_size => k_is)
    (case cf_TooMany => refine' Lp.clf_mk ?c1 ?c2 ?c3 ?c4 ?c5 ?c6 ?c7 ?c8 ?c9 ?c10 ?c11 ?c12; (case c1 => k_is); (case c2 => k_is); (case c3 => k_is); (case c4 => k_is); (case c5 => k_is); (case c6 => k_is); (case c7 => k_is); (case c8 => k_is); (case c9 => k_is); (case c10 => k_is); (case c11 => k_is); (case c12 => k_is))
    (case ci_TooMany => k_is)
    (case ct_TooMany => k_is)
    (case ce_TooMany => refine' Lp.funI_mk ?l ?c ?k; (case l => k_is); (case c => k_is); (case k => k_is))
    (case ca_TooMany_at => k_is)
    (case ca_TooMany_bar => k_is)
    (case ca_TooMany_many => k_is)
    (case ca_TooMany_number => k_is)
    (case ca_TooMany_obstacle => k_is)
    (case ca_TooMany_person => k_is)
    (case ca_TooMany_size => k_is)
    (case cf_Unreachable => refine' Lp.clf_mk ?c1 ?c2 ?c3 ?c4 ?c5 ?c6 ?c7 ?c8 ?c9 ?c10 ?c11 ?c12; (case c1 => k_is); (case c2 => k_is); (case c3 => k_is); (case c4 => k_is); (case c5 => k_is); (case c6 => k_is); (case c7 => k_is); (case c8 => k_is); (case c9 => k_is); (case c10 => k_is); (case c11 => k_is); (case c12 => k_is))
    (case ci_Unreachable => k_is)
    (case ct_Unreachable => k_is)
    (case ce_Unreachable => refine' Lp.funI_mk ?l ?c ?k; (case l => k_is); (case c => k_is); (case k => k_is))
    (case ca_Unreachable_at => k_is)
    (case ca_Unreachable_bar => k_is)
    (case ca_Unreachable_many => k_is)
    (case ca_Unreachable_number => k_is)
    (case ca_Unreachable_obstacle => k_is)
    (case ca_Unreachable_person => k_is)
    (case ca_Unreachable_size => k_is)
    (case cz_IndexError => k_is)
    (case cz_KeyError => k_is)
    (case cz_LookupError => k_is)
    (case cz_OverflowError => k_is)
    (case cz_RuntimeError => k_is)
    (case cz_ValueError => k_is)
    (case cv_LookupError => k_is)
    (case cv_OverflowError => k_is)
    (case cv_RuntimeError => k_is)
    (case cv_ValueError => k_is)
    (case i_ValueError => refine' ⟨?_, ?_, ?_, ?_, ?_, ?_, ?_, ?_, ?_, ?_, ?_, ?_, ?_, ?_, ?_, ?_, trivial⟩ <;> first | exact rfl | kernel_rfl | k_is)
    (case i_LookupError => refine' ⟨?_, ?_, ?_, ?_, ?_, ?_, ?_, ?_, ?_, ?_, ?_, ?_, ?_, ?_, ?_, ?_, trivial⟩ <;> first | exact rfl | kernel_rfl | k_is)
    (case i_OverflowError => refine' ⟨?_, ?_, ?_, ?_, ?_, ?_, ?_, ?_, ?_, ?_, ?_, ?_, ?_, ?_, ?_, ?_, trivial⟩ <;> first | exact rfl | kernel_rfl | k_is)
    (case i_RuntimeError => refine' ⟨?_, ?_, ?_, ?_, ?_, ?_, ?_, ?_, ?_, ?_, ?_, ?_, ?_, ?_, ?_, ?_, trivial⟩ <;> first | exact rfl | kernel_rfl | k_is)
    (case i_NoDeed => refine' ⟨?_, ?_, ?_, ?_, ?_, ?_, ?_, ?_, ?_, ?_, ?_, ?_, ?_, ?_, ?_, ?_, trivial⟩ <;> first | exact rfl | kernel_rfl | k_is)
    (case i_NoNumber => refine' ⟨?_, ?_, ?_, ?_, ?_, ?_, ?_, ?_, ?_, ?_, ?_, ?_, ?_, ?_, ?_, ?_, trivial⟩ <;> first | exact rfl | kernel_rfl | k_is)
    (case i_NoPerson => refine' ⟨?_, ?_, ?_, ?_, ?_, ?_, ?_, ?_, ?_, ?_, ?_, ?_, ?_, ?_, ?_, ?_, trivial⟩ <;> first | exact rfl | kernel_rfl | k_is)
    (case i_NoRoot => refine' ⟨?_, ?_, ?_, ?_, ?_, ?_, ?_, ?_, ?_, ?_, ?_, ?_, ?_, ?_, ?_, ?_, trivial⟩ <;> first | exact rfl | kernel_rfl | k_is)
    (case i_OtherSize => refine' ⟨?_, ?_, ?_, ?_, ?_, ?_, ?_, ?_, ?_, ?_, ?_, ?_, ?_, ?_, ?_, ?_, trivial⟩ <;> first | exact rfl | kernel_rfl | k_is)
    (case i_NotKin => refine' ⟨?_, ?_, ?_, ?_, ?_, ?_, ?_, ?_, ?_, ?_, ?_, ?_, ?_, ?_, ?_, ?_, trivial⟩ <;> first | exact rfl | kernel_rfl | k_is)
    (case i_MissingRoot => refine' ⟨?_, ?_, ?_, ?_, ?_, ?_, ?_, ?_, ?_, ?_, ?_, ?_, ?_, ?_, ?_, ?_, trivial⟩ <;> first | exact rfl | kernel_rfl | k_is)
    (case i_BadText => refine' ⟨?_, ?_, ?_, ?_, ?_, ?_, ?_, ?_, ?_, ?_, ?_, ?_, ?_, ?_, ?_, ?_, trivial⟩ <;> first | exact rfl | kernel_rfl | k_is)
    (case i_BadDeed => refine' ⟨?_, ?_, ?_, ?_, ?_, ?_, ?_, ?_, ?_, ?_, ?_, ?_, ?_, ?_, ?_, ?_, trivial⟩ <;> first | exact rfl | kernel_rfl | k_is)
    (case i_NotPast => refine' ⟨?_, ?_, ?_, ?_, ?_, ?_, ?_, ?_, ?_, ?_, ?_, ?_, ?_, ?_, ?_, ?_, trivial⟩ <;> first | exact rfl | kernel_rfl | k_is)
    (case i_NoCommon => refine' ⟨?_, ?_, ?_, ?_, ?_, ?_, ?_, ?_, ?_, ?_, ?_, ?_, ?_, ?_, ?_, ?_, trivial⟩ <;> first | exact rfl | kernel_rfl | k_is)
    (case i_Unreachable => refine' ⟨?_, ?_, ?_, ?_, ?_, ?_, ?_, ?_, ?_, ?_, ?_, ?_, ?_, ?_, ?_, ?_, trivial⟩ <;> first | exact rfl | kernel_rfl | k_is)
    (case i_BadLine => refine' ⟨?_, ?_, ?_, ?_, ?_, ?_, ?_, ?_, ?_, ?_, ?_, ?_, ?_, ?_, ?_, ?_, trivial⟩ <;> first | exact rfl | kernel_rfl | k_is)
    (case i_TooMany => refine' ⟨?_, ?_, ?_, ?_, ?_, ?_, ?_, ?_, ?_, ?_, ?_, ?_, ?_, ?_, ?_, ?_, trivial⟩ <;> first | exact rfl | kernel_rfl | k_is)
    (case i_IsRoot => refine' ⟨?_, ?_, ?_, ?_, ?_, ?_, ?_, ?_, ?_, ?_, ?_, ?_, ?_, ?_, ?_, ?_, trivial⟩ <;> first | exact rfl | kernel_rfl | k_is)
    (case i_Denied => refine' ⟨?_, ?_, ?_, ?_, ?_, ?_, ?_, ?_, ?_, ?_, ?_, ?_, ?_, ?_, ?_, ?_, trivial⟩ <;> first | exact rfl | kernel_rfl | k_is)
    (case i_KeyError_IndexError => refine' ⟨?_, ?_, ?_, ?_, ?_, ?_, ?_, ?_, ?_, ?_, ?_, ?_, ?_, ?_, ?_, ?_, trivial⟩ <;> first | exact rfl | kernel_rfl | k_is)


