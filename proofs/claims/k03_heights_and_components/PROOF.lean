import PyProof.Rows.All
import Wide.All
import OpenK.AllK
import Wide.FinOn
import HandS.ForMost
import HandS.Walk
import HandS.IsInst
import HandS.Conv
import HandS.Zip
import HandS.Style
import HandS.Flow
import HandS.Codes
import PyProof.ReprRoads
import PyProof.Rows.RegFStrParts
import HandS.TupAny
import HandS.Strs
import HandS.Wide
import HandS.TupSets
import HandS.SortOrd
import HandS.SetBool
import HandS.SetKeys
import HandS.Deep
import PySem.Challenge.RW_lookpast_k03_heights_and_components
set_option Elab.async false
set_option linter.all false
set_option maxRecDepth 100000
set_option maxHeartbeats 4000000
namespace Lp
open PySem PySem.Spec PyProof.Rows L2
def topS (i : Nat) : Stmt := PySem.Challenge.pw_lookpast_k03_heights_and_components.main.body.getD i (.Pass ⟨0, 0, 0, 0⟩)
/-- all but b stand as they stood -/
def Sb (b : Addr) (H H' : Hp) : Prop := ∀ a o, a ≠ b → H a = some o → H' a = some o
theorem Sb.refl (b : Addr) (H : Hp) : Sb b H H := fun _ _ _ h => h
theorem Sb.trans {b : Addr} {H H1 H2 : Hp} (x : Sb b H H1) (y : Sb b H1 H2) : Sb b H H2 := fun a o n h => y a o n (x a o n h)
theorem Sb.upd {b : Addr} {H H1 : Hp} {o : HO} (x : Sb b H H1) : Sb b H (upd H1 b o) := fun a u n h => by
  rw [upd_ne n]; exact x a u n h
theorem Sb.new {b p : Addr} {H : Hp} {o : HO} (h : H p = none) : Sb b H (L2.upd H p o) := fun a u _ e => by
  rw [upd_ne (ne_of_none e h)]; exact e
/-- the drawing box: its three numbers; c: at most so many draws so far -/
def Box (H : Hp) (b : Addr) (c : Nat) : Prop := ∃ x0 x1 x2 : Int, H b = some (.lst [.int x0, .int x1, .int x2]) ∧ 0 ≤ x0 ∧ 0 ≤ x1 ∧ x1 < 4611686018427387904 ∧ 0 ≤ x2 ∧ x2 ≤ (c : Int)
theorem Box.le {H : Hp} {b : Addr} {c d : Nat} (x : Box H b c) (h : c ≤ d) : Box H b d := by
  obtain ⟨x0, x1, x2, e, h0, h1, h2, h3, h4⟩ := x
  exact ⟨x0, x1, x2, e, h0, h1, h2, h3, by omega⟩
theorem Box.there {H : Hp} {b : Addr} {c : Nat} (x : Box H b c) : ∃ xs, H b = some (.lst xs) := by
  obtain ⟨x0, x1, x2, e, _⟩ := x
  exact ⟨_, e⟩
theorem Sb.free {b : Addr} {H H' : Hp} {c : Nat} (x : Sb b H H') (y : Box H' b c) {p : Addr} (h : H' p = none) : H p = none := by
  cases q : H p with
  | none => rfl
  | some o =>
    by_cases n : p = b
    · subst n; obtain ⟨_, e⟩ := y.there; rw [e] at h; cases h
    · rw [x p o n q] at h; cases h
section
variable {P : Program} {w : World} {K : PySem.W.Frag} {mg : Str → Option Value} {base : Heap}
abbrev psT : List Str := ["_law_box_here", "_law_span"]
/-! ### _law_take -/
def spTake : Sp := fun vs H Q _ => ∃ (b : Addr) (span : Int) (c : Nat), vs = [.ref b, .int span] ∧ Box H b c ∧ c ≤ 1000000000 ∧ 1 ≤ span ∧ span ≤ 10000000 ∧
  ∀ H' (r : Int), Sb b H H' → Box H' b (c + 1) → 0 ≤ r → r < span → Q (.int r) H'
abbrev sTake : Stmt := topS 12
theorem scTake : FnScope ["_law_box_here", "_law_span", "_law_found", "_law_once"] ["_law_box_here", "_law_span"] (defScope sTake) := ⟨rfl, rfl, rfl, by decide +kernel, rfl, by decide +kernel, by decide +kernel⟩
theorem ok_take {f : Addr} {fd : FuncData} {k : Nat} (F : Fun K "_law_take" "_law_take" sTake f fd) : FnOk P w K mg base CX0 (k + 1) f fd ["_law_box_here", "_law_span"] spTake := by
  refine F.ok scTake (fun vs H Q E h => ?_) (fun cdv A outer s H vs Q E hr h => ?_)
  · obtain ⟨b, span, c, rfl, _⟩ := h
    rfl
  · obtain ⟨b, span, c, rfl, ⟨x0, x1, x2, hb, h0, h1, h2, h3, h4⟩, hc, hs1, hs2, q⟩ := h
    refine ⟨_, pss_cons (ps_if (pt_cmpR op_gt (pe_ix ix_list (pv 0) pe_int (fun _ _ => rfl)) pe_int (nomark _))
        (pss_cons (ps_set (i := 2) scTake.nd rfl (.inl rfl) (pe_op op_mod (pe_ix ix_list (pv 0) pe_int (fun _ _ => rfl)) (pv 1)))
        (pss_cons (ps_asg (pe_op op_fdiv (pe_ix ix_list (pv 0) pe_int (fun _ _ => rfl)) (pv 1)) (pg_sub (pv 0) pe_int set_list))
        (pss_one (ps_ret (pv 2))))) pss_nil)
      (pss_cons (ps_if (pt_cmpR op_gt (pv 1) (pe_op op_pow pe_int pe_int) (nomark _)) pss_never pss_nil)
      (pss_cons (ps_asg (pe_op op_add (pe_ix ix_list (pv 0) pe_int (fun _ _ => rfl)) pe_int) (pg_sub (pv 0) pe_int set_list))
      (pss_cons (ps_set (i := 3) scTake.nd rfl (.inl rfl) (pe_op op_mod (pe_op op_pow (pe_op op_add (pe_ix ix_list (pv 0) pe_int (fun _ _ => rfl)) (pe_op op_mul pe_int (pe_ix ix_list (pv 0) pe_int (fun _ _ => rfl)))) pe_int) pe_int))
      (pss_one (ps_ret (pe_op op_mod (pe_op op_fdiv (pe_op op_mod (pe_op op_add (pe_op op_mul (pv 3) (pe_op op_add (pe_op op_mod (pv 3) pe_int) pe_int)) (pe_op op_mul (pe_ix ix_list (pv 0) pe_int (fun _ _ => rfl)) pe_int)) pe_int) pe_int) (pv 1))))))), ?_⟩
    have ix : SqL K H b [.int x0, .int x1, .int x2] := SqL.of hb
    refine ⟨.ref b, rfl, b, _, 0, .int x0, rfl, rfl, ix, rfl, x0, 0, rfl, rfl, _, rfl, ite2 (fun e => ?_) (fun e => ?_)⟩
    · have e0 : 0 < x0 := of_decide_eq_true e
      refine ⟨.ref b, rfl, b, _, 0, .int x0, rfl, rfl, ix, rfl, .int span, rfl, x0, span, rfl, rfl, (by show (0 : Int) < span; omega), ?_⟩
      refine ⟨.ref b, rfl, b, _, 0, .int x0, rfl, rfl, ix, rfl, .int span, rfl, x0, span, rfl, rfl, ⟨by omega, by omega⟩, ?_⟩
      refine ⟨.ref b, rfl, b, _, 0, 0, rfl, rfl, hb, rfl, ?_⟩
      refine ⟨.int (x0 % span), rfl, q _ _ (Sb.upd (Sb.refl b H)) ⟨x0 / span, x1, x2, upd_same, ?_, h1, h2, h3, by omega⟩ (Int.emod_nonneg _ (by omega)) (Int.emod_lt_of_pos _ (by omega))⟩
      exact Int.ediv_nonneg h0 (by omega)
    · refine ⟨.int span, rfl, 10, 7, rfl, rfl, ⟨by decide, by decide, by decide⟩, span, _, rfl, rfl, _, rfl, ?_⟩
      have e1 : ¬ ((10 : Int) ^ (7 : Int).toNat < span) := by
        show ¬ ((10000000 : Int) < span)
        omega
      rw [decide_eq_false e1]
      refine iteF ?_
      refine ⟨.ref b, rfl, b, _, 2, .int x2, rfl, rfl, ix, rfl, x2, 1, rfl, rfl, ?_⟩
      refine ⟨.ref b, rfl, b, _, 2, 2, rfl, rfl, hb, rfl, ?_⟩
      have ix2 : SqL K (upd H b (.lst [.int x0, .int x1, .int (x2 + 1)])) b [.int x0, .int x1, .int (x2 + 1)] := SqL.of upd_same
      refine ⟨.ref b, rfl, b, _, 1, .int x1, rfl, rfl, ix2, rfl, .ref b, rfl, b, _, 2, .int (x2 + 1), rfl, rfl, ix2, rfl, 39373, x2 + 1, rfl, rfl, .inl ⟨by decide, by decide⟩, x1, _, rfl, rfl, _, 5, rfl, rfl, ⟨by decide, by decide, by omega⟩, _, 2147483647, rfl, rfl, (by show (0 : Int) < 2147483647; decide), ?_⟩
      dsimp only
      generalize hg : (x1 + 39373 * (x2 + 1)) ^ (5 : Int).toNat % 2147483647 = once
      have o1 : 0 ≤ once := by rw [← hg]; exact Int.emod_nonneg _ (by decide)
      have o2 : once < 2147483647 := by rw [← hg]; exact Int.emod_lt_of_pos _ (by decide)
      refine ⟨.int once, rfl, .int once, rfl, once, 40009, rfl, rfl, (by show (0 : Int) < 40009; decide), _, 7, rfl, rfl, once, _, rfl, rfl, .inl ⟨by omega, by omega⟩, .ref b, rfl, b, _, 2, .int (x2 + 1), rfl, rfl, ix2, rfl, x2 + 1, 7919, rfl, rfl, .inl ⟨by omega, by omega⟩, _, _, rfl, rfl, _, 2147483629, rfl, rfl, (by show (0 : Int) < 2147483629; decide), _, 64, rfl, rfl, ⟨by decide, by decide⟩, .int span, rfl, _, span, rfl, rfl, (by show (0 : Int) < span; omega), ?_⟩
      exact q _ _ (Sb.upd (Sb.refl b H)) ⟨x0, x1, x2 + 1, upd_same, h0, h1, h2, by omega, by omega⟩ (Int.emod_nonneg _ (by omega)) (Int.emod_lt_of_pos _ (by omega))
end
end Lp

namespace Lp
open PySem PySem.Spec PyProof.Rows L2
/-! ### ints as data -/
abbrev IL (ns : List Int) : List V := ns.map V.int
abbrev dI (ns : List Int) : List PyData := ns.map PyData.int
theorem dp_ints {K : PySem.W.Frag} {H : Hp} : ∀ ns : List Int, DpAll K H (IL ns) (dI ns)
  | [] => .nil
  | x :: r => .cons (.int x) (dp_ints r)
theorem lay_ints : ∀ ns : List Int, PyData.canLayAll0 (dI ns) = true
  | [] => by simp [PyData.canLayAll0]
  | x :: r => by
    have := lay_ints r
    simp only [List.map_cons, PyData.canLayAll0, PyData.canLay0, this, Bool.and_self]
theorem depth_ints : ∀ ns : List Int, PyData.depthAll (dI ns) = 0
  | [] => by simp [PyData.depthAll]
  | x :: r => by
    have := depth_ints r
    simp only [List.map_cons, PyData.depthAll, PyData.depth, this]
    rfl
theorem shL (ns : List Int) : SeqAt.shaped (.list (dI ns)) = true := by
  unfold SeqAt.shaped
  simp only [PyData.canLay0, PyData.depth, lay_ints, depth_ints]
  decide
theorem shT (ns : List Int) : SeqAt.shaped (.tuple (dI ns)) = true := by
  unfold SeqAt.shaped
  simp only [PyData.canLay0, PyData.depth, lay_ints, depth_ints]
  decide
theorem eqv_ints : ∀ a b : List Int, PyData.eqvAll (dI a) (dI b) = decide (a = b)
  | [], [] => by simp [PyData.eqvAll]
  | [], _ :: _ => by simp [PyData.eqvAll]
  | _ :: _, [] => by simp [PyData.eqvAll]
  | x :: r, y :: t => by
    have ih := eqv_ints r t
    simp only [List.map_cons, PyData.eqvAll, PyData.eqv, ih]
    by_cases h : x = y
    · subst h
      by_cases h2 : r = t
      · subst h2; simp
      · simp [h2]
    · simp [h]
theorem eqvL (a b : List Int) : PyData.eqv (.list (dI a)) (.list (dI b)) = decide (a = b) := by
  simp only [PyData.eqv]; exact eqv_ints a b
theorem eqvT (a b : List Int) : PyData.eqv (.tuple (dI a)) (.tuple (dI b)) = decide (a = b) := by
  simp only [PyData.eqv]; exact eqv_ints a b
theorem sz {n : Nat} (h : n ≤ 100000) : n ≤ sizeLine := Nat.le_trans h (by decide)
theorem szl {n : Nat} (h : n < 100000) : n < sizeLine := Nat.lt_of_lt_of_le h (by decide)
theorem IL_get {ns : List Int} {i : Nat} {z : Int} (h : ns[i]? = some z) : (IL ns)[i]? = some (.int z) := by
  rw [List.getElem?_map, h]; rfl
theorem IL_set (ns : List Int) (i : Nat) (z : Int) : (IL ns).set i (.int z) = IL (ns.set i z) := by
  show (ns.map V.int).set i (V.int z) = (ns.set i z).map V.int
  rw [List.map_set]
theorem IL_app (ns : List Int) (z : Int) : (IL ns) ++ [.int z] = IL (ns ++ [z]) := by
  show ns.map V.int ++ [V.int z] = (ns ++ [z]).map V.int
  rw [List.map_append]; rfl
theorem at_lt {ns : List Int} {i : Int} (h0 : 0 ≤ i) (h1 : i < (ns.length : Int)) : ∃ z, ns[i.toNat]? = some z ∧ z ∈ ns ∧ atI (IL ns) i = some (.int z) := by
  have hl : i.toNat < ns.length := by omega
  refine ⟨ns[i.toNat], List.getElem?_eq_getElem hl, List.getElem_mem hl, ?_⟩
  exact at_of (j := i.toNat) (by omega) (IL_get (List.getElem?_eq_getElem hl))
theorem ix_ok {n : Nat} {i : Int} (h0 : 0 ≤ i) (h1 : i < (n : Int)) : ixN n i = some i.toNat := by
  unfold ixN; rw [if_pos h0, if_pos h1]
theorem IL_at {es : List Int} {i : Nat} {x : V} (h : (IL es)[i]? = some x) (hi : i < es.length) : x = .int es[i] := by
  rw [IL_get (List.getElem?_eq_getElem hi)] at h
  exact (Option.some.inj h).symm
theorem at_last {α : Type} {xs : List α} {i : Nat} {v : α} (h : xs.length = i + 1) (e : xs[i]? = some v) : atI xs (-1) = some v := by
  unfold atI ixN
  rw [if_neg (by decide), if_pos (by omega), h]
  show xs[((-1 : Int) + ((i + 1 : Nat) : Int)).toNat]? = some v
  rw [show ((-1 : Int) + ((i + 1 : Nat) : Int)).toNat = i by omega]; exact e
/-- all ints of ns lie in 0 .. n - 1 -/
def Low (n : Nat) (ns : List Int) : Prop := ∀ z ∈ ns, 0 ≤ z ∧ z < (n : Int)
theorem Low.app {n : Nat} {fs : List Int} {z : Int} (h : Low n fs) (h0 : 0 ≤ z) (h1 : z < (n : Int)) : Low n (fs ++ [z]) := fun y hy => by
  rcases List.mem_append.mp hy with h2 | h2
  · exact h y h2
  · rw [List.mem_singleton] at h2
    subst h2; exact ⟨h0, h1⟩
theorem Same.sb {b : Addr} {H H' : Hp} (h : Same H H') : Sb b H H' := fun a o _ e => h a o e
theorem same_new {H : Hp} {p : Addr} {o : HO} (h : H p = none) : Same H (upd H p o) := fun a u e => by
  rw [upd_ne (ne_of_none e h)]; exact e
theorem same_mut {H H' : Hp} {p : Addr} {o : HO} (s : Same H H') (h : H p = none) : Same H (upd H' p o) := fun a u e => by
  rw [upd_ne (ne_of_none e h)]; exact s a u e
/-- the module's names that are the built-ins' -/
structure Bi (mg : Str → Option Value) : Prop where
  len : mg "len" = none
  list : mg "list" = none
  tuple : mg "tuple" = none
  range : mg "range" = none
  enumerate : mg "enumerate" = none
  all : mg "all" = none
  isinstance : mg "isinstance" = none
  zip : mg "zip" = none
  abs : mg "abs" = none
  int : mg "int" = none
  str : mg "str" = none
  bool : mg "bool" = none
  repr : mg "repr" = none
  set : mg "set" = none
  min : mg "min" = none
  max : mg "max" = none
  sorted : mg "sorted" = none
  sum : mg "sum" = none
/-! the rules that speak of K, with K named (for use within comprehensions) -/
theorem len_K {X : Cx} {K : PySem.W.Frag} (e : X.K = K) : CallR X (.builtin "len") (fun xs H Q => ∃ p ys, xs = [.ref p] ∧ (SqL K H p ys ∨ SqT K H p ys) ∧ Q (.int ys.length) H) := e ▸ call_len_seq
theorem ixl_K {X : Cx} {K : PySem.W.Frag} (e : X.K = K) : IxR X (rIxL K) := e ▸ ix_list
theorem ixt_K {X : Cx} {K : PySem.W.Frag} (e : X.K = K) : IxR X (rIxT K) := e ▸ ix_tup
theorem eqD_K {X : Cx} {K : PySem.W.Frag} (e : X.K = K) (hu : X.A.units + 64 < cLine) : OpR X (compareOp .Eq) (rEqD K) := e ▸ op_eqD hu
theorem notIn_K {X : Cx} {K : PySem.W.Frag} (e : X.K = K) : OpR X (compareOp .NotIn) (rIn K true) := e ▸ op_notIn_seq
theorem isi_K {X : Cx} {K : PySem.W.Frag} (e : X.K = K) : CallR X (.builtin "isinstance") (rIsi K) := e ▸ call_isi
theorem pgtup_K {X : Cx} {K : PySem.W.Frag} {es : List Expr} {k : Nat} {t : TGs} {n : Nat} {pos : Pos} (e : X.K = K) (h : PG X (.Tuple es k pos) (gTup X.K n t)) : PG X (.Tuple es k pos) (gTup K n t) := e ▸ h
/-- a def that may be called -/
structure Cal (P : Program) (w : World) (K : PySem.W.Frag) (mg : Str → Option Value) (base : Heap) (x : Str) (k : Nat) (ps : List Str) (sp : Sp) (f : Addr) (fd : FuncData) : Prop where
  ok : FnOk P w K mg base CX0 k f fd ps sp
  g : mg x = some (.ref f)
  kp : PySem.W.keepIn K (.ref f) = true
  bd : Binds K fd ps []
section
variable {P : Program} {w : World} {K : PySem.W.Frag} {mg : Str → Option Value} {base : Heap}
theorem fn_or {k : Nat} {f : Addr} {fd : FuncData} {ps : List Str} {s1 s2 : Sp} (F1 : FnOk P w K mg base CX0 k f fd ps s1) (F2 : FnOk P w K mg base CX0 k f fd ps s2) : FnOk P w K mg base CX0 k f fd ps (fun vs H Q E => s1 vs H Q E ∨ s2 vs H Q E) :=
  ⟨fun vs H Q E h => h.elim (F1.len vs H Q E) (F2.len vs H Q E), fun A outer s H args us vs Q E hr he hb hv hs => hs.elim (F1.run A outer s H args us vs Q E hr he hb hv) (F2.run A outer s H args us vs Q E hr he hb hv)⟩
/-! ### _law_box -/
abbrev sBox : Stmt := topS 11
theorem scBox : FnScope ["_law_script", "_law_k", "_law_cell"] ["_law_script", "_law_k"] (defScope sBox) := ⟨rfl, rfl, rfl, by decide +kernel, rfl, by decide +kernel, by decide +kernel⟩
def spBox (K : PySem.W.Frag) : Sp := fun vs H Q _ => ∃ (a : Addr) (k : Int) (ns : List Int), vs = [.ref a, .int k] ∧ SqL K H a (IL ns) ∧ 0 ≤ k ∧ k ≤ 62 ∧
  ∀ H' p, Same H H' → H p = none → Box H' p 0 → Q (.ref p) H'
theorem ok_box {f : Addr} {fd : FuncData} {k : Nat} (F : Fun K "_law_box" "_law_box" sBox f fd) (B : Bi mg) : FnOk P w K mg base CX0 (k + 1) f fd ["_law_script", "_law_k"] (spBox K) := by
  refine F.ok scBox (fun vs H Q E h => ?_) (fun cdv A outer s H vs Q E hr h => ?_)
  · obtain ⟨a, k, ns, rfl, _⟩ := h
    rfl
  · obtain ⟨a, k, ns, rfl, hS, h0, h1, q⟩ := h
    refine ⟨_, pss_cons (ps_set (i := 2) scBox.nd rfl (.inl rfl) (pe_ifExp (pt_cmpR op_lt (pv 1) (pe_callB call_len_seq (by rfl) B.len PySem.boot_len (pa_cons (pv 0) pa_nil)) (nomark _)) (pe_ix ix_list (pv 0) (pv 1) (fun _ _ => rfl)) pe_int))
      (pss_one (ps_ret (pe_lst (pa_cons (pe_op op_mul (pe_callB call_abs (by rfl) B.abs (by decide +kernel) (pa_cons (pv 2) pa_nil)) (pe_callTy call_int1 (by rfl) B.int (by decide +kernel) (pa_cons (pe_cmpR op_ge (pe_callB call_abs (by rfl) B.abs (by decide +kernel) (pa_cons (pv 2) pa_nil)) (pe_op op_pow pe_int pe_int) (nomark _)) pa_nil)))
        (pa_cons (pe_op op_add (pe_op op_add (pe_op op_mod (pv 2) pe_int) (pe_op op_mul pe_int (pv 1))) pe_int) (pa_cons pe_int pa_nil)))))), ?_⟩
    have fin : ∀ z : Int, tRet (tLst (tCons (tOp (rI CMul fun i j => .int (i * j)) (tCB (fun xs H Q => ∃ i, xs = [.int i] ∧ Q (.int (if i < 0 then -i else i)) H) (tCons (tVar 2) tNil)) (tCB (fun xs H Q => (∃ i, xs = [.int i] ∧ Q (.int i) H) ∨ ∃ k, xs = [.bl k] ∧ Q (.int (if k then 1 else 0)) H) (tCons (tOp (rI0 fun i j => .bl (decide (j ≤ i))) (tCB (fun xs H Q => ∃ i, xs = [.int i] ∧ Q (.int (if i < 0 then -i else i)) H) (tCons (tVar 2) tNil)) (tOp (rI CPow fun i j => .int (i ^ j.toNat)) (tC (.int 10)) (tC (.int 18)))) tNil)))
        (tCons (tOp (rI0 fun i j => .int (i + j)) (tOp (rI0 fun i j => .int (i + j)) (tOp (rI (fun _ j => 0 < j) fun i j => .int (i % j)) (tVar 2) (tC (.int 2305843009213693951))) (tOp (rI CMul fun i j => .int (i * j)) (tC (.int 7919)) (tVar 1))) (tC (.int 23))) (tCons (tC (.int 0)) tNil)))) { nx := fun _ H' => Q .non H', rt := Q } [some (.ref a), some (.int k), some (.int z)] H := by
      intro z
      refine ⟨.int z, rfl, z, rfl, .int z, rfl, z, rfl, 10, 18, rfl, rfl, ⟨by decide, by decide, by decide⟩, _, _, rfl, rfl, .inr ⟨_, rfl, _, _, rfl, rfl, .inr ?_, ?_⟩⟩
      · split <;> (split <;> exact ⟨by decide, by decide⟩)
      · refine ⟨.int z, rfl, z, _, rfl, rfl, (by show (0 : Int) < 2305843009213693951; decide), .int k, rfl, 7919, k, rfl, rfl, .inl ⟨by decide, by decide⟩, _, _, rfl, rfl, _, 23, rfl, rfl, (by show 3 ≤ sizeLine; decide), fun p hp => ?_⟩
        refine q _ p (same_new hp) hp ⟨_, _, _, upd_same, ?_, ?_, ?_, by decide, by decide⟩
        · have h1 : (0 : Int) ≤ (if z < 0 then -z else z) := by split <;> omega
          refine Int.mul_nonneg h1 ?_
          split <;> (split <;> decide)
        · have := Int.emod_nonneg z (show (2305843009213693951 : Int) ≠ 0 by decide)
          omega
        · have := Int.emod_lt_of_pos z (show (0 : Int) < 2305843009213693951 by decide)
          omega
    refine ⟨.int k, rfl, .ref a, rfl, a, _, rfl, .inl hS, k, _, rfl, rfl, _, rfl, ite2 (fun e => ?_) (fun e => ?_)⟩
    · have e1 : k < ((IL ns).length : Int) := of_decide_eq_true e
      rw [List.length_map] at e1
      obtain ⟨z, _, _, hz⟩ := at_lt h0 e1
      refine ⟨.ref a, rfl, .int k, rfl, a, _, k, .int z, rfl, rfl, hS, hz, ?_⟩
      exact fin z
    · exact fin 0
/-! ### _law_of -/
abbrev sOf : Stmt := topS 14
theorem scOf : FnScope ["_law_box_here", "_law_some"] ["_law_box_here", "_law_some"] (defScope sOf) := ⟨rfl, rfl, rfl, by decide +kernel, rfl, by decide +kernel, by decide +kernel⟩
def spOf : Sp := fun vs H Q _ => ∃ (b a : Addr) (c : Nat) (xs : List V), vs = [.ref b, .ref a] ∧ a ≠ b ∧ H a = some (.lst xs) ∧ 1 ≤ xs.length ∧ xs.length ≤ 1000 ∧ Box H b c ∧ c ≤ 1000000000 ∧
  ∀ H' (j : Nat) (v : V), Sb b H H' → Box H' b (c + 1) → xs[j]? = some v → Q v H'
theorem ok_of {f fT : Addr} {fd fdT : FuncData} {k : Nat} (F : Fun K "_law_of" "_law_of" sOf f fd) (B : Bi mg) (T : Cal P w K mg base "_law_take" (k + 1) psT spTake fT fdT) : FnOk P w K mg base CX0 (k + 2) f fd ["_law_box_here", "_law_some"] spOf := by
  refine F.ok scOf (fun vs H Q E h => ?_) (fun cdv A outer s H vs Q E hr h => ?_)
  · obtain ⟨b, a, c, xs, rfl, _⟩ := h
    rfl
  · obtain ⟨b, a, c, xs, rfl, ne, ha, l1, l2, hB, hc, q⟩ := h
    refine ⟨_, pss_one (ps_ret (pe_ix ix_list (pv 1) (pe_call T.ok hr (by rfl) T.g T.kp T.bd .nil pass0 (pa_cons (pv 0) (pa_cons (pe_callB call_len_seq (by rfl) B.len PySem.boot_len (pa_cons (pv 1) pa_nil)) pa_nil))) (fun _ _ => rfl))), ?_⟩
    refine ⟨.ref a, rfl, .ref b, rfl, .ref a, rfl, a, xs, rfl, .inl (SqL.of ha), b, _, c, rfl, hB, hc, by omega, by omega, fun H' r sb hB' r0 r1 => ?_⟩
    have ha' : H' a = some (.lst xs) := sb a _ ne ha
    have hl : r.toNat < xs.length := by omega
    have g : xs[r.toNat]? = some xs[r.toNat] := List.getElem?_eq_getElem hl
    exact ⟨a, xs, r, _, rfl, rfl, SqL.of ha', at_of (j := r.toNat) (by omega) g, q H' r.toNat _ sb hB' g⟩
end
end Lp

namespace Lp
open PySem PySem.Spec PyProof.Rows L2
theorem cut_IL (ns : List Int) (lo hi : Option Int) : cutV (IL ns) lo hi = IL ((ns.drop (HT.sIx ns.length 0 lo)).take (HT.sIx ns.length ns.length hi - HT.sIx ns.length 0 lo)) := by
  unfold cutV
  show ((ns.map V.int).drop (HT.sIx (ns.map V.int).length 0 lo)).take (HT.sIx (ns.map V.int).length (ns.map V.int).length hi - HT.sIx (ns.map V.int).length 0 lo) = List.map V.int _
  rw [List.length_map, List.map_take, List.map_drop]
theorem sIx_int (n d : Nat) (k : Int) (h : 0 ≤ k) : HT.sIx n d (some k) = min k.toNat n := by
  have e : k = ((k.toNat : Nat) : Int) := by omega
  rw [e]; rw [HT.sIx_nat]; congr 1
section
variable {P : Program} {w : World} {K : PySem.W.Frag} {mg : Str → Option Value} {base : Heap}
/-! ### _law_cells -/
abbrev sCells : Stmt := topS 13
theorem scCells : FnScope ["_law_script", "_law_most", "_law_cells_here", "_law_k", "_law_cell"] ["_law_script", "_law_most"] (defScope sCells) := ⟨rfl, rfl, rfl, by decide +kernel, rfl, by decide +kernel, by decide +kernel⟩
def spCells (K : PySem.W.Frag) : Sp := fun vs H Q _ => ∃ (a : Addr) (m : Int) (ns : List Int), vs = [.ref a, .int m] ∧ SqL K H a (IL ns) ∧ 1 ≤ m ∧ m ≤ 60 ∧
  ∀ H' p (ms : List Int), Same H H' → H p = none → H' p = some (.lst (IL ms)) → 1 ≤ ms.length → (ms.length : Int) ≤ m → Q (.ref p) H'
theorem ok_cells {f : Addr} {fd : FuncData} {k : Nat} (F : Fun K "_law_cells" "_law_cells" sCells f fd) (B : Bi mg) : FnOk P w K mg base CX0 (k + 1) f fd ["_law_script", "_law_most"] (spCells K) := by
  refine F.ok scCells (fun vs H Q E h => ?_) (fun cdv A outer s H vs Q E hr h => ?_)
  · obtain ⟨a, m, ns, rfl, _⟩ := h
    rfl
  · obtain ⟨a, m, ns, rfl, hS, m1, m2, q⟩ := h
    refine ⟨_, pss_cons (ps_set (i := 2) scCells.nd rfl (.inl rfl) (pe_callTy call_list_of (by rfl) B.list (by decide +kernel) (pa_cons (pe_slice sl_list (pv 0) po_none (po_some (pv 1))) pa_nil)))
      (pss_cons (ps_for PassesOwn.never rfl (pi_enum (by rfl) B.enumerate (pa_cons (pe_slice sl_list (pv 0) (po_some (pv 1)) (po_some pe_int)) pa_nil))
          (pg_tup rfl (pgs_cons (pg_name (i := 3) scCells.nd rfl (.inl rfl)) (pgs_cons (pg_name (i := 4) scCells.nd rfl (.inl rfl)) pgs_nil)))
        (pss_one (ps_asg (pe_op op_add (pe_ix ix_list (pv 2) (pe_op op_mod (pv 3) (pv 1)) (fun _ _ => rfl)) (pe_op op_mul (pv 4) (pe_op op_add (pv 3) pe_int))) (pg_sub (pv 2) (pe_op op_mod (pv 3) (pv 1)) set_list))))
      (pss_one (ps_ret (pe_ifExp (pt_cmpR (op_neD hr.units) (pv 2) (pe_lst pa_nil) (nomark _)) (pv 2) (pe_lst (pa_cons pe_int pa_nil)))))), ?_⟩
    refine ⟨.ref a, rfl, .int m, rfl, m, rfl, a, _, rfl, hS, fun c nc => ?_⟩
    rw [cut_IL]
    refine ⟨c, _, rfl, .inl (SqL.of upd_same), fun o no => ?_⟩
    have s1 := same_new (o := HO.lst (IL ((ns.drop (HT.sIx ns.length 0 none)).take (HT.sIx ns.length ns.length (some m) - HT.sIx ns.length 0 none)))) nc
    have s2 := s1.trans (same_new (o := HO.lst (IL ((ns.drop (HT.sIx ns.length 0 none)).take (HT.sIx ns.length ns.length (some m) - HT.sIx ns.length 0 none)))) no)
    have n0 : H o = none := s1.free no
    refine ⟨.ref a, rfl, .int m, rfl, m, rfl, 63, rfl, a, _, rfl, s2.seq hS, fun e ne => ?_⟩
    rw [cut_IL]
    generalize hms : (ns.drop (HT.sIx ns.length 0 none)).take (HT.sIx ns.length ns.length (some m) - HT.sIx ns.length 0 none) = ms0
    generalize hes : (ns.drop (HT.sIx ns.length 0 (some m))).take (HT.sIx ns.length ns.length (some 63) - HT.sIx ns.length 0 (some m)) = es
    have hl0 : ms0.length = min m.toNat ns.length := by
      rw [← hms, List.length_take, List.length_drop, HT.sIx_none, sIx_int _ _ _ (by omega)]
      omega
    have hle : 0 < es.length → m.toNat < ns.length := by
      rw [← hes, List.length_take, List.length_drop, sIx_int _ _ m (by omega), sIx_int _ _ 63 (by omega)]
      omega
    have nee : o ≠ e := fun z => by
      rw [← z, upd_same] at ne
      cases ne
    have s3 := s2.trans (same_new (o := HO.lst (IL es)) ne)
    rw [hms] at s3
    refine ⟨e, _, rfl, SqL.of upd_same, ?_⟩
    refine for_it (walk_enum (K := K) (a := e) (xs := IL es)) (fun _ σ H3 => ∃ y3 y4 ms, σ = [some (.ref a), some (.int m), some (.ref o), y3, y4] ∧ Same H H3 ∧ H3 e = some (.lst (IL es)) ∧ H3 o = some (.lst (IL ms)) ∧ ms.length = min m.toNat ns.length) ?_ ?_ ?_ ?_
    · refine ⟨none, none, ms0, rfl, s3, upd_same, ?_, hl0⟩
      rw [upd_ne nee, upd_same]
    · rintro i σ H3 _ ⟨y3, y4, ms, rfl, _, he, _⟩
      exact SqL.of he
    · rintro i x σ H3 H4 hi ⟨y3, y4, ms, rfl, sm, he, ho, hl⟩ ⟨T, x1, x2, rfl, nT, rfl, hx1, hx2⟩
      cases hx1
      have hi' : i < es.length := by rw [List.length_map] at hi; exact hi
      have hx2' : x2 = .int es[i] := IL_at hx2 hi'
      subst hx2'
      have hml : (ms.length : Int) = m := by have := hle (by omega); omega
      have ho' : (upd H3 T (.tup [.int (i : Nat), .int es[i]])) o = some (.lst (IL ms)) := by rw [upd_ne (ne_of_none ho nT)]; exact ho
      have r0 : 0 ≤ (i : Int) % m := Int.emod_nonneg _ (by omega)
      have r1 : (i : Int) % m < (ms.length : Int) := by rw [hml]; exact Int.emod_lt_of_pos _ (by omega)
      obtain ⟨z, _, _, hz⟩ := at_lt r0 r1
      refine ⟨T, _, rfl, SqT.of upd_same, rfl, _, _, rfl, _, _, rfl, rfl, ?_⟩
      refine ⟨.ref o, rfl, .int i, rfl, .int m, rfl, i, m, rfl, rfl, (by show (0 : Int) < m; omega), o, _, _, .int z, rfl, rfl, SqL.of ho', hz, .int es[i], rfl, .int i, rfl, i, 2, rfl, rfl, es[i], _, rfl, rfl, .inr ⟨by omega, ?_⟩, z, _, rfl, rfl, ?_⟩
      · show (i : Int) + 2 < 2 ^ 64
        have : (es.length : Int) ≤ 63 := by
          have : es.length ≤ 63 := by rw [← hes, List.length_take, List.length_drop, sIx_int _ _ m (by omega), sIx_int _ _ 63 (by omega)]; omega
          omega
        omega
      · refine ⟨.ref o, rfl, .int i, rfl, .int m, rfl, i, m, rfl, rfl, (by show (0 : Int) < m; omega), o, _, _, ((i : Int) % m).toNat, rfl, rfl, ho', ?_, ?_⟩
        · rw [List.length_map]; exact ix_ok r0 r1
        · rw [IL_set]
          refine ⟨_, _, _, rfl, ?_, ?_, upd_same, ?_⟩
          · exact same_mut (sm.trans (same_new nT)) n0
          · rw [upd_ne (Ne.symm nee), upd_ne (ne_of_none he nT)]; exact he
          · rw [List.length_set]; exact hl
    · rintro σ H3 ⟨y3, y4, ms, rfl, sm, he, ho, hl⟩
      refine ⟨.ref o, rfl, Nat.zero_le _, fun z nz => ?_⟩
      have ho2 : (upd H3 z (.lst [])) o = some (.lst (IL ms)) := by rw [upd_ne (ne_of_none ho nz)]; exact ho
      refine ⟨.list (dI ms), .list (dI []), .lst (SqL.of ho2) (dp_ints ms), .lst (SqL.of upd_same) (dp_ints []), shL ms, shL [], _, rfl, ?_⟩
      rw [eqvL]
      cases ms with
      | nil =>
        refine iteF ⟨by show 1 ≤ sizeLine; decide, fun p np => ?_⟩
        refine q _ p [0] ?_ ?_ upd_same (by decide) (by show (1 : Int) ≤ m; omega)
        · exact (sm.trans (same_new nz)).trans (same_new np)
        · exact (sm.trans (same_new nz)).free np
      | cons x r =>
        refine iteT ⟨.ref o, rfl, q _ o (x :: r) (sm.trans (same_new nz)) n0 ho2 ?_ ?_⟩
        · show 1 ≤ r.length + 1; omega
        · omega
end
end Lp

namespace Lp
open PySem PySem.Spec PyProof.Rows L2
theorem erase_IL : ∀ (ns : List Int) (i : Nat), (IL ns).eraseIdx i = IL (ns.eraseIdx i)
  | [], _ => rfl
  | _ :: _, 0 => rfl
  | x :: r, i + 1 => by
    show V.int x :: (IL r).eraseIdx i = V.int x :: IL (r.eraseIdx i)
    rw [erase_IL r i]
section
variable {P : Program} {w : World} {K : PySem.W.Frag} {mg : Str → Option Value} {base : Heap}
/-! ### _law_strewn -/
abbrev sStrewn : Stmt := topS 15
theorem scStrewn : FnScope ["_law_box_here", "_law_some", "_law_left", "_law_found"] ["_law_box_here", "_law_some"] (defScope sStrewn) := ⟨rfl, rfl, rfl, by decide +kernel, rfl, by decide +kernel, by decide +kernel⟩
def spStrewn : Sp := fun vs H Q _ => ∃ (b a : Addr) (c : Nat) (ns : List Int), vs = [.ref b, .ref a] ∧ a ≠ b ∧ H a = some (.lst (IL ns)) ∧ ns.length ≤ 1000 ∧ Box H b c ∧ c + 1000 ≤ 1000000000 ∧
  ∀ H' p (ms : List Int), Sb b H H' → H p = none → H' p = some (.lst (IL ms)) → ms.length = ns.length → (∀ z ∈ ms, z ∈ ns) → Box H' b (c + 1000) → Q (.ref p) H'
theorem ok_strewn {f fT : Addr} {fd fdT : FuncData} {k : Nat} (F : Fun K "_law_strewn" "_law_strewn" sStrewn f fd) (B : Bi mg) (T : Cal P w K mg base "_law_take" (k + 1) psT spTake fT fdT) : FnOk P w K mg base CX0 (k + 2) f fd ["_law_box_here", "_law_some"] spStrewn := by
  refine F.ok scStrewn (fun vs H Q E h => ?_) (fun cdv A outer s H vs Q E hr h => ?_)
  · obtain ⟨b, a, c, ns, rfl, _⟩ := h
    rfl
  · obtain ⟨b, a, c, ns, rfl, ne, ha, hl, hB, hc, q⟩ := h
    refine ⟨_, pss_cons (ps_par (i := 2) (j := 3) (by rfl) scStrewn.nd rfl rfl (by decide) rfl rfl (pa_cons (pe_callTy call_list_of (by rfl) B.list (by decide +kernel) (pa_cons (pv 1) pa_nil)) (pa_cons (pe_lst pa_nil) pa_nil)) (by rfl))
      (pss_cons (ps_while PassesOwn.never (pt_cmpR (op_neD hr.units) (pv 2) (pe_lst pa_nil) (nomark _))
        (pss_one (ps_expr (pe_bm PySem.F.plainAttrs_list PySem.F.slot_list_append PySem.F.type_list_append mt_append (pv 3) (pa_cons (pe_bm PySem.F.plainAttrs_list PySem.F.slot_list_pop PySem.F.type_list_pop mt_popAt (pv 2) (pa_cons (pe_call T.ok hr (by rfl) T.g T.kp T.bd .nil pass0 (pa_cons (pv 0) (pa_cons (pe_callB call_len_seq (by rfl) B.len PySem.boot_len (pa_cons (pv 2) pa_nil)) pa_nil))) pa_nil)) pa_nil)))))
      (pss_one (ps_ret (pv 3)))), ?_⟩
    refine ⟨.ref a, rfl, a, IL ns, rfl, .inl (SqL.of ha), fun l nl => ⟨Nat.zero_le _, fun o no => ⟨.ref l, .ref o, rfl, ?_⟩⟩⟩
    obtain ⟨bx, hb⟩ := hB.there
    have lb : b ≠ l := ne_of_none hb nl
    have n0 : H o = none := (same_new nl).free no
    have ob : b ≠ o := ne_of_none hb n0
    have lo : l ≠ o := fun z => by
      rw [← z, upd_same] at no
      cases no
    have sB : Sb b H (upd (upd H l (.lst (IL ns))) o (.lst [])) := Same.sb ((same_new nl).trans (same_new no))
    refine ⟨fun m σ H3 => ∃ ls fs, σ = [some (.ref b), some (.ref a), some (.ref l), some (.ref o)] ∧ Sb b H H3 ∧ H3 l = some (.lst (IL ls)) ∧ H3 o = some (.lst (IL fs)) ∧ ls.length = m ∧ ls.length + fs.length = ns.length ∧ (∀ z ∈ ls, z ∈ ns) ∧ (∀ z ∈ fs, z ∈ ns) ∧ Box H3 b (c + fs.length), ⟨ns.length, ns, [], rfl, sB, ?_, ?_, rfl, by simp, fun z h => h, (fun z h => nomatch h), ?_⟩, ?_⟩
    · rw [upd_ne lo, upd_same]
    · rw [upd_same]; rfl
    · obtain ⟨x0, x1, x2, e, r⟩ := hB
      refine ⟨x0, x1, x2, ?_, r⟩
      rw [upd_ne ob, upd_ne lb]; exact e
    · rintro m σ H3 ⟨ls, fs, rfl, sb, hl3, ho3, em, el, hls, hfs, hB3⟩
      refine ⟨.ref l, rfl, Nat.zero_le _, fun z nz => ?_⟩
      have hl4 : (upd H3 z (.lst [])) l = some (.lst (IL ls)) := by rw [upd_ne (ne_of_none hl3 nz)]; exact hl3
      have ho4 : (upd H3 z (.lst [])) o = some (.lst (IL fs)) := by rw [upd_ne (ne_of_none ho3 nz)]; exact ho3
      have hB4 : Box (upd H3 z (.lst [])) b (c + fs.length) := by
        obtain ⟨x0, x1, x2, e, r⟩ := hB3
        refine ⟨x0, x1, x2, ?_, r⟩
        rw [upd_ne (ne_of_none e nz)]; exact e
      have sb4 : Sb b H (upd H3 z (.lst [])) := sb.trans (Sb.new nz)
      refine ⟨.list (dI ls), .list (dI []), .lst (SqL.of hl4) (dp_ints ls), .lst (SqL.of upd_same) (dp_ints []), shL ls, shL [], _, rfl, ?_⟩
      rw [eqvL]
      rcases ls with _ | ⟨x, r⟩
      · refine iteF ⟨.ref o, rfl, q _ o fs sb4 n0 ho4 (by simpa using el) hfs (hB4.le (by simp at el; omega))⟩
      · refine iteT ⟨fun σ' H' => ∃ ls fs, σ' = [some (.ref b), some (.ref a), some (.ref l), some (.ref o)] ∧ Sb b H H' ∧ H' l = some (.lst (IL ls)) ∧ H' o = some (.lst (IL fs)) ∧ ls.length + 1 = m ∧ ls.length + fs.length = ns.length ∧ (∀ z ∈ ls, z ∈ ns) ∧ (∀ z ∈ fs, z ∈ ns) ∧ Box H' b (c + fs.length), fun σ' H' h => ?_, ?_⟩
        · obtain ⟨ls, fs, e1, e2, e3, e4, e5, e6⟩ := h
          exact ⟨m - 1, by omega, ls, fs, e1, e2, e3, e4, by omega, e6⟩
        · have hxl : (x :: r).length = r.length + 1 := rfl
          refine ⟨.ref o, rfl, .inl ⟨rfl, _, SqL.of ho4⟩, .ref l, rfl, .inl ⟨rfl, _, SqL.of hl4⟩, .ref b, rfl, .ref l, rfl, l, _, rfl, .inl (SqL.of hl4), b, _, c + fs.length, rfl, hB4, by omega, ?_, ?_, fun H' r' sb5 hB5 r0 r1 => ?_⟩
          · rw [List.length_map]; omega
          · rw [List.length_map]; omega
          · rw [List.length_map] at r1
            have hl5 := sb5 l _ (Ne.symm lb) hl4
            have ho5 := sb5 o _ (Ne.symm ob) ho4
            have hlt : r'.toNat < (x :: r).length := by omega
            have g : (x :: r)[r'.toNat]? = some (x :: r)[r'.toNat] := List.getElem?_eq_getElem hlt
            refine ⟨l, _, r', r'.toNat, .int (x :: r)[r'.toNat], rfl, rfl, hl5, by omega, by omega, ?_, IL_get g, ?_⟩
            · rw [List.length_map]; exact (ixN_seq (ix_ok r0 r1)).1
            · refine ⟨o, _, _, rfl, rfl, (by rw [upd_ne (Ne.symm lo)]; exact ho5), ?_, ?_⟩
              · rw [List.length_map]; exact szl (by omega)
              · refine ⟨(x :: r).eraseIdx r'.toNat, fs ++ [(x :: r)[r'.toNat]], rfl, ?_, ?_, ?_, ?_, ?_, ?_, ?_, ?_⟩
                · intro a' o' na e'
                  have h1 : a' ≠ l := ne_of_none e' nl
                  have h2 : a' ≠ o := ne_of_none e' n0
                  rw [upd_ne h2, upd_ne h1]
                  exact sb5 a' _ na (sb4 a' _ na e')
                · rw [upd_ne lo, upd_same]
                  show some (HO.lst ((List.map V.int (x :: r)).eraseIdx r'.toNat)) = some (HO.lst (List.map V.int ((x :: r).eraseIdx r'.toNat)))
                  exact congrArg (fun t => some (HO.lst t)) (erase_IL (x :: r) r'.toNat)
                · rw [upd_same, IL_app]
                · rw [List.length_eraseIdx, if_pos hlt]; omega
                · rw [List.length_eraseIdx, if_pos hlt, List.length_append]
                  show (x :: r).length - 1 + (fs.length + 1) = ns.length
                  omega
                · intro z hz
                  exact hls z (List.mem_of_mem_eraseIdx hz)
                · intro z hz
                  rcases List.mem_append.mp hz with h | h
                  · exact hfs z h
                  · rw [List.mem_singleton] at h
                    rw [h]; exact hls _ (List.getElem_mem hlt)
                · obtain ⟨x0, x1, x2, e, r⟩ := hB5
                  refine ⟨x0, x1, x2, ?_, ?_⟩
                  · rw [upd_ne ob, upd_ne lb]; exact e
                  · rw [List.length_append]; exact r
/-! ### _law_part -/
abbrev sPart : Stmt := topS 17
theorem scPart : FnScope ["_law_box_here", "_law_size", "_law_sort", "_law_ringed", "_law_found", "_law_who"] ["_law_box_here", "_law_size"] (defScope sPart) := ⟨rfl, rfl, rfl, by decide +kernel, rfl, by decide +kernel, by decide +kernel⟩
def spPart : Sp := fun vs H Q _ => ∃ (b : Addr) (size : Int) (c : Nat), vs = [.ref b, .int size] ∧ 1 ≤ size ∧ size ≤ 64 ∧ Box H b c ∧ c + 1000 ≤ 1000000000 ∧
  ∀ H' p (ms : List Int), Sb b H H' → H p = none → H' p = some (.lst (IL ms)) → (ms.length : Int) = size → Low ms.length ms → Box H' b (c + 2 + ms.length) → Q (.ref p) H'
theorem pick5 {size r sort : Int} (h0 : 0 ≤ sort) (h1 : sort < 5) (hs : 1 ≤ size) (r0 : 0 ≤ r) (r1 : r < size) : ∃ g, atI [V.int 0, V.int 1, V.int size, V.int (1 + r), V.int 1] sort = some (.int g) ∧ (sort ≠ 0 → 1 ≤ g ∧ g ≤ size) := by
  have : sort = 0 ∨ sort = 1 ∨ sort = 2 ∨ sort = 3 ∨ sort = 4 := by omega
  rcases this with rfl | rfl | rfl | rfl | rfl
  · exact ⟨0, rfl, fun h => absurd rfl h⟩
  · exact ⟨1, rfl, fun _ => ⟨by omega, by omega⟩⟩
  · exact ⟨size, rfl, fun _ => ⟨by omega, by omega⟩⟩
  · exact ⟨1 + r, rfl, fun _ => ⟨by omega, by omega⟩⟩
  · exact ⟨1, rfl, fun _ => ⟨by omega, by omega⟩⟩
theorem ok_part {f fT : Addr} {fd fdT : FuncData} {k : Nat} (F : Fun K "_law_part" "_law_part" sPart f fd) (B : Bi mg) (T : Cal P w K mg base "_law_take" (k + 1) psT spTake fT fdT) : FnOk P w K mg base CX0 (k + 2) f fd ["_law_box_here", "_law_size"] spPart := by
  refine F.ok scPart (fun vs H Q E h => ?_) (fun cdv A outer s H vs Q E hr h => ?_)
  · obtain ⟨b, size, c, rfl, _⟩ := h
    rfl
  · obtain ⟨b, size, c, rfl, s1, s2, hB, hc, q⟩ := h
    refine ⟨_, pss_cons (ps_set (i := 2) scPart.nd rfl (.inl rfl) (pe_call T.ok hr (by rfl) T.g T.kp T.bd .nil pass0 (pa_cons (pv 0) (pa_cons pe_int pa_nil))))
      (pss_cons (ps_par (i := 3) (j := 4) (by rfl) scPart.nd rfl rfl (by decide) rfl rfl (pa_cons (pe_ix ix_list (pe_lst (pa_cons pe_int (pa_cons pe_int (pa_cons (pv 1) (pa_cons (pe_op op_add pe_int (pe_call T.ok hr (by rfl) T.g T.kp T.bd .nil pass0 (pa_cons (pv 0) (pa_cons (pv 1) pa_nil)))) (pa_cons pe_int pa_nil)))))) (pv 2) (fun _ _ => rfl)) (pa_cons (pe_lst pa_nil) pa_nil)) (by rfl))
      (pss_cons (ps_for PassesOwn.never rfl (pi_range1 (by rfl) B.range (pa_cons (pv 1) pa_nil)) (pg_name (i := 5) scPart.nd rfl (.inl rfl))
        (pss_one (ps_if (pt_cmpR op_eq (pv 2) pe_int (nomark _))
          (pss_one (ps_expr (pe_bm PySem.F.plainAttrs_list PySem.F.slot_list_append PySem.F.type_list_append mt_append (pv 4) (pa_cons (pe_call T.ok hr (by rfl) T.g T.kp T.bd .nil pass0 (pa_cons (pv 0) (pa_cons (pv 1) pa_nil))) pa_nil))))
          (pss_one (ps_if (pt_cmpR op_lt (pv 5) (pv 3) (nomark _))
            (pss_one (ps_expr (pe_bm PySem.F.plainAttrs_list PySem.F.slot_list_append PySem.F.type_list_append mt_append (pv 4) (pa_cons (pe_op op_mod (pe_op op_add (pv 5) pe_int) (pv 3)) pa_nil))))
            (pss_one (ps_expr (pe_bm PySem.F.plainAttrs_list PySem.F.slot_list_append PySem.F.type_list_append mt_append (pv 4) (pa_cons (pe_ifExp (pt_cmpR op_eq (pv 2) pe_int (nomark _)) (pe_op op_sub (pv 5) pe_int) (pe_call T.ok hr (by rfl) T.g T.kp T.bd .nil pass0 (pa_cons (pv 0) (pa_cons (pv 5) pa_nil)))) pa_nil)))))))))
      (pss_one (ps_ret (pv 4))))), ?_⟩
    obtain ⟨bx, hb⟩ := hB.there
    refine ⟨.ref b, rfl, b, 5, c, rfl, hB, by omega, by omega, by omega, fun H1 sort sb1 hB1 t0 t1 => ?_⟩
    refine ⟨.int size, rfl, .ref b, rfl, .int size, rfl, b, size, c + 1, rfl, hB1, by omega, by omega, by omega, fun H2 r sb2 hB2 r0 r1 => ?_⟩
    refine ⟨1, r, rfl, rfl, (by show 5 ≤ sizeLine; decide), fun p np => ?_⟩
    obtain ⟨g, hg, hgs⟩ := pick5 t0 t1 s1 r0 r1
    refine ⟨.int sort, rfl, p, _, sort, .int g, rfl, rfl, SqL.of upd_same, hg, Nat.zero_le _, fun o no => ⟨_, _, rfl, ?_⟩⟩
    have hB3 : Box (upd (upd H2 p (.lst [V.int 0, V.int 1, V.int size, V.int (1 + r), V.int 1])) o (.lst [])) b (c + 2) := by
      obtain ⟨x0, x1, x2, e, rr⟩ := hB2
      refine ⟨x0, x1, x2, ?_, rr⟩
      have e1 : (upd H2 p (.lst [V.int 0, V.int 1, V.int size, V.int (1 + r), V.int 1])) b = some (.lst [V.int x0, V.int x1, V.int x2]) := by rw [upd_ne (ne_of_none e np)]; exact e
      rw [upd_ne (ne_of_none e1 no)]; exact e1
    have sb3 : Sb b H (upd (upd H2 p (.lst [V.int 0, V.int 1, V.int size, V.int (1 + r), V.int 1])) o (.lst [])) := ((sb1.trans sb2).trans (Sb.new np)).trans (Sb.new no)
    have n2 : H2 o = none := (same_new np).free no
    have n0 : H o = none := (sb1.trans sb2).free hB2 n2
    have ob : b ≠ o := ne_of_none hb n0
    refine ⟨.int size, rfl, size, rfl, by omega, by omega, ?_⟩
    refine for_it (walk_range (lo := 0) (n := size.toNat)) (fun i σ H3 => ∃ y5 fs, σ = [some (.ref b), some (.int size), some (.int sort), some (.int g), some (.ref o), y5] ∧ Sb b H H3 ∧ H3 o = some (.lst (IL fs)) ∧ fs.length = i ∧ Low size.toNat fs ∧ Box H3 b (c + 2 + i)) ?_ ?_ ?_ ?_
    · exact ⟨none, [], rfl, sb3, upd_same, rfl, fun z h => (nomatch h), hB3⟩
    · intros; trivial
    · rintro i x σ H0 H3 hi ⟨y5, fs, rfl, sb, ho, el, lo, hB3⟩ ⟨rfl, rfl⟩
      have fin : ∀ (v : Int) (H4 : Hp) (y : Option V), Sb b H3 H4 → Box H4 b (c + 2 + (i + 1)) → 0 ≤ v → v < size → rAppend (.ref o) [.int v] H4 fun _ H5 => ∃ y5 fs, [some (V.ref b), some (.int size), some (.int sort), some (.int g), some (.ref o), y] = [some (.ref b), some (.int size), some (.int sort), some (.int g), some (.ref o), y5] ∧ Sb b H H5 ∧ H5 o = some (.lst (IL fs)) ∧ fs.length = i + 1 ∧ Low size.toNat fs ∧ Box H5 b (c + 2 + (i + 1)) := by
        intro v H4 y sb4 hB4 v0 v1
        have ho4 := sb4 o _ (Ne.symm ob) ho
        refine ⟨o, _, _, rfl, rfl, ho4, ?_, y, fs ++ [v], rfl, ?_, ?_, ?_, ?_, ?_⟩
        · rw [List.length_map]; exact szl (by omega)
        · intro a' o' na e'
          rw [upd_ne (ne_of_none e' n0)]
          exact sb4 a' _ na (sb a' _ na e')
        · rw [upd_same, IL_app]
        · rw [List.length_append, el]; rfl
        · exact lo.app v0 (by omega)
        · obtain ⟨x0, x1, x2, e, r⟩ := hB4
          exact ⟨x0, x1, x2, by rw [upd_ne ob]; exact e, r⟩
      have hi2 : (i : Int) < size := by omega
      refine ⟨.int sort, rfl, rfl, _, rfl, ite2 (fun e => ?_) (fun e => ?_)⟩
      · refine ⟨.ref o, rfl, .inl ⟨rfl, _, SqL.of ho⟩, .ref b, rfl, .int size, rfl, b, size, c + 2 + i, rfl, hB3, by omega, by omega, by omega, fun H5 v sb5 hB5 v0 v1 => ?_⟩
        exact fin v H5 _ sb5 hB5 v0 v1
      · have ns : sort ≠ 0 := fun z => e (by rw [z]; rfl)
        obtain ⟨g1, g2⟩ := hgs ns
        refine ⟨.int (0 + i), rfl, .int g, rfl, _, _, rfl, rfl, _, rfl, ite2 (fun e2 => ?_) (fun e2 => ?_)⟩
        · refine ⟨.ref o, rfl, .inl ⟨rfl, _, SqL.of ho⟩, .int (0 + i), rfl, _, 1, rfl, rfl, .int g, rfl, _, g, rfl, rfl, (by show (0 : Int) < g; omega), ?_⟩
          have m1 := Int.emod_lt_of_pos (0 + (i : Int) + 1) (show (0 : Int) < g by omega)
          exact fin _ H3 _ (Sb.refl b H3) (hB3.le (by omega)) (Int.emod_nonneg _ (by omega)) (by omega)
        · have e3 : ¬ ((0 : Int) + i < g) := fun z => e2 (decide_eq_true z)
          refine ⟨.ref o, rfl, .inl ⟨rfl, _, SqL.of ho⟩, .int sort, rfl, rfl, _, rfl, ite2 (fun e4 => ?_) (fun e4 => ?_)⟩
          · refine ⟨.int (0 + i), rfl, _, 1, rfl, rfl, ?_⟩
            exact fin _ H3 _ (Sb.refl b H3) (hB3.le (by omega)) (by omega) (by omega)
          · refine ⟨.ref b, rfl, .int (0 + i), rfl, b, _, c + 2 + i, rfl, hB3, by omega, by omega, by omega, fun H5 v sb5 hB5 v0 v1 => ?_⟩
            exact fin v H5 _ sb5 hB5 v0 (by omega)
    · rintro σ H3 ⟨y5, fs, rfl, sb, ho, el, lo, hB3⟩
      refine ⟨.ref o, rfl, q H3 o fs sb n0 ho (by omega) ?_ ?_⟩
      · rw [el]; exact lo
      · rw [el]; exact hB3
end
end Lp

namespace Lp
open PySem PySem.Spec PyProof.Rows L2
/-- the ints 0 .. n - 1 -/
def upto (n : Nat) : List Int := (List.range n).map fun i => (0 : Int) + (i : Nat)
theorem rg_upto (n : Int) : rgV 0 n = IL (upto n.toNat) := by
  unfold rgV upto
  show _ = List.map V.int _
  rw [List.map_map, Int.sub_zero]; rfl
theorem upto_len (n : Nat) : (upto n).length = n := by unfold upto; rw [List.length_map, List.length_range]
theorem upto_mem {n : Nat} {z : Int} (h : z ∈ upto n) : 0 ≤ z ∧ z < (n : Int) := by
  unfold upto at h
  obtain ⟨i, hi, e⟩ := List.mem_map.mp h
  have := List.mem_range.mp hi
  omega
theorem rep_zero (n : Nat) : (List.replicate n [V.int 0]).flatten = IL (List.replicate n 0) := by
  induction n with
  | zero => rfl
  | succ n ih =>
    rw [List.replicate_succ, List.replicate_succ, List.flatten_cons, ih]; rfl
theorem low_zero {n : Nat} (h : 1 ≤ n) : Low n (List.replicate n 0) := fun z hz => by
  have := List.eq_of_mem_replicate hz
  omega
theorem Low.set {n : Nat} {fs : List Int} {z : Int} {i : Nat} (h : Low n fs) (h0 : 0 ≤ z) (h1 : z < (n : Int)) : Low n (fs.set i z) := fun y hy => by
  rcases List.mem_or_eq_of_mem_set hy with h2 | h2
  · exact h y h2
  · subst h2; exact ⟨h0, h1⟩
theorem Low.at {n : Nat} {fs : List Int} {z : Int} {i : Nat} (h : Low n fs) (e : fs[i]? = some z) : 0 ≤ z ∧ z < (n : Int) := h z (List.mem_of_getElem? e)
theorem Box.put {H : Hp} {b p : Addr} {c : Nat} {o : HO} (h : Box H b c) (n : b ≠ p) : Box (upd H p o) b c := by
  obtain ⟨x0, x1, x2, e, rr⟩ := h
  exact ⟨x0, x1, x2, by rw [upd_ne n]; exact e, rr⟩
theorem Box.new {H : Hp} {b p : Addr} {c : Nat} {o : HO} (h : Box H b c) (n : H p = none) : Box (upd H p o) b c := by
  obtain ⟨_, e⟩ := h.there
  exact h.put (ne_of_none e n)
theorem Box.ne {H : Hp} {b p : Addr} {c : Nat} (h : Box H b c) (n : H p = none) : b ≠ p := by
  obtain ⟨_, e⟩ := h.there
  exact ne_of_none e n
theorem upd_keep {H : Hp} {a p : Addr} {o u : HO} (h : H a = some o) (n : H p = none) : upd H p u a = some o := by
  rw [upd_ne (ne_of_none h n)]; exact h
theorem Sb.mut {b p : Addr} {H H' : Hp} {o : HO} (h : Sb b H H') (n : H p = none) : Sb b H (L2.upd H' p o) := fun a u na e => by
  rw [upd_ne (ne_of_none e n)]; exact h a u na e
theorem yes_ok {te : TE} {σ : L2.St} {H : Hp} {R : V → Hp → Prop} {S : Hp → Prop} (h : te σ H R) : tYes σ H fun b H3 => if b = true then te σ H3 R else S H3 :=
  iteT (B := S H) h
section
variable {P : Program} {w : World} {K : PySem.W.Frag} {mg : Str → Option Value} {base : Heap}
/-! ### _law_mixed -/
abbrev sMixed : Stmt := topS 18
theorem scMixed : FnScope ["_law_box_here", "_law_found", "_law_tags", "_law_here", "_law_who", "_law_aim"] ["_law_box_here", "_law_found"] (defScope sMixed) := ⟨rfl, rfl, rfl, by decide +kernel, rfl, by decide +kernel, by decide +kernel⟩
def spMixed : Sp := fun vs H Q _ => ∃ (b a : Addr) (c : Nat) (ns : List Int), vs = [.ref b, .ref a] ∧ a ≠ b ∧ H a = some (.lst (IL ns)) ∧ 1 ≤ ns.length ∧ ns.length ≤ 64 ∧ Low ns.length ns ∧ Box H b c ∧ c + 1000 ≤ 1000000000 ∧
  ∀ H' p (ms : List Int), Sb b H H' → H p = none → H' p = some (.tup (IL ms)) → ms.length = ns.length → Low ns.length ms → Box H' b (c + 1000) → Q (.ref p) H'
theorem ok_mixed {f fS : Addr} {fd fdS : FuncData} {k : Nat} (F : Fun K "_law_mixed" "_law_mixed" sMixed f fd) (B : Bi mg) (S : Cal P w K mg base "_law_strewn" (k + 1) ["_law_box_here", "_law_some"] spStrewn fS fdS) : FnOk P w K mg base CX0 (k + 2) f fd ["_law_box_here", "_law_found"] spMixed := by
  refine F.ok scMixed (fun vs H Q E h => ?_) (fun cdv A outer s H vs Q E hr h => ?_)
  · obtain ⟨b, a, c, ns, rfl, _⟩ := h
    rfl
  · obtain ⟨b, a, c, ns, rfl, ne, ha, l1, l2, lo, hB, hc, q⟩ := h
    refine ⟨_, pss_cons (ps_par (i := 2) (j := 3) (by rfl) scMixed.nd rfl rfl (by decide) rfl rfl (pa_cons (pe_call S.ok hr (by rfl) S.g S.kp S.bd .nil pass0 (pa_cons (pv 0) (pa_cons (pe_listRg rfl (by rfl) B.list (prg_1 (by rfl) B.range (pe_callB call_len_seq (by rfl) B.len PySem.boot_len (pa_cons (pv 1) pa_nil)))) pa_nil)))
        (pa_cons (pe_op op_rep (pe_lst (pa_cons pe_int pa_nil)) (pe_callB call_len_seq (by rfl) B.len PySem.boot_len (pa_cons (pv 1) pa_nil))) pa_nil)) (by rfl))
      (pss_cons (ps_for PassesOwn.never rfl (pi_enum (by rfl) B.enumerate (pa_cons (pv 1) pa_nil))
          (pg_tup rfl (pgs_cons (pg_name (i := 4) scMixed.nd rfl (.inl rfl)) (pgs_cons (pg_name (i := 5) scMixed.nd rfl (.inl rfl)) pgs_nil)))
        (pss_one (ps_asg (pe_ix ix_list (pv 2) (pv 5) (fun _ _ => rfl)) (pg_sub (pv 3) (pe_ix ix_list (pv 2) (pv 4) (fun _ _ => rfl)) set_list))))
      (pss_one (ps_ret (pe_callTy call_tuple_of (by rfl) B.tuple (by decide +kernel) (pa_cons (pv 3) pa_nil))))), ?_⟩
    refine ⟨.ref b, rfl, .ref a, rfl, a, _, rfl, .inl (SqL.of ha), _, rfl, ?_, fun u nu => ?_⟩
    · rw [List.length_map]; exact RgOk.of_le (by omega) (by omega) (by omega) (by omega)
    · rw [List.length_map, rg_upto]
      have bu : b ≠ u := hB.ne nu
      refine ⟨b, u, c, upto ((ns.length : Int)).toNat, rfl, Ne.symm bu, upd_same, by rw [upto_len]; omega, hB.new nu, hc, fun H1 t tags sb1 nt ht lt mt hB1 => ?_⟩
      rw [upto_len] at lt
      have sbH1 : Sb b H H1 := (Sb.new nu).trans sb1
      have ha1 : H1 a = some (.lst (IL ns)) := sbH1 a _ ne ha
      refine ⟨(by show 1 ≤ sizeLine; decide), fun z nz => ?_⟩
      have ha2 := upd_keep (u := .lst [V.int 0]) ha1 nz
      refine ⟨.ref a, rfl, a, _, rfl, .inl (SqL.of ha2), z, _, _, rfl, rfl, upd_same, ?_, ?_, ?_, fun o no => ?_⟩
      · rw [List.length_map]; omega
      · rw [List.length_map]; omega
      · rw [List.length_map]; show 1 * _ ≤ sizeLine; exact sz (by omega)
      · rw [List.length_map, rep_zero]
        refine ⟨_, _, rfl, .ref a, rfl, a, _, rfl, SqL.of (upd_keep ha2 no), ?_⟩
        have n1 : H1 o = none := (same_new nz).free no
        have n0 : H o = none := sbH1.free hB1 n1
        have tags_low : Low ns.length tags := fun y hy => by
          have := upto_mem (mt y hy)
          omega
        have tl : tags.length = ns.length := by omega
        have oa : a ≠ o := ne_of_none ha n0
        have hu0 : H t = none := (same_new nu).free nt
        have ot : t ≠ o := ne_of_none (upd_keep ht nz) no
        refine for_it (walk_enum (K := K) (a := a) (xs := IL ns)) (fun i σ H3 => ∃ y4 y5 hs, σ = [some (.ref b), some (.ref a), some (.ref t), some (.ref o), y4, y5] ∧ Sb b H H3 ∧ H3 a = some (.lst (IL ns)) ∧ H3 t = some (.lst (IL tags)) ∧ H3 o = some (.lst (IL hs)) ∧ hs.length = ns.length ∧ Low ns.length hs ∧ Box H3 b (c + 1000)) ?_ ?_ ?_ ?_
        · refine ⟨none, none, List.replicate (ns.length : Int).toNat 0, rfl, (sbH1.trans (Sb.new nz)).trans (Sb.new no), upd_keep ha2 no, upd_keep (upd_keep ht nz) no, upd_same, ?_, ?_, (hB1.new nz).new no⟩
          · rw [List.length_replicate]; omega
          · have := low_zero (n := (ns.length : Int).toNat) (by omega)
            rw [show ns.length = (ns.length : Int).toNat by omega] at *
            exact this
        · rintro i σ H3 _ ⟨y4, y5, hs, rfl, _, h3, _⟩
          exact SqL.of h3
        · rintro i x σ H3 H4 hi ⟨y4, y5, hs, rfl, sb, h3, h4, h5, hl, hlo, hB3⟩ ⟨T, x1, x2, rfl, nT, rfl, hx1, hx2⟩
          cases hx1
          have hi' : i < ns.length := by rw [List.length_map] at hi; exact hi
          have hx2' : x2 = .int ns[i] := IL_at hx2 hi'
          subst hx2'
          have hz := lo.at (List.getElem?_eq_getElem hi')
          have h4' := upd_keep (u := .tup [.int (i : Nat), .int ns[i]]) h4 nT
          have h5' := upd_keep (u := .tup [.int (i : Nat), .int ns[i]]) h5 nT
          obtain ⟨z1, g1, _, a1⟩ := at_lt (ns := tags) hz.1 (by omega)
          obtain ⟨z2, g2, _, a2⟩ := at_lt (ns := tags) (i := (i : Int)) (by omega) (by omega)
          have t1 := tags_low.at g1
          have t2 := tags_low.at g2
          refine ⟨T, _, rfl, SqT.of upd_same, rfl, _, _, rfl, _, _, rfl, rfl, ?_⟩
          refine ⟨.ref t, rfl, .int ns[i], rfl, t, _, _, .int z1, rfl, rfl, SqL.of h4', a1, .ref o, rfl, .ref t, rfl, .int i, rfl, t, _, _, .int z2, rfl, rfl, SqL.of h4', a2, o, _, _, z2.toNat, rfl, rfl, h5', ?_, ?_⟩
          · rw [List.length_map]; exact ix_ok t2.1 (by omega)
          · rw [IL_set]
            refine ⟨_, _, _, rfl, (sb.trans (Sb.new nT)).mut n0, ?_, ?_, upd_same, ?_, hlo.set t1.1 t1.2, ?_⟩
            · rw [upd_ne oa]; exact upd_keep h3 nT
            · rw [upd_ne ot]; exact h4'
            · rw [List.length_set]; exact hl
            · exact (hB3.new nT).put (hB.ne n0)
        · rintro σ H3 ⟨y4, y5, hs, rfl, sb, h3, h4, h5, hl, hlo, hB3⟩
          refine ⟨.ref o, rfl, o, _, rfl, .inl ⟨SqL.of h5, fun p np => ?_⟩⟩
          exact q _ p hs (sb.trans (Sb.new np)) (sb.free hB3 np) upd_same hl hlo (hB3.new np)
/-! ### _law_drawn -/
abbrev sDrawn : Stmt := topS 19
abbrev nDrawn : List Str := ["_law_box_here", "_law_most", "_law_size", "_law_found", "_law_left", "_law_some", "_law_aim"]
theorem scDrawn : FnScope nDrawn ["_law_box_here", "_law_most"] (defScope sDrawn) := ⟨rfl, rfl, rfl, by decide +kernel, rfl, by decide +kernel, by decide +kernel⟩
def spDrawn : Sp := fun vs H Q _ => ∃ (b : Addr) (most : Int) (c : Nat), vs = [.ref b, .int most] ∧ 1 ≤ most ∧ most ≤ 60 ∧ Box H b c ∧ c + 10000 ≤ 1000000000 ∧
  ∀ H' p (ms : List Int), Sb b H H' → H p = none → H' p = some (.tup (IL ms)) → 1 ≤ ms.length → (ms.length : Int) ≤ most → Low ms.length ms → Box H' b (c + 10000) → Q (.ref p) H'
theorem ok_drawn {f fT fO fP fM : Addr} {fd fdT fdO fdP fdM : FuncData} {k : Nat} (F : Fun K "_law_drawn" "_law_drawn" sDrawn f fd) (B : Bi mg) (T : Cal P w K mg base "_law_take" (k + 1) psT spTake fT fdT) (O : Cal P w K mg base "_law_of" (k + 2) ["_law_box_here", "_law_some"] spOf fO fdO)
    (PA : Cal P w K mg base "_law_part" (k + 2) ["_law_box_here", "_law_size"] spPart fP fdP) (M : Cal P w K mg base "_law_mixed" (k + 3) ["_law_box_here", "_law_found"] spMixed fM fdM) : FnOk P w K mg base CX0 (k + 4) f fd ["_law_box_here", "_law_most"] spDrawn := by
  refine F.ok scDrawn (fun vs H Q E h => ?_) (fun cdv A outer s H vs Q E hr h => ?_)
  · obtain ⟨b, most, c, rfl, _⟩ := h
    rfl
  · obtain ⟨b, most, c, rfl, m1, m2, hB, hc, q⟩ := h
    refine ⟨_, pss_cons (ps_asg (pe_tup (pa_cons (pe_op op_add pe_int (pe_call T.ok (hr.mono (by omega)) (by rfl) T.g T.kp T.bd .nil pass0 (pa_cons (pv 0) (pa_cons (pv 1) pa_nil)))) (pa_cons (pe_lst pa_nil) pa_nil))) (pg_tup rfl (pgs_cons (pg_name (i := 2) scDrawn.nd rfl (.inl rfl)) (pgs_cons (pg_name (i := 3) scDrawn.nd rfl (.inr rfl)) pgs_nil))))
      (pss_cons (ps_while PassesOwn.never (pt_cmpR op_lt (pe_callB call_len_seq (by rfl) B.len PySem.boot_len (pa_cons (pv 3) pa_nil)) (pv 2) (nomark _))
        (pss_cons (ps_set (i := 4) scDrawn.nd rfl (.inl rfl) (pe_op op_sub (pv 2) (pe_callB call_len_seq (by rfl) B.len PySem.boot_len (pa_cons (pv 3) pa_nil))))
        (pss_cons (ps_set (i := 5) scDrawn.nd rfl (.inl rfl) (pe_call PA.ok (hr.mono (by omega)) (by rfl) PA.g PA.kp PA.bd .nil pass0 (pa_cons (pv 0) (pa_cons (pe_call O.ok (hr.mono (by omega)) (by rfl) O.g O.kp O.bd .nil pass0 (pa_cons (pv 0) (pa_cons (pe_lst (pa_cons (pv 4) (pa_cons (pv 4) (pa_cons (pe_op op_add pe_int (pe_call T.ok (hr.mono (by omega)) (by rfl) T.g T.kp T.bd .nil pass0 (pa_cons (pv 0) (pa_cons (pv 4) pa_nil)))) pa_nil)))) pa_nil))) pa_nil))))
        (pss_one (ps_set (i := 3) scDrawn.nd rfl (.inr rfl) (pe_op op_cat (pv 3) (pe_lc (own := [("_law_aim", 6)]) (g := gName 6) (tt := tYes) (by rfl) scDrawn.nd (pi_list (pv 5)) (blkOk_by (own := [("_law_aim", 6)]) (N := nDrawn) (sc := defScope sDrawn) (by decide +kernel)) (fun _ _ _ _ _ => pg_name (i := 6) scDrawn.nd rfl (Or.inl rfl)) (fun _ _ _ _ _ => pts_nil) (fun _ _ _ _ _ => pe_op op_add (pe_callB (len_K (K := K) rfl) (by rfl) B.len PySem.boot_len (pa_cons (pv 3) pa_nil)) (pv 6)))))))))
      (pss_one (ps_ret (pe_call M.ok hr (by rfl) M.g M.kp M.bd .nil pass0 (pa_cons (pv 0) (pa_cons (pv 3) pa_nil)))))), ?_⟩
    refine ⟨.ref b, rfl, .int most, rfl, b, most, c, rfl, hB, by omega, by omega, by omega, fun H1 r sb1 hB1 r0 r1 => ?_⟩
    refine ⟨1, r, rfl, rfl, Nat.zero_le _, fun o no => ⟨(by show 2 ≤ sizeLine; decide), fun t nt => ?_⟩⟩
    refine ⟨t, _, rfl, SqT.of upd_same, rfl, _, _, rfl, _, _, rfl, rfl, ?_⟩
    have n0 : H o = none := sb1.free hB1 no
    have bo : b ≠ o := hB.ne n0
    generalize hsize : 1 + r = size
    have ho0 : (upd (upd H1 o (.lst [])) t (.tup [.int size, .ref o])) o = some (.lst (IL [])) := by
      rw [upd_ne (ne_of_none (upd_same (H := H1) (a := o) (o := .lst [])) nt), upd_same]; rfl
    refine ⟨fun m σ H3 => ∃ y4 y5 oo fs, σ = [some (.ref b), some (.int most), some (.int size), some (.ref oo), y4, y5, none] ∧ Sb b H H3 ∧ oo ≠ b ∧ H3 oo = some (.lst (IL fs)) ∧ fs.length + m = size.toNat ∧ Low fs.length fs ∧ Box H3 b (c + 1 + 100 * fs.length), ⟨size.toNat, none, none, o, [], ?_, ?_, Ne.symm bo, ?_, by simp, (fun z h => nomatch h), ?_⟩, ?_⟩
    · rw [← hsize]; rfl
    · rw [← hsize] at *; exact (sb1.trans (Sb.new no)).trans (Sb.new nt)
    · subst hsize; exact ho0
    · exact (hB1.new no).new nt
    · rintro m σ H3 ⟨y4, y5, oo, fs, rfl, sb, nob, ho, em, lo, hB3⟩
      refine ⟨.ref oo, rfl, oo, _, rfl, .inl (SqL.of ho), .int size, rfl, _, _, rfl, rfl, _, rfl, ite2 (fun e => ?_) (fun e => ?_)⟩
      · have e1 : ((IL fs).length : Int) < size := of_decide_eq_true e
        rw [List.length_map] at e1
        refine ⟨fun σ' H' => ∃ m', m' < m ∧ ∃ y4 y5 oo fs, σ' = [some (.ref b), some (.int most), some (.int size), some (.ref oo), y4, y5, none] ∧ Sb b H H' ∧ oo ≠ b ∧ H' oo = some (.lst (IL fs)) ∧ fs.length + m' = size.toNat ∧ Low fs.length fs ∧ Box H' b (c + 1 + 100 * fs.length), fun σ' H' h => h, ?_⟩
        refine ⟨.int size, rfl, .ref oo, rfl, oo, _, rfl, .inl (SqL.of ho), size, _, rfl, rfl, ?_⟩
        rw [List.length_map]
        dsimp only
        generalize hleft : size - (fs.length : Int) = left
        refine ⟨.ref b, rfl, .ref b, rfl, .int left, rfl, .int left, rfl, .ref b, rfl, .int left, rfl, b, left, c + 1 + 100 * fs.length, rfl, hB3, by omega, by omega, by omega, fun H4 r' sb4 hB4 r0' r1' => ?_⟩
        refine ⟨1, r', rfl, rfl, (by show 3 ≤ sizeLine; decide), fun p np => ?_⟩
        have bp : b ≠ p := hB4.ne np
        refine ⟨b, p, c + 1 + 100 * fs.length + 1, _, rfl, Ne.symm bp, upd_same, (by show 1 ≤ 3; decide), (by show 3 ≤ 1000; decide), hB4.new np, by omega, fun H5 j v sb5 hB5 hj => ?_⟩
        have hv : ∃ ps : Int, v = .int ps ∧ 1 ≤ ps ∧ ps ≤ left := by
          rcases j with _ | _ | _ | j
          · exact ⟨left, (Option.some.inj hj).symm, by omega, by omega⟩
          · exact ⟨left, (Option.some.inj hj).symm, by omega, by omega⟩
          · exact ⟨1 + r', (Option.some.inj hj).symm, by omega, by omega⟩
          · simp at hj
        obtain ⟨ps, rfl, p1, p2⟩ := hv
        refine ⟨b, ps, c + 1 + 100 * fs.length + 2, rfl, p1, by omega, hB5, by omega, fun H6 u us sb6 nu hu lu lou hB6 => ?_⟩
        have sb16 : Sb b H3 H6 := (sb4.trans (Sb.new np)).trans (sb5.trans sb6)
        have ho6 := sb16 oo _ nob ho
        have hnd : ∀ D, H6 D = none → oo ≠ D := fun D nD => ne_of_none ho6 nD
        refine ⟨.ref oo, rfl, .ref u, rfl, u, rfl, ⟨_, SqL.of hu⟩, fun D nD => ?_⟩
        have uD : u ≠ D := ne_of_none hu nD
        have bD : b ≠ D := hB6.ne nD
        refine lc_list (K := K) (a := u) (xs := IL us) (fun i H7 => ∃ es, H7 D = some (.lst (IL es)) ∧ es.length = i ∧ (∀ z ∈ es, (fs.length : Int) ≤ z ∧ z < fs.length + us.length) ∧ Sb b H3 H7 ∧ H7 u = some (.lst (IL us)) ∧ H7 oo = some (.lst (IL fs)) ∧ Box H7 b (c + 1 + 100 * fs.length + 4 + us.length)) ?_ ?_ ?_ ?_
        · exact ⟨[], upd_same, rfl, (fun z h => nomatch h), sb16.trans (Sb.new nD), upd_keep hu nD, upd_keep ho6 nD, hB6.new nD⟩
        · rintro i H7 _ ⟨es, _, _, _, _, h, _⟩
          exact SqL.of h
        · rintro i x H7 hx ⟨es, hD, hl, hr7, sb7, hu7, ho7, hB7⟩
          have hi' : i < us.length := by
            have := (List.getElem?_eq_some_iff.mp hx).1
            rw [List.length_map] at this; exact this
          have hx' : x = .int us[i] := IL_at hx hi'
          subst hx'
          have hz := lou.at (List.getElem?_eq_getElem hi')
          refine ⟨rfl, yes_ok ?_⟩
          refine ⟨.ref oo, rfl, oo, _, rfl, .inl (SqL.of ho7), .int us[i], rfl, _, _, rfl, rfl, IL es, hD, ?_, es ++ [(fs.length : Int) + us[i]], ?_, ?_, ?_, ?_, ?_, ?_, ?_⟩
          · rw [List.length_map]; exact szl (by omega)
          · rw [upd_same, List.length_map, IL_app]
          · rw [List.length_append, hl]; rfl
          · intro z hz'
            rcases List.mem_append.mp hz' with h2 | h2
            · exact hr7 z h2
            · rw [List.mem_singleton] at h2
              omega
          · intro a' o' na e'
            have e6 := sb16 a' _ na e'
            rw [upd_ne (ne_of_none e6 nD)]
            exact sb7 a' _ na e'
          · rw [upd_ne uD]; exact hu7
          · rw [upd_ne (hnd D nD)]; exact ho7
          · exact hB7.put bD
        · rintro H7 ⟨es, hD, hl, hr7, sb7, hu7, ho7, hB7⟩
          rw [List.length_map] at hl
          refine ⟨oo, D, IL fs, IL es, rfl, rfl, ho7, hD, ?_, fun o2 no2 => ?_⟩
          · rw [List.length_map, List.length_map]; exact sz (by omega)
          · refine ⟨m - us.length, by omega, _, _, o2, fs ++ es, rfl, (sb.trans sb7).trans (Sb.new no2), Ne.symm (hB7.ne no2), ?_, ?_, ?_, ?_⟩
            · rw [upd_same]
              show some (HO.lst (List.map V.int fs ++ List.map V.int es)) = some (HO.lst (List.map V.int (fs ++ es)))
              rw [List.map_append]
            · rw [List.length_append]; omega
            · intro z hz
              rw [List.length_append]
              rcases List.mem_append.mp hz with h2 | h2
              · have := lo z h2; omega
              · have := hr7 z h2; omega
            · refine (hB7.new no2).le ?_
              rw [List.length_append]; omega
      · have e1 : ¬ ((IL fs).length : Int) < size := fun z => e (decide_eq_true z)
        rw [List.length_map] at e1
        refine ⟨.ref b, rfl, .ref oo, rfl, b, oo, c + 1 + 100 * fs.length, fs, rfl, nob, ho, by omega, by omega, lo, hB3, by omega, fun H' p ms sb' np hp hl hlo hB' => ?_⟩
        refine q H' p ms (sb.trans sb') ?_ hp (by omega) (by omega) (by rw [hl]; exact hlo) (hB'.le (by omega))
        exact sb.free hB3 np
end
end Lp

namespace Lp
open PySem PySem.Spec PyProof.Rows L2
def Flat : V → Prop
  | .int _ => True
  | .bl _ => True
  | .non => True
  | .str _ => True
  | _ => False
/-- x and y hold the same data, at most n deep -/
def Eqd (H : Hp) : Nat → V → V → Prop
  | 0, x, y => x = y ∧ Flat x
  | n + 1, x, y => (x = y ∧ Flat x) ∨ ∃ a b xs ys, x = .ref a ∧ y = .ref b ∧ xs.length = ys.length ∧ xs.length ≤ 10000 ∧ ((H a = some (.lst xs) ∧ H b = some (.lst ys)) ∨ (H a = some (.tup xs) ∧ H b = some (.tup ys))) ∧
      ∀ (i : Nat) (u v : V), xs[i]? = some u → ys[i]? = some v → Eqd H n u v
theorem Eqd.mono {H H' : Hp} (s : Same H H') : ∀ {n : Nat} {x y : V}, Eqd H n x y → Eqd H' n x y
  | 0, _, _, h => h
  | n + 1, _, _, h => by
    rcases h with h | ⟨a, b, xs, ys, e1, e2, e3, e4, e5, e6⟩
    · exact .inl h
    · refine .inr ⟨a, b, xs, ys, e1, e2, e3, e4, ?_, fun i u v hu hv => (e6 i u v hu hv).mono s⟩
      rcases e5 with ⟨h1, h2⟩ | ⟨h1, h2⟩
      · exact .inl ⟨s _ _ h1, s _ _ h2⟩
      · exact .inr ⟨s _ _ h1, s _ _ h2⟩
theorem Eqd.int (H : Hp) (n : Nat) (i : Int) : Eqd H n (.int i) (.int i) := by
  cases n with
  | zero => exact ⟨rfl, trivial⟩
  | succ n => exact .inl ⟨rfl, trivial⟩
theorem Eqd.lst {H : Hp} {n : Nat} {a b : Addr} {xs ys : List V} (h1 : H a = some (.lst xs)) (h2 : H b = some (.lst ys)) (l : xs.length = ys.length) (z : xs.length ≤ 10000) (h : ∀ (i : Nat) (u v : V), xs[i]? = some u → ys[i]? = some v → Eqd H n u v) : Eqd H (n + 1) (.ref a) (.ref b) :=
  .inr ⟨a, b, xs, ys, rfl, rfl, l, z, .inl ⟨h1, h2⟩, h⟩
theorem Eqd.tup {H : Hp} {n : Nat} {a b : Addr} {xs ys : List V} (h1 : H a = some (.tup xs)) (h2 : H b = some (.tup ys)) (l : xs.length = ys.length) (z : xs.length ≤ 10000) (h : ∀ (i : Nat) (u v : V), xs[i]? = some u → ys[i]? = some v → Eqd H n u v) : Eqd H (n + 1) (.ref a) (.ref b) :=
  .inr ⟨a, b, xs, ys, rfl, rfl, l, z, .inr ⟨h1, h2⟩, h⟩
theorem Eqd.ints {H : Hp} {ns : List Int} {n i : Nat} {u v : V} (hu : (IL ns)[i]? = some u) (hv : (IL ns)[i]? = some v) : Eqd H n u v := by
  have e : u = v := Option.some.inj (hu.symm.trans hv)
  subst e
  rw [List.getElem?_map] at hu
  cases q : ns[i]? with
  | none => rw [q] at hu; cases hu
  | some z => rw [q] at hu; cases hu; exact Eqd.int H n z
/-- two lists of the same ints -/
theorem Eqd.lstI {H : Hp} {n : Nat} {a b : Addr} {ns : List Int} (h1 : H a = some (.lst (IL ns))) (h2 : H b = some (.lst (IL ns))) (z : ns.length ≤ 10000) : Eqd H (n + 1) (.ref a) (.ref b) :=
  Eqd.lst h1 h2 rfl (by rw [List.length_map]; exact z) fun _ _ _ hu hv => Eqd.ints hu hv
theorem Eqd.tupI {H : Hp} {n : Nat} {a b : Addr} {ns : List Int} (h1 : H a = some (.tup (IL ns))) (h2 : H b = some (.tup (IL ns))) (z : ns.length ≤ 10000) : Eqd H (n + 1) (.ref a) (.ref b) :=
  Eqd.tup h1 h2 rfl (by rw [List.length_map]; exact z) fun _ _ _ hu hv => Eqd.ints hu hv
theorem Eqd.pair {H : Hp} {n : Nat} {a b : Addr} {x1 x2 y1 y2 : V} (h1 : H a = some (.lst [x1, x2])) (h2 : H b = some (.lst [y1, y2])) (e1 : Eqd H n x1 y1) (e2 : Eqd H n x2 y2) : Eqd H (n + 1) (.ref a) (.ref b) :=
  Eqd.lst h1 h2 rfl (by show 2 ≤ 10000; decide) fun i u v hu hv => by
    rcases i with _ | _ | i
    · cases hu; cases hv; exact e1
    · cases hu; cases hv; exact e2
    · simp at hu
theorem ka2 {K : PySem.W.Frag} {t a b : String} {r1 r2 : Bool} (h1 : kitB t a = some r1) (h2 : kitB t b = some r2) : PySem.W.kitAny K (.type t) [.type a, .type b] = some (r1 || r2) := by
  refine kitAny_cons (kit_ty h1) (fun e => ?_) (fun e => by rw [e]; rfl)
  refine kitAny_cons (kit_ty h2) (fun e2 => ?_) (fun e2 => by rw [e, e2]; rfl)
  rw [e, e2]; exact kitAny_nil
theorem walk_zipT {K : PySem.W.Frag} {a b : Addr} {xs ys : List V} {n : Nat} (hn : n = min xs.length ys.length) : Walk (RZ.ItzT K a b) n (fun H => SqT K H a xs ∧ SqT K H b ys) (YPair (fun i => xs[i]?) (fun i => ys[i]?)) := by
  subst hn
  refine ⟨fun i _ hi q => ?_, fun _ q => ⟨xs, ys, q.1, q.2, by omega⟩, fun i H v H' _ q y => ?_⟩
  · have h1 : i < xs.length := by omega
    have h2 : i < ys.length := by omega
    exact ⟨xs, ys, xs[i], ys[i], q.1, q.2, by simp [h1], by simp [h2]⟩
  · obtain ⟨T, x, z, h1, h2, h3, h4, h5⟩ := y
    exact ⟨T, x, z, h1, h2, h3, h4 xs q.1, h5 ys q.2⟩
theorem all_true (n : Nat) : (List.replicate n true).all id = true := by
  rw [List.all_replicate]; cases n <;> rfl
theorem rep_bl (n : Nat) : (List.replicate n true).map V.bl = List.replicate n (.bl true) := by rw [List.map_replicate]
theorem rep_app (n : Nat) (x : V) : List.replicate n x ++ [x] = List.replicate (n + 1) x := by
  rw [List.replicate_succ']
section
variable {P : Program} {w : World} {K : PySem.W.Frag} {mg : Str → Option Value} {base : Heap}
/-! ### _law_same -/
abbrev sSame : Stmt := topS 16
abbrev nSame : List Str := ["_law_found", "_law_due", "_law_one", "_law_two"]
theorem scSame : FnScope nSame ["_law_found", "_law_due"] (defScope sSame) := ⟨rfl, rfl, rfl, by decide +kernel, rfl, by decide +kernel, by decide +kernel⟩
def spSame (n : Nat) : Sp := fun vs H Q _ => ∃ x y, vs = [x, y] ∧ Eqd H n x y ∧ ∀ H', Same H H' → Q (.bl true) H'
abbrev psSame : List Str := ["_law_found", "_law_due"]
theorem ok_same0 {f : Addr} {fd : FuncData} (F : Fun K "_law_same" "_law_same" sSame f fd) (B : Bi mg) {k : Nat} : FnOk P w K mg base CX0 (k + 1) f fd psSame (spSame 0) := by
  refine F.ok scSame (fun vs H Q E h => ?_) (fun cdv A outer s H vs Q E hr h => ?_)
  · obtain ⟨x, y, rfl, _⟩ := h
    rfl
  · obtain ⟨x, y, rfl, ⟨rfl, fl⟩, q⟩ := h
    refine ⟨_, pss_cons (ps_if (pt_val (pe_callB call_isiT (by rfl) B.isinstance (by decide +kernel) (pa_cons (pv 1) (pa_cons (pe_tup (pa_cons (pe_bltn (v := .ty "list") (by rfl) B.list (by decide +kernel) rfl) (pa_cons (pe_bltn (v := .ty "tuple") (by rfl) B.tuple (by decide +kernel) rfl) pa_nil))) pa_nil)))) pss_never pss_nil)
      (pss_cons (ps_if (PW.pt (pw_or (pt_cmpR op_isN (pv 1) pe_non (nomark _)) (pw_or1 (pt_val (pe_callB call_isiT (by rfl) B.isinstance (by decide +kernel) (pa_cons (pv 1) (pa_cons (pe_tup (pa_cons (pe_bltn (v := .ty "str") (by rfl) B.str (by decide +kernel) rfl) (pa_cons (pe_bltn (v := .ty "bool") (by rfl) B.bool (by decide +kernel) rfl) pa_nil))) pa_nil)))))))
        (pss_one (ps_ret (pe_and (pe_cmpR op_eq (pv 0) (pv 1) (nomark _)) (pe_and (pe_cmpR op_eq (pe_callB call_isi (by rfl) B.isinstance (by decide +kernel) (pa_cons (pv 0) (pa_cons (pe_bltn (v := .ty "bool") (by rfl) B.bool (by decide +kernel) rfl) pa_nil))) (pe_callB call_isi (by rfl) B.isinstance (by decide +kernel) (pa_cons (pv 1) (pa_cons (pe_bltn (v := .ty "bool") (by rfl) B.bool (by decide +kernel) rfl) pa_nil))) (nomark _)) (pe_one (pe_cmpR op_eq (pe_cmpR op_isN (pv 0) pe_non (nomark _)) (pe_cmpR op_isN (pv 1) pe_non (nomark _)) (nomark _))))))) pss_nil)
      (pss_one (ps_ret (pe_and (pe_callB call_isi (by rfl) B.isinstance (by decide +kernel) (pa_cons (pv 0) (pa_cons (pe_bltn (v := .ty "int") (by rfl) B.int (by decide +kernel) rfl) pa_nil))) (pe_and (pe_not (pe_callB call_isi (by rfl) B.isinstance (by decide +kernel) (pa_cons (pv 0) (pa_cons (pe_bltn (v := .ty "bool") (by rfl) B.bool (by decide +kernel) rfl) pa_nil)))) (pe_one (pe_cmpR op_eq (pv 0) (pv 1) (nomark _)))))))), ?_⟩
    rcases x with _ | bb | i | z | _ | _ | _ | _
    · refine ⟨.non, rfl, (by show 2 ≤ sizeLine; decide), fun t nt => ?_⟩
      refine ⟨.non, t, _, .type "NoneType", _, false, rfl, upd_same, .cons (.ty "list") (.cons (.ty "tuple") .nil), .base .non, ka2 (r1 := false) (r2 := false) (by decide +kernel) (by decide +kernel), _, rfl, iteF ?_⟩
      refine ⟨.non, rfl, rfl, _, rfl, iteT ?_⟩
      refine iteT ⟨.non, rfl, .non, rfl, rfl, true, rfl, iteT ⟨.non, rfl, .non, .ty "bool", _, _, false, rfl, .ty "bool", .base .non, kit_ty (by decide +kernel), .non, rfl, .non, .ty "bool", _, _, false, rfl, .ty "bool", .base .non, kit_ty (by decide +kernel), rfl, true, rfl, iteT ⟨.non, rfl, rfl, .non, rfl, rfl, rfl, ?_⟩⟩⟩
      exact q _ (same_new nt)
    · refine ⟨.bl bb, rfl, (by show 2 ≤ sizeLine; decide), fun t nt => ?_⟩
      refine ⟨.bl bb, t, _, .type "bool", _, false, rfl, upd_same, .cons (.ty "list") (.cons (.ty "tuple") .nil), .base (.bl bb), ka2 (r1 := false) (r2 := false) (by decide +kernel) (by decide +kernel), _, rfl, iteF ?_⟩
      refine ⟨.bl bb, rfl, rfl, _, rfl, iteF ?_⟩
      refine ⟨.bl bb, rfl, (by show 2 ≤ sizeLine; decide), fun t2 nt2 => ?_⟩
      refine ⟨.bl bb, t2, _, .type "bool", _, true, rfl, upd_same, .cons (.ty "str") (.cons (.ty "bool") .nil), .base (.bl bb), ka2 (r1 := false) (r2 := true) (by decide +kernel) (by decide +kernel), _, rfl, iteT ?_⟩
      refine ⟨.bl bb, rfl, .bl bb, rfl, rfl, true, (by rw [decide_eq_true rfl]), iteT ⟨.bl bb, rfl, .bl bb, .ty "bool", _, _, true, rfl, .ty "bool", .base (.bl bb), kit_ty (by decide +kernel), .bl bb, rfl, .bl bb, .ty "bool", _, _, true, rfl, .ty "bool", .base (.bl bb), kit_ty (by decide +kernel), rfl, true, rfl, iteT ⟨.bl bb, rfl, rfl, .bl bb, rfl, rfl, rfl, ?_⟩⟩⟩
      exact q _ ((same_new nt).trans (same_new nt2))
    · refine ⟨.int i, rfl, (by show 2 ≤ sizeLine; decide), fun t nt => ?_⟩
      refine ⟨.int i, t, _, .type "int", _, false, rfl, upd_same, .cons (.ty "list") (.cons (.ty "tuple") .nil), .base (.int i), ka2 (r1 := false) (r2 := false) (by decide +kernel) (by decide +kernel), _, rfl, iteF ?_⟩
      refine ⟨.int i, rfl, rfl, _, rfl, iteF ?_⟩
      refine ⟨.int i, rfl, (by show 2 ≤ sizeLine; decide), fun t2 nt2 => ?_⟩
      refine ⟨.int i, t2, _, .type "int", _, false, rfl, upd_same, .cons (.ty "str") (.cons (.ty "bool") .nil), .base (.int i), ka2 (r1 := false) (r2 := false) (by decide +kernel) (by decide +kernel), _, rfl, iteF ?_⟩
      refine ⟨.int i, rfl, .int i, .ty "int", _, _, true, rfl, .ty "int", .base (.int i), kit_ty (by decide +kernel), true, rfl, iteT ⟨.int i, rfl, .int i, .ty "bool", _, _, false, rfl, .ty "bool", .base (.int i), kit_ty (by decide +kernel), false, rfl, true, rfl, iteT ⟨.int i, rfl, .int i, rfl, rfl, ?_⟩⟩⟩
      rw [decide_eq_true rfl]
      exact q _ ((same_new nt).trans (same_new nt2))
    · refine ⟨.str z, rfl, (by show 2 ≤ sizeLine; decide), fun t nt => ?_⟩
      refine ⟨.str z, t, _, .type "str", _, false, rfl, upd_same, .cons (.ty "list") (.cons (.ty "tuple") .nil), .base (.str z), ka2 (r1 := false) (r2 := false) (by decide +kernel) (by decide +kernel), _, rfl, iteF ?_⟩
      refine ⟨.str z, rfl, rfl, _, rfl, iteF ?_⟩
      refine ⟨.str z, rfl, (by show 2 ≤ sizeLine; decide), fun t2 nt2 => ?_⟩
      refine ⟨.str z, t2, _, .type "str", _, true, rfl, upd_same, .cons (.ty "str") (.cons (.ty "bool") .nil), .base (.str z), ka2 (r1 := true) (r2 := false) (by decide +kernel) (by decide +kernel), _, rfl, iteT ?_⟩
      refine ⟨.str z, rfl, .str z, rfl, rfl, true, (by rw [decide_eq_true rfl]), iteT ⟨.str z, rfl, .str z, .ty "bool", _, _, false, rfl, .ty "bool", .base (.str z), kit_ty (by decide +kernel), .str z, rfl, .str z, .ty "bool", _, _, false, rfl, .ty "bool", .base (.str z), kit_ty (by decide +kernel), rfl, true, rfl, iteT ⟨.str z, rfl, rfl, .str z, rfl, rfl, rfl, ?_⟩⟩⟩
      exact q _ ((same_new nt).trans (same_new nt2))
    · exact fl.elim
    · exact fl.elim
    · exact fl.elim
    · exact fl.elim
def spSeq (n : Nat) : Sp := fun vs H Q _ => ∃ a b xs ys, vs = [.ref a, .ref b] ∧ xs.length = ys.length ∧ xs.length ≤ 10000 ∧ ((H a = some (.lst xs) ∧ H b = some (.lst ys)) ∨ (H a = some (.tup xs) ∧ H b = some (.tup ys))) ∧
  (∀ (i : Nat) (u v : V), xs[i]? = some u → ys[i]? = some v → Eqd H n u v) ∧ ∀ H', Same H H' → Q (.bl true) H'
theorem ok_seq {f : Addr} {fd : FuncData} (F : Fun K "_law_same" "_law_same" sSame f fd) (B : Bi mg) (g : mg "_law_same" = some (.ref f)) (bd : Binds K fd psSame []) {n k : Nat} (G : FnOk P w K mg base CX0 (k + 1) f fd psSame (spSame n)) : FnOk P w K mg base CX0 (k + 2) f fd psSame (spSeq n) := by
  refine F.ok scSame (fun vs H Q E h => ?_) (fun cdv A outer s H vs Q E hr h => ?_)
  · obtain ⟨a, b, xs, ys, rfl, _⟩ := h
    rfl
  · obtain ⟨a, b, xs, ys, rfl, el, lz, hab, hd, q⟩ := h
    refine ⟨_, pss_cons (ps_if (pt_val (pe_callB call_isiT (by rfl) B.isinstance (by decide +kernel) (pa_cons (pv 1) (pa_cons (pe_tup (pa_cons (pe_bltn (v := .ty "list") (by rfl) B.list (by decide +kernel) rfl) (pa_cons (pe_bltn (v := .ty "tuple") (by rfl) B.tuple (by decide +kernel) rfl) pa_nil))) pa_nil))))
        (pss_cons (ps_if (PW.pt (pw_or (pt_cmpR op_ne (pe_callB call_isi (by rfl) B.isinstance (by decide +kernel) (pa_cons (pv 0) (pa_cons (pe_bltn (v := .ty "list") (by rfl) B.list (by decide +kernel) rfl) pa_nil))) (pe_callB call_isi (by rfl) B.isinstance (by decide +kernel) (pa_cons (pv 1) (pa_cons (pe_bltn (v := .ty "list") (by rfl) B.list (by decide +kernel) rfl) pa_nil))) (nomark _))
            (pw_or1 (pt_cmpR op_ne (pe_callB call_isi (by rfl) B.isinstance (by decide +kernel) (pa_cons (pv 0) (pa_cons (pe_bltn (v := .ty "tuple") (by rfl) B.tuple (by decide +kernel) rfl) pa_nil))) (pe_callB call_isi (by rfl) B.isinstance (by decide +kernel) (pa_cons (pv 1) (pa_cons (pe_bltn (v := .ty "tuple") (by rfl) B.tuple (by decide +kernel) rfl) pa_nil))) (nomark _))))) pss_never pss_nil)
        (pss_one (ps_ret (pe_and (pe_cmpR op_eq (pe_callB call_len_seq (by rfl) B.len PySem.boot_len (pa_cons (pv 0) pa_nil)) (pe_callB call_len_seq (by rfl) B.len PySem.boot_len (pa_cons (pv 1) pa_nil)) (nomark _))
          (pe_one (pe_callB (cr_all rfl) (by rfl) B.all (by decide +kernel) (pa_cons (pe_lc (own := [("_law_one", 2), ("_law_two", 3)]) (g := gTup K 2 (gCons (gName 2) (gCons (gName 3) gNil))) (tt := tYes) (by rfl) scSame.nd (RZ.pi_zipA (by rfl) B.zip (pa_cons (pv 0) (pa_cons (pv 1) pa_nil))) (blkOk_by (own := [("_law_one", 2), ("_law_two", 3)]) (N := nSame) (sc := defScope sSame) (by decide +kernel))
            (fun _ _ _ _ _ => pgtup_K (K := K) rfl (pg_tup rfl (pgs_cons (pg_name (i := 2) scSame.nd rfl (Or.inl rfl)) (pgs_cons (pg_name (i := 3) scSame.nd rfl (Or.inl rfl)) pgs_nil)))) (fun _ _ _ _ _ => pts_nil) (fun _ _ _ _ _ => pe_call G hr (by rfl) g F.kp bd .nil pass0 (pa_cons (pv 2) (pa_cons (pv 3) pa_nil)))) pa_nil))))))) pss_nil)
      pss_never, ?_⟩
    have go : ∀ (T : String) (r1 r2 : Bool) (H2 : Hp), Same H H2 → (∀ H3, Same H H3 → TyX K H3 (.ref a) (.type T) ∧ TyX K H3 (.ref b) (.type T)) → True := fun _ _ _ _ _ _ => trivial
    have lens : ∀ H2, Same H H2 → (SqL K H2 a xs ∨ SqT K H2 a xs) ∧ (SqL K H2 b ys ∨ SqT K H2 b ys) := fun H2 sm => by
      rcases hab with ⟨h1, h2⟩ | ⟨h1, h2⟩
      · exact ⟨.inl (SqL.of (sm _ _ h1)), .inl (SqL.of (sm _ _ h2))⟩
      · exact ⟨.inr (SqT.of (sm _ _ h1)), .inr (SqT.of (sm _ _ h2))⟩
    have turn : ∀ (D : Addr) (t : Addr) (H1 : Hp), True := fun _ _ _ => trivial
    have tail : ∀ H2 : Hp, Same H H2 → tRet (tAndV (tOp rEq (tCB (fun xs H Q => ∃ p ys, xs = [.ref p] ∧ (SqL K H p ys ∨ SqT K H p ys) ∧ Q (.int ys.length) H) (tCons (tVar 0) tNil)) (tCB (fun xs H Q => ∃ p ys, xs = [.ref p] ∧ (SqL K H p ys ∨ SqT K H p ys) ∧ Q (.int ys.length) H) (tCons (tVar 1) tNil)))
        (tCB (rAll K) (tCons (tLc (RZ.iZipA K (tCons (tVar 0) (tCons (tVar 1) tNil))) (gTup K 2 (gCons (gName 2) (gCons (gName 3) gNil))) tYes (tCall (spSame n) [] E0 (tCons (tVar 2) (tCons (tVar 3) tNil))) [2, 3]) tNil))) { nx := fun _ H' => Q .non H', rt := Q } [some (.ref a), some (.ref b), none, none] H2 := by
      intro H2 sm
      obtain ⟨l1, l2⟩ := lens H2 sm
      refine ⟨.ref a, rfl, a, xs, rfl, l1, .ref b, rfl, b, ys, rfl, l2, rfl, true, (by rw [el, decide_eq_true rfl]), iteT ?_⟩
      have hs : ∀ (D : Addr), H2 D = none → ∀ (i : Nat) (x : V) (H3 H4 : Hp), i < xs.length → (Same H2 H3 ∧ H3 D = some (.lst (List.replicate i (.bl true)))) → YPair (fun i => xs[i]?) (fun i => ys[i]?) i H3 x H4 →
          (gTup K 2 (gCons (gName 2) (gCons (gName 3) gNil))) x (wipe [some (.ref a), some (.ref b), none, none] [2, 3]) H4 fun σ2 H5 => wipe σ2 [2, 3] = wipe [some (.ref a), some (.ref b), none, none] [2, 3] ∧ tYes σ2 H5 fun b H6 =>
            if b = true then (tCall (spSame n) [] E0 (tCons (tVar 2) (tCons (tVar 3) tNil))) σ2 H6 fun y H7 => ∃ acc, H7 D = some (.lst acc) ∧ acc.length < sizeLine ∧ (Same H2 (upd H7 D (.lst (acc ++ [y]))) ∧ (upd H7 D (.lst (acc ++ [y]))) D = some (.lst (List.replicate (i + 1) (.bl true)))) else (Same H2 H6 ∧ H6 D = some (.lst (List.replicate (i + 1) (.bl true)))) := by
        rintro D nD i x H3 H4 hi ⟨sm3, hD⟩ ⟨T, x1, x2, rfl, nT, rfl, hx1, hx2⟩
        refine ⟨T, _, rfl, SqT.of upd_same, rfl, _, _, rfl, _, _, rfl, rfl, ?_⟩
        refine ⟨rfl, yes_ok ⟨x1, rfl, x2, rfl, x1, x2, rfl, ?_, fun H7 sm7 => ?_⟩⟩
        · exact ((hd i x1 x2 hx1 hx2).mono (sm.trans sm3)).mono (same_new nT)
        · have hD7 := sm7 _ _ (upd_keep hD nT)
          refine ⟨_, hD7, ?_, ?_, ?_⟩
          · rw [List.length_replicate]; exact szl (by omega)
          · exact same_mut (sm3.trans ((same_new nT).trans sm7)) nD
          · rw [upd_same, rep_app]
      have fin : ∀ (D : Addr) (H3 : Hp), (Same H2 H3 ∧ H3 D = some (.lst (List.replicate xs.length (.bl true)))) → rAll K [.ref D] H3 Q := by
        rintro D H3 ⟨sm3, hD⟩
        refine ⟨D, List.replicate xs.length true, rfl, ?_, ?_⟩
        · rw [rep_bl]; exact SqL.of hD
        · rw [all_true]; exact q H3 (sm.trans sm3)
      rcases hab with ⟨h1, h2⟩ | ⟨h1, h2⟩
      · refine ⟨.ref a, rfl, .ref b, rfl, a, b, xs, ys, rfl, .inl ⟨SqL.of (sm _ _ h1), SqL.of (sm _ _ h2), fun D nD => ?_⟩⟩
        refine lc_it (walk_zip (K := K) (a := a) (b := b) (xs := xs) (ys := ys) (n := xs.length) (by omega)) (fun i H3 => Same H2 H3 ∧ H3 D = some (.lst (List.replicate i (.bl true)))) ⟨same_new nD, upd_same⟩ ?_ (hs D nD) (fin D)
        rintro i H3 _ ⟨sm3, _⟩
        exact ⟨SqL.of (sm3 _ _ (sm _ _ h1)), SqL.of (sm3 _ _ (sm _ _ h2))⟩
      · refine ⟨.ref a, rfl, .ref b, rfl, a, b, xs, ys, rfl, .inr ⟨SqT.of (sm _ _ h1), SqT.of (sm _ _ h2), fun D nD => ?_⟩⟩
        refine lc_it (walk_zipT (K := K) (a := a) (b := b) (xs := xs) (ys := ys) (n := xs.length) (by omega)) (fun i H3 => Same H2 H3 ∧ H3 D = some (.lst (List.replicate i (.bl true)))) ⟨same_new nD, upd_same⟩ ?_ (hs D nD) (fin D)
        rintro i H3 _ ⟨sm3, _⟩
        exact ⟨SqT.of (sm3 _ _ (sm _ _ h1)), SqT.of (sm3 _ _ (sm _ _ h2))⟩
    rcases hab with ⟨h1, h2⟩ | ⟨h1, h2⟩
    · refine ⟨.ref b, rfl, (by show 2 ≤ sizeLine; decide), fun t nt => ?_⟩
      have h1' := upd_keep (u := .tup [.ty "list", .ty "tuple"]) h1 nt
      have h2' := upd_keep (u := .tup [.ty "list", .ty "tuple"]) h2 nt
      refine ⟨.ref b, t, _, .type "list", _, true, rfl, upd_same, .cons (.ty "list") (.cons (.ty "tuple") .nil), .base (.lst h2'), ka2 (r1 := true) (r2 := false) (by decide +kernel) (by decide +kernel), _, rfl, iteT ?_⟩
      refine ⟨.ref a, rfl, .ref a, .ty "list", _, _, true, rfl, .ty "list", .base (.lst h1'), kit_ty (by decide +kernel), .ref b, rfl, .ref b, .ty "list", _, _, true, rfl, .ty "list", .base (.lst h2'), kit_ty (by decide +kernel), rfl, false, rfl, iteF ?_⟩
      refine ⟨.ref a, rfl, .ref a, .ty "tuple", _, _, false, rfl, .ty "tuple", .base (.lst h1'), kit_ty (by decide +kernel), .ref b, rfl, .ref b, .ty "tuple", _, _, false, rfl, .ty "tuple", .base (.lst h2'), kit_ty (by decide +kernel), rfl, false, rfl, iteF ?_⟩
      exact tail _ (same_new nt)
    · refine ⟨.ref b, rfl, (by show 2 ≤ sizeLine; decide), fun t nt => ?_⟩
      have h1' := upd_keep (u := .tup [.ty "list", .ty "tuple"]) h1 nt
      have h2' := upd_keep (u := .tup [.ty "list", .ty "tuple"]) h2 nt
      refine ⟨.ref b, t, _, .type "tuple", _, true, rfl, upd_same, .cons (.ty "list") (.cons (.ty "tuple") .nil), .base (.tup h2'), ka2 (r1 := false) (r2 := true) (by decide +kernel) (by decide +kernel), _, rfl, iteT ?_⟩
      refine ⟨.ref a, rfl, .ref a, .ty "list", _, _, false, rfl, .ty "list", .base (.tup h1'), kit_ty (by decide +kernel), .ref b, rfl, .ref b, .ty "list", _, _, false, rfl, .ty "list", .base (.tup h2'), kit_ty (by decide +kernel), rfl, false, rfl, iteF ?_⟩
      refine ⟨.ref a, rfl, .ref a, .ty "tuple", _, _, true, rfl, .ty "tuple", .base (.tup h1'), kit_ty (by decide +kernel), .ref b, rfl, .ref b, .ty "tuple", _, _, true, rfl, .ty "tuple", .base (.tup h2'), kit_ty (by decide +kernel), rfl, false, rfl, iteF ?_⟩
      exact tail _ (same_new nt)
theorem ok_same {f : Addr} {fd : FuncData} (F : Fun K "_law_same" "_law_same" sSame f fd) (B : Bi mg) (g : mg "_law_same" = some (.ref f)) (bd : Binds K fd psSame []) : ∀ n, FnOk P w K mg base CX0 (n + 1) f fd psSame (spSame n)
  | 0 => ok_same0 F B
  | n + 1 => FnOk.imp (fn_or (ok_same0 F B) (ok_seq F B g bd (ok_same F B g bd n))) fun vs H Q E h => by
    obtain ⟨x, y, rfl, h, q⟩ := h
    rcases h with h | ⟨a, b, xs, ys, rfl, rfl, e3, e4, e5, e6⟩
    · exact .inl ⟨x, y, rfl, h, q⟩
    · exact .inr ⟨a, b, xs, ys, rfl, e3, e4, e5, e6, q⟩
end
end Lp

namespace Lp
open PySem PySem.Spec PyProof.Rows L2
/-! ### calls, as functions of lists -/
def gt (ns : List Int) (i : Int) : Int := ns.getD i.toNat 0
def call1 (ns : List Int) (w : Int) : List Int := ns.set w.toNat (gt ns (gt ns w))
def callAll (ns ws : List Int) : List Int := ws.foldl call1 ns
theorem call1_len (ns : List Int) (w : Int) : (call1 ns w).length = ns.length := by unfold call1; rw [List.length_set]
theorem callAll_len : ∀ (ws ns : List Int), (callAll ns ws).length = ns.length
  | [], _ => rfl
  | w :: ws, ns => by
    show (callAll (call1 ns w) ws).length = ns.length
    rw [callAll_len ws, call1_len]
theorem gt_get {ns : List Int} {i : Int} (h0 : 0 ≤ i) (h1 : i < (ns.length : Int)) : ns[i.toNat]? = some (gt ns i) := by
  unfold gt
  have hl : i.toNat < ns.length := by omega
  rw [List.getD_eq_getElem?_getD, List.getElem?_eq_getElem hl]; rfl
theorem gt_at {ns : List Int} {i : Int} (h0 : 0 ≤ i) (h1 : i < (ns.length : Int)) : atI (IL ns) i = some (.int (gt ns i)) :=
  at_of (j := i.toNat) (by omega) (IL_get (gt_get h0 h1))
theorem gt_low {n : Nat} {ns : List Int} {i : Int} (h : Low n ns) (h0 : 0 ≤ i) (h1 : i < (ns.length : Int)) : 0 ≤ gt ns i ∧ gt ns i < (n : Int) := h.at (gt_get h0 h1)
theorem call1_low {n : Nat} {ns : List Int} {w : Int} (h : Low n ns) (hn : ns.length = n) (h0 : 0 ≤ w) (h1 : w < (n : Int)) : Low n (call1 ns w) := by
  have a := gt_low h h0 (by omega)
  have b := gt_low h a.1 (by omega)
  exact h.set b.1 b.2
theorem callAll_low {n : Nat} : ∀ (ws ns : List Int), Low n ns → ns.length = n → Low n ws → Low n (callAll ns ws)
  | [], _, h, _, _ => h
  | w :: ws, ns, h, hn, hw => by
    have q := hw w (List.mem_cons_self)
    exact callAll_low ws (call1 ns w) (call1_low h hn q.1 q.2) (by rw [call1_len]; exact hn) fun z hz => hw z (List.mem_cons_of_mem _ hz)
theorem callAll_snoc (ns ws : List Int) (w : Int) : callAll ns (ws ++ [w]) = call1 (callAll ns ws) w := by
  unfold callAll; rw [List.foldl_append]; rfl
theorem take_snoc {ws : List Int} {i : Nat} (h : i < ws.length) : ws.take (i + 1) = ws.take i ++ [ws[i]] := by
  rw [List.take_add_one, List.getElem?_eq_getElem h]; rfl
theorem callAll_step (ns : List Int) {ws : List Int} {i : Nat} (h : i < ws.length) : callAll ns (ws.take (i + 1)) = call1 (callAll ns (ws.take i)) ws[i] := by
  rw [take_snoc h, callAll_snoc]
theorem Low.take {n : Nat} {ws : List Int} (h : Low n ws) (i : Nat) : Low n (ws.take i) := fun z hz => h z (List.mem_of_mem_take hz)
/-- a list or a tuple that stands in H -/
def Sq (H : Hp) (a : Addr) (xs : List V) : Prop := H a = some (.lst xs) ∨ H a = some (.tup xs)
theorem Sq.s {K : PySem.W.Frag} {H : Hp} {a : Addr} {xs : List V} (h : Sq H a xs) : SqL K H a xs ∨ SqT K H a xs := h.elim (fun h => .inl (SqL.of h)) (fun h => .inr (SqT.of h))
theorem Sq.mono {H H' : Hp} {a : Addr} {xs : List V} (h : Sq H a xs) (s : Same H H') : Sq H' a xs := h.elim (fun h => .inl (s _ _ h)) (fun h => .inr (s _ _ h))
section
variable {P : Program} {w : World} {K : PySem.W.Frag} {mg : Str → Option Value} {base : Heap}
/-! ### check_person -/
abbrev sCheckP : Stmt := topS 3
theorem scCheckP : FnScope ["state", "person"] ["state", "person"] (defScope sCheckP) := ⟨rfl, rfl, rfl, by decide +kernel, rfl, by decide +kernel, by decide +kernel⟩
def spCheckP : Sp := fun vs H Q _ => ∃ (a : Addr) (p : Int) (xs : List V), vs = [.ref a, .int p] ∧ Sq H a xs ∧ 0 ≤ p ∧ p < (xs.length : Int) ∧ Q .non H
theorem ok_checkP {f : Addr} {fd : FuncData} {k : Nat} (F : Fun K "check_person" "check_person" sCheckP f fd) (B : Bi mg) : FnOk P w K mg base CX0 (k + 1) f fd ["state", "person"] spCheckP := by
  refine F.ok scCheckP (fun vs H Q E h => ?_) (fun cdv A outer s H vs Q E hr h => ?_)
  · obtain ⟨a, p, xs, rfl, _⟩ := h
    rfl
  · obtain ⟨a, p, xs, rfl, hS, p0, p1, q⟩ := h
    refine ⟨_, pss_one (ps_if (pt_not (pt_chain op_le op_lt pe_int (pv 1) (pe_callB call_len_seq (by rfl) B.len PySem.boot_len (pa_cons (pv 0) pa_nil)))) pss_never pss_nil), ?_⟩
    refine ⟨.int p, rfl, 0, p, rfl, rfl, _, rfl, ?_⟩
    rw [decide_eq_true p0]
    refine iteT ⟨.ref a, rfl, a, xs, rfl, hS.s, p, _, rfl, rfl, _, rfl, ?_⟩
    rw [decide_eq_true p1]
    exact iteF q
end
end Lp

namespace Lp
open PySem PySem.Spec PyProof.Rows L2
/-! ### idle calls -/
def idleB (ns ws : List Int) (i : Nat) : Bool := decide (callAll ns (ws.take i) = callAll ns (ws.take (i + 1)))
def idleN (ns ws : List Int) (m : Nat) : List Int := ((List.range m).filter (idleB ns ws)).map Int.ofNat
def idleL (ns ws : List Int) : List Int := idleN ns ws ws.length
theorem idleN_succ (ns ws : List Int) (m : Nat) : idleN ns ws (m + 1) = if idleB ns ws m then idleN ns ws m ++ [(m : Int)] else idleN ns ws m := by
  unfold idleN
  rw [List.range_succ, List.filter_append]
  by_cases h : idleB ns ws m = true
  · rw [if_pos h, List.filter_cons_of_pos h, List.map_append]; rfl
  · rw [if_neg h, List.filter_cons_of_neg h, List.filter_nil, List.append_nil]
theorem idleN_len (ns ws : List Int) (m : Nat) : (idleN ns ws m).length ≤ m := by
  unfold idleN
  rw [List.length_map]
  exact Nat.le_trans (List.length_filter_le _ _) (by rw [List.length_range]; exact Nat.le_refl m)
theorem idleN_mem {ns ws : List Int} {m i : Nat} : (i : Int) ∈ idleN ns ws m ↔ i < m ∧ idleB ns ws i = true := by
  unfold idleN
  constructor
  · intro h
    obtain ⟨j, hj, e⟩ := List.mem_map.mp h
    have : j = i := Int.ofNat.inj e
    subst this
    have := List.mem_filter.mp hj
    exact ⟨List.mem_range.mp this.1, this.2⟩
  · rintro ⟨h1, h2⟩
    exact List.mem_map.mpr ⟨i, List.mem_filter.mpr ⟨List.mem_range.mpr h1, h2⟩, rfl⟩
/-- a call changes nothing exactly if the person points at a root -/
theorem call1_idle {ns : List Int} {w : Int} (h0 : 0 ≤ w) (h1 : w < (ns.length : Int)) : call1 ns w = ns ↔ gt ns (gt ns w) = gt ns w := by
  have g := gt_get h0 h1
  have hl : w.toNat < ns.length := by omega
  unfold call1
  constructor
  · intro e
    have e2 : (ns.set w.toNat (gt ns (gt ns w)))[w.toNat]? = some (gt ns (gt ns w)) := List.getElem?_set_self hl
    rw [e, g] at e2
    exact (Option.some.inj e2).symm
  · intro e
    rw [e]
    apply List.ext_getElem?
    intro i
    by_cases hi : w.toNat = i
    · subst hi
      rw [List.getElem?_set_self hl, g]
    · rw [List.getElem?_set_ne hi]
theorem idleB_step {ns ws : List Int} {i : Nat} (h : i < ws.length) (lo : Low ns.length ns) (lw : Low ns.length ws) :
    idleB ns ws i = decide (gt (callAll ns (ws.take i)) (gt (callAll ns (ws.take i)) ws[i]) = gt (callAll ns (ws.take i)) ws[i]) := by
  unfold idleB
  have z := lw.at (List.getElem?_eq_getElem h)
  have len : (callAll ns (ws.take i)).length = ns.length := callAll_len _ _
  have := call1_idle (ns := callAll ns (ws.take i)) (w := ws[i]) z.1 (by omega)
  rw [callAll_step ns h]
  by_cases q : call1 (callAll ns (ws.take i)) ws[i] = callAll ns (ws.take i)
  · rw [decide_eq_true q.symm, decide_eq_true (this.mp q)]
  · rw [decide_eq_false fun e => q e.symm, decide_eq_false fun e => q (this.mpr e)]
/-- the word without its idle calls -/
def restN (ns ws : List Int) : Nat → List Int
  | 0 => []
  | m + 1 => if idleB ns ws m then restN ns ws m else restN ns ws m ++ [ws.getD m 0]
theorem getD_at {ws : List Int} {m : Nat} (h : m < ws.length) : ws.getD m 0 = ws[m] := by
  rw [List.getD_eq_getElem?_getD, List.getElem?_eq_getElem h]; rfl
theorem rest_low {n : Nat} {ns ws : List Int} (lw : Low n ws) : ∀ m, m ≤ ws.length → Low n (restN ns ws m)
  | 0, _ => fun z h => nomatch h
  | m + 1, h => by
    unfold restN
    split
    · exact rest_low lw m (by omega)
    · have z := lw.at (List.getElem?_eq_getElem (show m < ws.length by omega))
      rw [getD_at (by omega)]
      exact (rest_low lw m (by omega)).app z.1 z.2
theorem rest_len (ns ws : List Int) : ∀ m, (restN ns ws m).length ≤ m
  | 0 => Nat.le_refl 0
  | m + 1 => by
    have := rest_len ns ws m
    unfold restN
    split
    · omega
    · rw [List.length_append]; show _ + 1 ≤ _; omega
theorem rest_all (ns ws : List Int) : ∀ m, m ≤ ws.length → callAll ns (restN ns ws m) = callAll ns (ws.take m)
  | 0, _ => by rw [List.take_zero]; rfl
  | m + 1, h => by
    have ih := rest_all ns ws m (by omega)
    unfold restN
    by_cases q : idleB ns ws m = true
    · rw [if_pos q, ih]
      exact of_decide_eq_true q
    · rw [if_neg q, callAll_snoc, ih, callAll_step ns (show m < ws.length by omega), getD_at (by omega)]
theorem rest_busy (ns ws : List Int) : ∀ m, m ≤ ws.length → ∀ j, j < (restN ns ws m).length → callAll ns ((restN ns ws m).take j) ≠ callAll ns ((restN ns ws m).take (j + 1))
  | 0, _, j, h => by simp [restN] at h
  | m + 1, h, j, hj => by
    have ih := rest_busy ns ws m (by omega)
    unfold restN at hj ⊢
    by_cases q : idleB ns ws m = true
    · rw [if_pos q] at hj ⊢
      exact ih j hj
    · rw [if_neg q] at hj ⊢
      rw [List.length_append] at hj
      have hj' : j < (restN ns ws m).length + 1 := hj
      by_cases hlt : j < (restN ns ws m).length
      · rw [List.take_append_of_le_length (by omega), List.take_append_of_le_length (by omega)]
        exact ih j hlt
      · have e : j = (restN ns ws m).length := by omega
        subst e
        rw [List.take_append_of_le_length (Nat.le_refl _), List.take_length]
        have e2 : (restN ns ws m ++ [ws.getD m 0]).take ((restN ns ws m).length + 1) = restN ns ws m ++ [ws.getD m 0] := List.take_of_length_le (by rw [List.length_append]; exact Nat.le_refl _)
        rw [e2, callAll_snoc, rest_all ns ws m (by omega), getD_at (by omega), ← callAll_step ns (show m < ws.length by omega)]
        intro z
        exact q (decide_eq_true z)
theorem rest_idle (ns ws : List Int) : idleL ns (restN ns ws ws.length) = [] := by
  unfold idleL idleN
  rw [List.filter_eq_nil_iff.mpr]
  · rfl
  · intro j hj
    have := rest_busy ns ws ws.length (Nat.le_refl _) j (List.mem_range.mp hj)
    intro z
    exact this (of_decide_eq_true z)
section
variable {P : Program} {w : World} {K : PySem.W.Frag} {mg : Str → Option Value} {base : Heap}
end
end Lp

namespace Lp
open PySem PySem.Spec PyProof.Rows L2
/-! ### a call whose arguments are all named, in the reverse order -/
def KbR (fd : FuncData) (ps : List Str) : Prop := ∀ (s : Shared) (ws : List Value), ws.length = ps.length → BindsTo s fd ⟨[], ps.reverse.zip ws⟩ (ps.zip ws.reverse)
theorem Fun.kbr {K : PySem.W.Frag} {x qual : Str} {st : Stmt} {f : Addr} {fd : FuncData} {ps : List Str} (F : Fun K x qual st f fd)
    (h : ∀ (kV doc pm : Value) (an : Option Addr) (cdv ct : Value) (ws : List Value), ws.length = ps.length → bindArgs (PySem.W.fnOf x qual (defArgs st) (defBody st) (defScope st) .none kV doc pm an cdv ct) ⟨[], ps.reverse.zip ws⟩ = pure (ps.zip ws.reverse)) : KbR fd ps := by
  obtain ⟨oc, od, kV, doc, pm, an, cdv, ct, osl, rfl, lk, hcd⟩ := F.ex
  exact fun s ws hl => .of_eq (h kV doc pm an cdv ct ws hl)
def tCallR (sp : Sp) (E : XK) (tk : TA) : TE := fun σ H Q => tk σ H fun zs H2 => sp zs.reverse H2 Q E
theorem pe_callR {X : Cx} {CX : CXT} {k : Nat} {f : Addr} {fd : FuncData} {ps : List Str} {sp : Sp} {E : XK} {x : Str} {p pos : Pos} {kws : List Keyword} {tk : TA} (F : FnOk X.prog X.w X.K X.mg X.base CX k f fd ps sp) (hr : Room k X.A) (hg : Gl X x) (hm : X.mg x = some (.ref f)) (hk : PySem.W.keepIn X.K (.ref f) = true) (hb : KbR fd ps) (hx : Passes CX X E)
    (hkw : PK X kws tk) (hall : (backToKw pos (keywordEach kws X.env)).all (·.1.isSome) = true := by rfl) (hks : (backToKw pos (keywordEach kws X.env)).filterMap (·.1) = ps.reverse := by rfl) (hdb : (x == ("__debug__" : Str)) = false := by decide)
    (hpl : ((backTo pos (starEach [] X.env)).any (·.1) || (backToKw pos (keywordEach kws X.env)).any (·.1.isNone)) = false := by rfl) :
    PE X (.Call (.Name x p) [] kws pos) (tCallR sp E tk) := by
  refine ⟨fun pins s σ H Q I h => ?_⟩
  refine wpAny_Call_Name_kw (ld_glob I hg hm ?_ hdb)
  refine PySem.W.callWith_KW0 (h₀ := X.base) I.ok.mod.kin hk hall ?_ hpl
  refine thn (hkw.run pos pins s σ H _ I h) fun ws s2 ⟨zs, H2, I2, rz, q2⟩ => ⟨I2.kIn, ?_⟩
  rw [hks]
  have hl : ws.length = ps.length := by
    rw [← rz.length, ← List.length_reverse]; exact F.len _ _ _ _ q2
  refine wpAny_call (codeAny_mono (F.run X.A X.stack s2 H2 ⟨[], ps.reverse.zip ws⟩ ws.reverse zs.reverse Q E hr I2.env0 (hb s2 ws hl) rz.reverse q2) fun r s' hq => ?_)
  cases r with
  | error e => exact hx pins σ H2 s2 e s' I2 hq
  | ok fl =>
    cases fl with
    | ret u => exact I2.after hq
    | next => exact False.elim hq
    | brk => exact False.elim hq
    | cont => exact False.elim hq
theorem inV_ints (z : Int) : ∀ ns : List Int, inV (.int z) (IL ns) = decide (z ∈ ns)
  | [] => by simp [inV]
  | x :: r => by
    have ih := inV_ints z r
    unfold inV at ih ⊢
    show (eqV (.int x) (.int z) || (IL r).any fun y => eqV y (V.int z)) = _
    rw [ih]
    simp only [eqV]
    by_cases h : x = z
    · subst h; simp
    · have h2 : ¬ z = x := fun e => h e.symm
      simp [h, h2]
theorem flat_ints (ns : List Int) : (IL ns).all flatV = true := by
  rw [List.all_eq_true]
  intro x hx
  obtain ⟨z, _, rfl⟩ := List.mem_map.mp hx
  rfl
end Lp

namespace Lp
open PySem PySem.Spec PyProof.Rows L2
/-! ### promises that hold where no repr is under way -/
structure FnG (P : Program) (w : World) (K : PySem.W.Frag) (mg : Str → Option Value) (base : Heap) (k : Nat) (f : Addr) (fd : FuncData) (ps : List Str) (sp : Sp) : Prop where
  len : ∀ vs H Q E, sp vs H Q E → vs.length = ps.length
  go : ∀ (A : Around) (outer : List Env) (s : Shared) (H : Hp) (args : Args) (us : List Value) (vs : List V) (Q : VK) (E : XK), A.guards = some [] → Room k A → Env0 P w K mg base A outer s H →
    BindsTo s fd args (ps.zip us) → Vals vs us → sp vs H Q E → codeAny (model P w) A (.call (.ref f) args) (CR CX0 outer P w H s Q E) s
section
variable {P : Program} {w : World} {K : PySem.W.Frag} {mg : Str → Option Value} {base : Heap}
theorem okG {x qual : Str} {st : Stmt} {f : Addr} {fd : FuncData} {N ps : List Str} {k : Nat} {sp : Sp} (F : Fun K x qual st f fd) (S : FnScope N ps (defScope st)) (len : ∀ vs H Q E, sp vs H Q E → vs.length = ps.length)
    (body : ∀ (cdv : Value) (A : Around) (outer : List Env) (s : Shared) (H : Hp) (vs : List V) (Q : VK) (E : XK), A.guards = some [] → Room k (A.deeper (envOfC qual (defScope st) s.heap.objs.size f cdv)) → sp vs H Q E →
      ∃ t, PSs (cxOf CX0 P w K mg base N qual (defScope st) f cdv A outer s H E).nox (defBody st) t ∧ t { nx := fun _ H' => Q .non H', rt := Q } (start N vs) H) : FnG P w K mg base (k + 1) f fd ps sp := by
  obtain ⟨oc, od, kV, doc, pm, an, cdv, ct, osl, rfl, look, code⟩ := F.ex
  constructor
  · exact len
  · intro A outer s H args us vs Q E gA room env bind rel want
    have stays : ∀ b o, base.get? b = some o → s.heap.get? b = some o := fun b o e => (env.bs b o e).1
    have inK := env.mod.kin.keeps stays
    obtain ⟨t, hT, hWant⟩ := body cdv A outer s H vs Q E gA (room.deeper _) want
    have places : ∀ y ∈ ps.zip us, (defScope st).names.lookup y.1 = some .local ∨ ((defScope st).names.lookup y.1 = some .cell ∧ ((cellsFrom (s.heap.objs.size + 1) (defScope st).names []).lookup y.1).isSome = true) := by
      rintro ⟨n, v⟩ hy
      exact (S.par n (List.of_mem_zip hy).1).imp id fun q => ⟨q, PySem.W.cellsFrom_some _ _ _ (.inl q)⟩
    refine codeAny_call_function room.depth (inK _ _ look) rfl S.co S.gen rfl (PySem.W.codeRec_of inK code) (bind _ _ _ _ (wpAny_newFunctionEnv_cells S.kind places ?_))
    intro env' e' s1 made
    subst e'
    have I0 : Inv (cxOf CX0 P w K mg base N qual (defScope st) f cdv A outer s H E) [] (start N vs) H s1 := inv_start S room.hd env (len _ _ _ _ want) rel made
    have done : ∀ (σ' : L2.St) (H' : Hp) (v : V) (u : Value) (s' : Shared), Inv (cxOf CX0 P w K mg base N qual (defScope st) f cdv A outer s H E) [] σ' H' s' → RelV v u → Q v H' → CE outer P w H s Q u s' :=
      fun _ H' v _ _ J ru qv => ⟨v, H', J.os, J.bare, J.base, J.hok, ru, qv⟩
    refine ⟨(env.mod.nolimit.keeps stays).keeps made.toInCall.keep, codeAny_func (wpAny_mono ((PSs.nox hT).run [] s1 _ H _ I0 hWant) ?_ fun _ _ z => z)⟩
    intro fl s' ends
    match fl, ends with
    | .ret u, ends =>
      obtain ⟨v, σ', H', J, ru, qv⟩ := ends
      exact done σ' H' v u s' J ru qv
    | .next, ends =>
      obtain ⟨σ', H', J, qv⟩ := ends
      exact done σ' H' .non Value.none s' J rfl qv
    | .brk, ends => exact (ends.elim fun _ z => z.elim fun _ y => y.2).elim
    | .cont, ends => exact (ends.elim fun _ z => z.elim fun _ y => y.2).elim
end
/-- a call of such a def -/
theorem pe_callG {X : Cx} {k : Nat} {f : Addr} {fd : FuncData} {ps : List Str} {sp : Sp} {x : Str} {p pos : Pos} {e : Expr} {es : List Expr} {t : TA} (F : FnG X.prog X.w X.K X.mg X.base k f fd ps sp) (gA : X.A.guards = some []) (hr : Room k X.A) (hg : Gl X x) (hm : X.mg x = some (.ref f)) (hk : PySem.W.keepIn X.K (.ref f) = true) (hb : Binds X.K fd ps [])
    (ha : PA X (e :: es) t) (hdb : (x == ("__debug__" : Str)) = false := by decide) (he : starEach (e :: es) X.env = (false, eval e X.env) :: starEach es X.env := by rfl) (hpl : (backTo pos (starEach es X.env)).any (·.1) = false := by rfl) :
    PE X (.Call (.Name x p) (e :: es) [] pos) (tCall sp [] E0 t) := by
  constructor
  intro pins s σ H Q I h
  refine wpAny_Call_Name_kw (ld_glob I hg hm (PySem.W.callWith_K (h₀ := X.base) I.ok.mod.kin hk (thn (ha.run pos pins s σ H _ I h) ?_) he hpl) hdb)
  rintro us s1 ⟨vs, H1, J, rel, want⟩
  rw [List.append_nil] at want
  refine ⟨J.kIn, ?_⟩
  have hl : (us ++ []).length = ps.length := by rw [List.append_nil, ← rel.length]; exact F.len _ _ _ _ want
  have b := hb s1 us J.kIn hl
  rw [List.append_nil] at b
  refine wpAny_call (codeAny_mono (F.go X.A X.stack s1 H1 ⟨us, []⟩ us vs Q E0 gA hr J.env0 b rel want) fun r s' ends => ?_)
  match r, ends with
  | .ok (.ret u), ends => exact J.after ends
  | .ok .next, ends => exact ends.elim
  | .ok .brk, ends => exact ends.elim
  | .ok .cont, ends => exact ends.elim
  | .error _, ends => exact ends.elim
/-- the law's own call -/
theorem law_callG {P : Program} {w : World} {K : PySem.W.Frag} {mg mb : Str → Option Value} {k : Nat} {fa a : Addr} {fd : FuncData} {x : Str} {sp : Sp} {s₁ : Shared} {vs : List Value} {ns : List Int}
    (KX : K.In s₁.heap) (n1 : s₁.heap.Ns mainGlobals mg) (n2 : s₁.heap.Ns builtinsNs mb) (n3 : ∀ x : Str, x ≠ "__name__" → mb x = bootBuiltins x) (n4 : s₁.heap.NoLimit) (n5 : s₁.gens = #[])
    (n6 : s₁.heap.get? a = some { cls := .type "list", data := .seq vs.toArray }) (n7 : IntsAre vs ns) (n8 : ns.length ≤ sizeLine) (n9 : Room k callerA)
    (F : ∀ base : Heap, K.In base → base.Ns mainGlobals mg → FnG P w K mg base k fa fd [x] sp) (bind : ∀ (s : Shared) (u : Value), BindsTo s fd ⟨[u], []⟩ [(x, u)])
    (want : ∀ H : Hp, SqL K H a (ns.map V.int) → sp [.ref a] H (fun v _ => v = .bl true) fun _ _ _ => False) :
    codeAny (model P w) callerA (.call (.ref fa) ⟨[.ref a], []⟩) (fun r s' => r = .ok (.ret (.bool true)) ∧ OldK s₁.heap s'.heap ∧ s'.os = s₁.os ∧ AllBare s'.gens) s₁ := by
  have vals : Vals (ns.map V.int) vs := vals_of_ints n7
  have main : ∀ H : Hp, SqL K H a (ns.map V.int) → HOk P w H s₁.heap → (∀ b u, H b = some u → b = a ∧ K.lookup a = none ∧ ∃ o xs, u = .frz o (.lst xs)) →
      codeAny (model P w) callerA (.call (.ref fa) ⟨[.ref a], []⟩) (fun r s' => r = .ok (.ret (.bool true)) ∧ OldK s₁.heap s'.heap ∧ s'.os = s₁.os ∧ AllBare s'.gens) s₁ := by
    intro H list good lone
    have shown : ∀ {b : Addr} {o : Obj}, s₁.heap.get? b = some o → (∀ es ep, o.data = .dict es ep → H b = none) → (∃ es ep, o.data = .dict es ep) → (hidT s₁.heap H).get? b = some o := fun e n ⟨es, ep, d⟩ => hidT_get e (n es ep d)
    have dicts : ∀ {b : Addr} {o : Obj}, s₁.heap.get? b = some o → ∀ es ep, o.data = .dict es ep → H b = none := by
      intro b o e es ep d
      cases q : H b with
      | none => rfl
      | some u =>
        have eb := (lone b u q).1
        rw [eb, n6] at e
        cases e
        exact nomatch d
    have ns_ : ∀ {b : Addr} {m : Str → Option Value}, s₁.heap.Ns b m → (hidT s₁.heap H).Ns b m := by
      rintro b m ⟨o, es, ep, e, d, r⟩
      exact ⟨o, es, ep, shown e (dicts e) ⟨es, ep, d⟩, d, r⟩
    have kin : K.In (hidT s₁.heap H) := by
      intro b o e
      refine hidT_get (KX b o e) ?_
      cases q : H b with
      | none => rfl
      | some u =>
        obtain ⟨eb, n, _⟩ := lone b u q
        rw [eb, n] at e
        cases e
    have lim : (hidT s₁.heap H).NoLimit := by
      obtain ⟨mc, h1, h2⟩ := n4
      exact ⟨mc, ns_ h1, h2⟩
    have env : Env0 P w K mg (hidT s₁.heap H) callerA [] s₁ H := by
      refine ⟨rfl, ⟨kin, ns_ n1, ⟨mb, ns_ n2, n3⟩, lim⟩, fun _ _ e => of_hidT e, ?_, trivial, ?_, good, AllBare.of_eq n5⟩
      · rw [hidT_size]; exact Nat.le_refl _
      · intro b hb; exact nomatch hb
    refine codeAny_mono ((F _ kin (ns_ n1)).go callerA [] s₁ H ⟨[.ref a], []⟩ [.ref a] [.ref a] (fun v _ => v = .bl true) (fun _ _ _ => False) rfl n9 env (bind s₁ (.ref a)) (.cons rfl .nil) (want H list)) fun r s' ends => ?_
    match r, ends with
    | .error _, ends => exact ends.elim
    | .ok .next, ends => exact ends.elim
    | .ok .brk, ends => exact ends.elim
    | .ok .cont, ends => exact ends.elim
    | .ok (.ret u), ends =>
      obtain ⟨v, H', e1, e2, un, good', ru, rfl⟩ := ends
      cases ru
      refine ⟨rfl, OldK.of_keep fun b o e => ?_, e1, e2⟩
      cases q : H b with
      | none => exact un.keep b o e q (fun z => nomatch z) (fun z => nomatch z)
      | some u =>
        obtain ⟨_, _, ob, xs, rfl⟩ := lone b u q
        have h1 := (good b _ q).1
        have h2 := (good' b _ (un.frzs b ob _ q)).1
        exact h2.trans (h1.symm.trans e)
  cases hk : K.lookup a with
  | some o =>
    have e := KX a o hk
    rw [n6] at e
    cases e
    refine main (fun _ => none) (Or.inr ⟨_, vs.toArray, _, hk, rfl, rfl, rfl, ?_, ?_⟩) (fun _ _ z => nomatch z) (fun _ _ z => nomatch z)
    · rw [List.size_toArray, n7.length]; exact n8
    · rw [List.toList_toArray]; exact vals
  | none =>
    have at_a : (fun b => if b = a then some (HO.frz { cls := .type "list", data := .seq vs.toArray } (.lst (ns.map V.int))) else none) a = some (HO.frz { cls := .type "list", data := .seq vs.toArray } (.lst (ns.map V.int))) := if_pos rfl
    refine main (fun b => if b = a then some (HO.frz { cls := .type "list", data := .seq vs.toArray } (.lst (ns.map V.int))) else none) (Or.inl (Or.inr ⟨_, at_a⟩)) (fun b u z => ?_) (fun b u z => ?_)
    · by_cases hb : b = a
      · subst hb
        cases at_a.symm.trans z
        refine ⟨n6, ?_, vs, _, vals, n6⟩
        rw [List.length_map]; exact n8
      · exact nomatch (if_neg hb).symm.trans z
    · by_cases hb : b = a
      · subst hb
        cases at_a.symm.trans z
        exact ⟨rfl, hk, _, _, rfl⟩
      · exact nomatch (if_neg hb).symm.trans z
theorem walk_ofG {l : PySem.W.OpenLaw} {n k : Nat} {q : Program} {loose : List Str} {XP : (Str → Option Value) → Heap → Prop} {YP : World → Heap → Prop} {d : DefRec} {K : Params → PySem.W.Frag} {sp : World → Sp} {x : Str}
    (hn : l.most = some n) (hn2 : n ≤ sizeLine) (hdf : d.params.defaults = []) (hr : Room k callerA) (hY : ∀ (w : World) (h : Heap), YP w h → (K w.params).In h)
    (F : ∀ (w : World) (mg : Str → Option Value) (fa : Addr) (h : Heap), (K w.params).In h → h.Ns mainGlobals mg → mg d.name = some (.ref fa) → ∃ fd : FuncData, (∀ (s : Shared) (u : Value), BindsTo s fd ⟨[u], []⟩ [(x, u)]) ∧
        ∀ base : Heap, (K w.params).In base → base.Ns mainGlobals mg → FnG l.prog w (K w.params) mg base k fa fd [x] (sp w))
    (hsp : ∀ (w : World) (H : Hp) (a : Addr) (ns : List Int), ns.length ≤ n → SqL (K w.params) H a (ns.map V.int) → sp w [.ref a] H (fun v _ => v = .bl true) fun _ _ _ => False) :
    PySem.W.WalkO q loose XP YP l.row.toRowW d [] (fun f vs => PySem.call f vs) := by
  refine Att.attach_call hn hdf ?_
  intro w s₀ s₁ mg mb fa o pm cd doc a vs ns G Y ho hd hcd hmg hobj hints hlen hg
  obtain ⟨fd, hb, hF⟩ := F w mg fa _ (hY w _ Y) G.T.g hmg
  exact law_callG (hY w _ Y) G.T.g G.T.b G.T.builtins G.T.nolimit hg hobj hints (Nat.le_trans hlen hn2) hr hF hb (fun H hS => hsp w H a ns hlen hS)
/-! ### repr of a tuple or a list of ints -/
def rRepr (K : PySem.W.Frag) : List V → Hp → VK → Prop := fun xs H Q => ∃ (p : Addr) (d : PyData), xs = [.ref p] ∧ Dp K H (.ref p) d ∧ d.showable = true ∧ d.hasDict = false ∧ d.depth ≤ 100 ∧ d.shown.length ≤ sizeLine ∧ Q (.str d.shown) H
theorem call_repr {X : Cx} (gA : X.A.guards = some []) (hu : X.A.units + 101 < cLine) : CallR X (.builtin "repr") (rRepr X.K) := by
  intro pins s σ H xs us Q I r h
  obtain ⟨p, d, rfl, hd, h1, h2, h3, h4, q⟩ := h
  obtain ⟨u, rfl, ru⟩ := vals1 r
  cases ru
  obtain ⟨as, rd⟩ := Dp.reads I d _ _ hd rfl
  refine repr_of_reads' rd h1 (fun z => by rw [h2] at z; cases z) gA (by omega) (fun _ _ e => e) (fun h' u tk keep => ?_) h4
  exact ⟨.str _, H, I.kept keep, ⟨_, rfl⟩, q⟩
end Lp

namespace Lp
open PySem PySem.Spec PyProof.Rows L2
theorem deeper_calm {A : Around} {env : Env} (h : A.guards = some []) : (A.deeper env).guards = some [] := h
def Small (ns : List Int) : Prop := ∀ z ∈ ns, z.natAbs < 1000000
theorem Low.small {n : Nat} {ns : List Int} (h : Low n ns) (hn : n ≤ 1000000) : Small ns := fun z hz => by
  have := h z hz
  omega
theorem small_log {z : Int} (h : z.natAbs < 1000000) : z.natAbs.log2 < 20 := by
  by_cases h0 : z.natAbs = 0
  · rw [h0]; decide
  · exact (Nat.log2_lt h0).mpr (Nat.lt_trans h (by decide))
theorem ints_facts : ∀ ns : List Int, Small ns → PyData.showableAll (dI ns) = true ∧ PyData.hasDictAll (dI ns) = false ∧ PyData.weightAll (dI ns) ≤ 30 * ns.length ∧ PyData.intsShortAll 13 (dI ns) = true
  | [], _ => by simp [PyData.showableAll, PyData.hasDictAll, PyData.weightAll, PyData.intsShortAll]
  | z :: r, h => by
    obtain ⟨h1, h2, h3, h4⟩ := ints_facts r fun y hy => h y (List.mem_cons_of_mem _ hy)
    have hz := h z List.mem_cons_self
    have lg := small_log hz
    refine ⟨?_, ?_, ?_, ?_⟩
    · simp only [List.map_cons, PyData.showableAll, PyData.showable, h1, Bool.and_true, decide_eq_true_eq]
      omega
    · simp only [List.map_cons, PyData.hasDictAll, PyData.hasDict, h2, Bool.or_false]
    · simp only [List.map_cons, PyData.weightAll, PyData.weight, List.length_cons]
      have h3' : PyData.weightAll (List.map PyData.int r) ≤ 30 * r.length := h3
      split <;> omega
    · simp only [List.map_cons, PyData.intsShortAll, PyData.intsShort, h4, Bool.and_true, decide_eq_true_eq]
      have e : (PyData.shown (.int z)) = Str.ofString (toString z) := by simp only [PyData.shown]
      rw [e, PySem.ofString_length]
      have := int_text_length_le10 (a := z) (k := 6) (by decide) hz
      omega
theorem shownT {ns : List Int} (h : Small ns) (hl : ns.length ≤ 10000) : (PyData.shown (.tuple (dI ns))).length ≤ sizeLine := by
  obtain ⟨h1, h2, h3, h4⟩ := ints_facts ns h
  refine Nat.le_trans (shown_le13 (d := .tuple (dI ns)) ?_ ?_) (by decide)
  · unfold PyData.layable0
    simp only [PyData.canLay0, PyData.depth, PyData.weight, lay_ints, depth_ints, Bool.true_and, Bool.and_eq_true, decide_eq_true_eq]
    have h5 : PyData.weightAll (dI ns) ≤ 1048576 := by omega
    exact ⟨by decide, decide_eq_true h5⟩
  · simp only [PyData.intsShort]; exact h4
theorem shownL {ns : List Int} (h : Small ns) (hl : ns.length ≤ 10000) : (PyData.shown (.list (dI ns))).length ≤ sizeLine := by
  obtain ⟨h1, h2, h3, h4⟩ := ints_facts ns h
  refine Nat.le_trans (shown_le13 (d := .list (dI ns)) ?_ ?_) (by decide)
  · unfold PyData.layable0
    simp only [PyData.canLay0, PyData.depth, PyData.weight, lay_ints, depth_ints, Bool.true_and, Bool.and_eq_true, decide_eq_true_eq]
    have h5 : PyData.weightAll (dI ns) ≤ 1048576 := by omega
    exact ⟨by decide, decide_eq_true h5⟩
  · simp only [PyData.intsShort]; exact h4
theorem factsT {ns : List Int} (h : Small ns) (hl : ns.length ≤ 10000) : (PyData.tuple (dI ns)).showable = true ∧ (PyData.tuple (dI ns)).hasDict = false ∧ (PyData.tuple (dI ns)).depth ≤ 100 ∧ (PyData.tuple (dI ns)).shown.length ≤ sizeLine := by
  obtain ⟨h1, h2, h3, h4⟩ := ints_facts ns h
  refine ⟨?_, ?_, ?_, shownT h hl⟩
  · simp only [PyData.showable]; exact h1
  · simp only [PyData.hasDict]; exact h2
  · simp only [PyData.depth, depth_ints]; decide
theorem factsL {ns : List Int} (h : Small ns) (hl : ns.length ≤ 10000) : (PyData.list (dI ns)).showable = true ∧ (PyData.list (dI ns)).hasDict = false ∧ (PyData.list (dI ns)).depth ≤ 100 ∧ (PyData.list (dI ns)).shown.length ≤ sizeLine := by
  obtain ⟨h1, h2, h3, h4⟩ := ints_facts ns h
  refine ⟨?_, ?_, ?_, shownL h hl⟩
  · simp only [PyData.showable]; exact h1
  · simp only [PyData.hasDict]; exact h2
  · simp only [PyData.depth, depth_ints]; decide
end Lp

namespace Lp
open PySem PySem.Spec PyProof.Rows L2
/-! ### slices and sums of tuples -/
theorem cutV_whole {xs : List V} {lo hi : Option Int} (h : HT.sIx xs.length 0 lo = 0 ∧ HT.sIx xs.length xs.length hi = xs.length) : cutV xs lo hi = xs := by
  unfold cutV
  rw [h.1, h.2, List.drop_zero, Nat.sub_zero, List.take_length]
theorem slA_of {K : PySem.W.Frag} {H : Hp} {a : Addr} {xs : List V} {lo hi : Option Int} {Q : VK} (ha : H a = some (.tup xs)) (q : ∀ p H', Same H H' → H' p = some (.tup (cutV xs lo hi)) → Q (.ref p) H') : rSlA K (.ref a) lo hi H Q :=
  ⟨a, xs, rfl, SqT.of ha, fun h => q a H (Same.refl H) (by rw [cutV_whole h]; exact ha), fun _ p np => q p _ (same_new np) upd_same⟩
theorem slA_np {K : PySem.W.Frag} {σ : L2.St} {H : Hp} {a : Addr} {xs : List V} {lo : Option Int} {Q : VK} (ha : H a = some (.tup xs)) (q : ∀ p H', Same H H' → H' p = some (.tup (cutV xs lo none)) → Q (.ref p) H') : tNoPart σ H fun u H3 => rSlA K (.ref a) lo u H3 Q :=
  slA_of (hi := none) ha q
theorem catA_of {K : PySem.W.Frag} {H : Hp} {a b : Addr} {xs ys : List V} {Q : VK} (ha : H a = some (.tup xs)) (hb : H b = some (.tup ys)) (hz : xs.length + ys.length ≤ sizeLine) (q : ∀ p H', Same H H' → H' p = some (.tup (xs ++ ys)) → Q (.ref p) H') : rCatA K (.ref a) (.ref b) H Q :=
  ⟨a, b, xs, ys, rfl, rfl, SqT.of ha, SqT.of hb, hz, fun e => q b H (Same.refl H) (by rw [e, List.nil_append]; exact hb), fun _ e => q a H (Same.refl H) (by rw [e, List.append_nil]; exact ha), fun _ _ p np => q p _ (same_new np) upd_same⟩
theorem due_eq (ns : List Int) (i : Nat) (z : Int) (h : i < ns.length) : (cutV (IL ns) none (some (i : Int)) ++ [V.int z]) ++ cutV (IL ns) (some ((i : Int) + 1)) none = IL (ns.set i z) := by
  rw [cut_IL, cut_IL, HT.sIx_none, HT.sIx_none, sIx_int _ _ _ (by omega), sIx_int _ _ _ (by omega)]
  rw [List.set_eq_take_append_cons_drop, if_pos h]
  show (List.map V.int _ ++ [V.int z]) ++ List.map V.int _ = List.map V.int _
  rw [List.map_append, List.map_cons, List.append_assoc]
  have e1 : min (i : Int).toNat ns.length - 0 = i := by omega
  have e2 : min ((i : Int) + 1).toNat ns.length = i + 1 := by omega
  rw [e1, e2, List.drop_zero, List.take_of_length_le (l := ns.drop (i + 1)) (by rw [List.length_drop]; omega)]
  rfl
theorem cutV_len (ns : List Int) (lo hi : Option Int) : (cutV (IL ns) lo hi).length ≤ ns.length := by
  have := cutV_length (IL ns) lo hi
  rw [List.length_map] at this; exact this
end Lp

namespace Lp
open PySem PySem.Spec PyProof.Rows L2
/-! ### what the top has written -/
def Dx (K : PySem.W.Frag) (x : Str) (st : Stmt) : Prop := ∃ (f : Addr) (oc : Value) (od an : Option Addr) (sl : Array (Option Value)) (kV dc pm cd ct : Value), PySem.W.nsIn K mainGlobals x = some (some (.ref f)) ∧
  K.lookup f = some ⟨oc, od, .func (PySem.W.fnOf x x (defArgs st) (defBody st) (defScope st) .none kV dc pm an cd ct), sl⟩ ∧ PySem.W.codeIn K cd x = true ∧ PySem.W.keepIn K (.ref f) = true
theorem dx_mk {K : PySem.W.Frag} {x : Str} {st : Stmt} {f : Addr} {oc : Value} {od an : Option Addr} {sl : Array (Option Value)} {kV dc pm cd ct : Value} (a : PySem.W.nsIn K mainGlobals x = some (some (.ref f)))
    (l : K.lookup f = some ⟨oc, od, .func (PySem.W.fnOf x x (defArgs st) (defBody st) (defScope st) .none kV dc pm an cd ct), sl⟩) (c : PySem.W.codeIn K cd x = true) (k : PySem.W.keepIn K (.ref f) = true) : Dx K x st := ⟨f, oc, od, an, sl, kV, dc, pm, cd, ct, a, l, c, k⟩
theorem Dx.fn {K : PySem.W.Frag} {x : Str} {st : Stmt} {h : Heap} {mg : Str → Option Value} (d : Dx K x st) (X : K.In h) (G : h.Ns mainGlobals mg) : ∃ f fd, Fun K x x st f fd ∧ mg x = some (.ref f) := by
  obtain ⟨f, oc, od, an, sl, kV, dc, pm, cd, ct, a, l, c, k⟩ := d
  exact ⟨f, _, fun_mk l c k, PySem.W.mg_of X G a⟩
structure Zs (K : PySem.W.Frag) : Prop where
  len : PySem.W.nsIn K mainGlobals "len" = some none
  list : PySem.W.nsIn K mainGlobals "list" = some none
  tuple : PySem.W.nsIn K mainGlobals "tuple" = some none
  range : PySem.W.nsIn K mainGlobals "range" = some none
  enumerate : PySem.W.nsIn K mainGlobals "enumerate" = some none
  all : PySem.W.nsIn K mainGlobals "all" = some none
  isinstance : PySem.W.nsIn K mainGlobals "isinstance" = some none
  zip : PySem.W.nsIn K mainGlobals "zip" = some none
  abs : PySem.W.nsIn K mainGlobals "abs" = some none
  int : PySem.W.nsIn K mainGlobals "int" = some none
  str : PySem.W.nsIn K mainGlobals "str" = some none
  bool : PySem.W.nsIn K mainGlobals "bool" = some none
  repr : PySem.W.nsIn K mainGlobals "repr" = some none
  set : PySem.W.nsIn K mainGlobals "set" = some none
  min : PySem.W.nsIn K mainGlobals "min" = some none
  max : PySem.W.nsIn K mainGlobals "max" = some none
  sorted : PySem.W.nsIn K mainGlobals "sorted" = some none
  sum : PySem.W.nsIn K mainGlobals "sum" = some none
theorem Zs.bi {K : PySem.W.Frag} {h : Heap} {mg : Str → Option Value} (z : Zs K) (X : K.In h) (G : h.Ns mainGlobals mg) : Bi mg := by
  constructor
  · exact PySem.W.mg_none_of X G z.len
  · exact PySem.W.mg_none_of X G z.list
  · exact PySem.W.mg_none_of X G z.tuple
  · exact PySem.W.mg_none_of X G z.range
  · exact PySem.W.mg_none_of X G z.enumerate
  · exact PySem.W.mg_none_of X G z.all
  · exact PySem.W.mg_none_of X G z.isinstance
  · exact PySem.W.mg_none_of X G z.zip
  · exact PySem.W.mg_none_of X G z.abs
  · exact PySem.W.mg_none_of X G z.int
  · exact PySem.W.mg_none_of X G z.str
  · exact PySem.W.mg_none_of X G z.bool
  · exact PySem.W.mg_none_of X G z.repr
  · exact PySem.W.mg_none_of X G z.set
  · exact PySem.W.mg_none_of X G z.min
  · exact PySem.W.mg_none_of X G z.max
  · exact PySem.W.mg_none_of X G z.sorted
  · exact PySem.W.mg_none_of X G z.sum
abbrev FnT (x : Str) (st : Stmt) (kV doc pm : Value) (an : Option Addr) (cdv ct : Value) : FuncData := PySem.W.fnOf x x (defArgs st) (defBody st) (defScope st) .none kV doc pm an cdv ct
section
variable {K : PySem.W.Frag} {x : Str} {st : Stmt} {f : Addr} {fd : FuncData} {p p' p'' : Str} (F : Fun K x x st f fd)
include F
theorem b1 (h : ∀ kV doc pm an cdv ct u, bindArgs (FnT x st kV doc pm an cdv ct) ⟨[u], []⟩ = pure [(p, u)]) : Binds K fd [p] [] :=
  F.binds fun kV doc pm an cdv ct us hl => match us, hl with | [u], _ => h kV doc pm an cdv ct u
theorem b2 (h : ∀ kV doc pm an cdv ct u v, bindArgs (FnT x st kV doc pm an cdv ct) ⟨[u, v], []⟩ = pure [(p, u), (p', v)]) : Binds K fd [p, p'] [] :=
  F.binds fun kV doc pm an cdv ct us hl => match us, hl with | [u, v], _ => h kV doc pm an cdv ct u v
theorem b3 (h : ∀ kV doc pm an cdv ct u v t, bindArgs (FnT x st kV doc pm an cdv ct) ⟨[u, v, t], []⟩ = pure [(p, u), (p', v), (p'', t)]) : Binds K fd [p, p', p''] [] :=
  F.binds fun kV doc pm an cdv ct us hl => match us, hl with | [u, v, t], _ => h kV doc pm an cdv ct u v t
theorem r1 (h : ∀ kV doc pm an cdv ct u, bindArgs (FnT x st kV doc pm an cdv ct) ⟨[], [(p, u)]⟩ = pure [(p, u)]) : KbR fd [p] :=
  Fun.kbr F fun kV doc pm an cdv ct us hl => match us, hl with | [u], _ => h kV doc pm an cdv ct u
theorem r2 (h : ∀ kV doc pm an cdv ct u v, bindArgs (FnT x st kV doc pm an cdv ct) ⟨[], [(p', u), (p, v)]⟩ = pure [(p, v), (p', u)]) : KbR fd [p, p'] :=
  Fun.kbr F fun kV doc pm an cdv ct us hl => match us, hl with | [u, v], _ => h kV doc pm an cdv ct u v
theorem r3 (h : ∀ kV doc pm an cdv ct u v t, bindArgs (FnT x st kV doc pm an cdv ct) ⟨[], [(p'', u), (p', v), (p, t)]⟩ = pure [(p, t), (p', v), (p'', u)]) : KbR fd [p, p', p''] :=
  Fun.kbr F fun kV doc pm an cdv ct us hl => match us, hl with | [u, v, t], _ => h kV doc pm an cdv ct u v t
end
structure CalG (P : Program) (w : World) (K : PySem.W.Frag) (mg : Str → Option Value) (base : Heap) (x : Str) (k : Nat) (ps : List Str) (sp : Sp) (f : Addr) (fd : FuncData) : Prop where
  ok : FnG P w K mg base k f fd ps sp
  g : mg x = some (.ref f)
  kp : PySem.W.keepIn K (.ref f) = true
  bd : Binds K fd ps []
theorem Cal.up {P : Program} {w : World} {K : PySem.W.Frag} {mg : Str → Option Value} {base : Heap} {x : Str} {j k : Nat} {ps : List Str} {sp : Sp} {f : Addr} {fd : FuncData} (c : Cal P w K mg base x j ps sp f fd) (h : j ≤ k) : Cal P w K mg base x k ps sp f fd := ⟨c.ok.mono h, c.g, c.kp, c.bd⟩
end Lp


namespace Lp
open PySem PySem.Spec PyProof.Rows L2
/-! ### following pointers -/
def itr (ns : List Int) (p : Int) : Nat → Int
  | 0 => p
  | k + 1 => gt ns (itr ns p k)
theorem itr_succ (ns : List Int) (p : Int) : ∀ k, itr ns p (k + 1) = itr ns (gt ns p) k
  | 0 => rfl
  | k + 1 => by
    show gt ns (itr ns p (k + 1)) = gt ns (itr ns (gt ns p) k)
    rw [itr_succ ns p k]
theorem itr_low {ns : List Int} (lo : Low ns.length ns) {p : Int} (h0 : 0 ≤ p) (h1 : p < (ns.length : Int)) : ∀ k, 0 ≤ itr ns p k ∧ itr ns p k < (ns.length : Int)
  | 0 => ⟨h0, h1⟩
  | k + 1 => by
    have ih := itr_low lo h0 h1 k
    exact gt_low lo ih.1 ih.2
def itrs (ns : List Int) (p : Int) (m : Nat) : List Int := (List.range m).map (itr ns p)
theorem itrs_len (ns : List Int) (p : Int) (m : Nat) : (itrs ns p m).length = m := by unfold itrs; rw [List.length_map, List.length_range]
theorem itrs_succ (ns : List Int) (p : Int) (m : Nat) : itrs ns p (m + 1) = itrs ns p m ++ [itr ns p m] := by
  unfold itrs; rw [List.range_succ, List.map_append]; rfl
theorem itrs_get {ns : List Int} {p : Int} {m i : Nat} (h : i < m) : (itrs ns p m)[i]? = some (itr ns p i) := by
  unfold itrs
  rw [List.getElem?_map, List.getElem?_range h]; rfl
theorem itrs_mem {ns : List Int} {p z : Int} {m : Nat} : z ∈ itrs ns p m ↔ ∃ i, i < m ∧ itr ns p i = z := by
  unfold itrs
  rw [List.mem_map]
  constructor
  · rintro ⟨i, hi, e⟩; exact ⟨i, List.mem_range.mp hi, e⟩
  · rintro ⟨i, hi, e⟩; exact ⟨i, List.mem_range.mpr hi, e⟩
/-- rs: the people met from p on, each once -/
def Route (ns : List Int) (p : Int) (rs : List Int) : Prop := ∃ L, rs = itrs ns p L ∧ rs.Nodup ∧ itr ns p L ∈ rs
theorem itrs_apart {ns : List Int} {p : Int} {m i j : Nat} (nd : (itrs ns p m).Nodup) (hi : i < m) (hj : j < m) (e : itr ns p i = itr ns p j) : i = j := by
  have h1 := itrs_get (ns := ns) (p := p) hi
  have h2 := itrs_get (ns := ns) (p := p) hj
  rw [e] at h1
  exact nd_ix nd h1 h2
theorem Route.eq {ns : List Int} {p : Int} {rs rs' : List Int} (a : Route ns p rs) (b : Route ns p rs') : rs = rs' := by
  obtain ⟨L, rfl, n1, m1⟩ := a
  obtain ⟨M, rfl, n2, m2⟩ := b
  obtain ⟨i, hi, ei⟩ := itrs_mem.mp m1
  obtain ⟨j, hj, ej⟩ := itrs_mem.mp m2
  rcases Nat.lt_trichotomy L M with h | h | h
  · exact absurd (itrs_apart n2 (show i < M by omega) h ei) (by omega)
  · rw [h]
  · exact absurd (itrs_apart n1 (show j < L by omega) h ej) (by omega)
theorem Nodup.snoc {l : List Int} {z : Int} (h : l.Nodup) (n : z ∉ l) : (l ++ [z]).Nodup := by
  rw [List.nodup_append]
  refine ⟨h, List.nodup_cons.mpr ⟨List.not_mem_nil, List.nodup_nil⟩, fun a ha b hb => ?_⟩
  rw [List.mem_singleton] at hb
  subst hb
  exact fun e => n (e ▸ ha)
theorem low_len : ∀ (n : Nat) (l : List Int), l.Nodup → Low n l → l.length ≤ n
  | 0, l, _, h => by
    cases l with
    | nil => exact Nat.le_refl 0
    | cons x r => have := h x List.mem_cons_self; omega
  | n + 1, l, nd, h => by
    have h2 := low_len n (l.filter (fun z => decide (z ≠ (n : Int)))) (nd.filter _) fun z hz => by
      have q := List.mem_filter.mp hz
      have := h z q.1
      have := of_decide_eq_true q.2
      omega
    have h3 : l.length ≤ (l.filter (fun z => decide (z ≠ (n : Int)))).length + 1 := by
      clear h h2
      induction l with
      | nil => simp
      | cons x r ih =>
        have nd' := List.nodup_cons.mp nd
        by_cases hx : x = (n : Int)
        · have e : r.filter (fun z => decide (z ≠ (n : Int))) = r := List.filter_eq_self.mpr fun z hz => decide_eq_true fun e => nd'.1 (by rw [hx, ← e]; exact hz)
          rw [List.filter_cons_of_neg (by simp [hx]), e]; exact Nat.le_refl _
        · rw [List.filter_cons_of_pos (by simp [hx]), List.length_cons, List.length_cons]
          have := ih nd'.2
          omega
    omega
/-- behind the first return the pointers go round -/
theorem itr_round {ns : List Int} {p : Int} {b d : Nat} (h : itr ns p (b + d) = itr ns p b) : ∀ t, itr ns p (b + d + t) = itr ns p (b + t)
  | 0 => h
  | t + 1 => by
    show gt ns (itr ns p (b + d + t)) = gt ns (itr ns p (b + t))
    rw [itr_round h t]
theorem itr_mod {ns : List Int} {p : Int} {b d : Nat} (hd : 0 < d) (h : itr ns p (b + d) = itr ns p b) (t : Nat) : itr ns p (b + t) = itr ns p (b + t % d) := by
  induction t using Nat.strongRecOn with
  | ind t ih =>
    by_cases ht : t < d
    · rw [Nat.mod_eq_of_lt ht]
    · have e : t = d + (t - d) := by omega
      have := ih (t - d) (by omega)
      rw [e, ← Nat.add_assoc, itr_round h, this, Nat.add_mod_left]
theorem itrs_flat (ns : List Int) (p : Int) (m : Nat) : (IL (itrs ns p m)).all flatV = true := flat_ints _
theorem eqV_int (a b : Int) : eqV (.int a) (.int b) = decide (a = b) := by
  simp only [eqV]
  by_cases h : a = b
  · subst h; simp
  · simp [h]
section
variable {P : Program} {w : World} {K : PySem.W.Frag} {mg : Str → Option Value} {base : Heap}
/-! ### route_from -/
abbrev sRoute : Stmt := topS 4
theorem scRoute : FnScope ["pointers", "person", "route", "seen", "at"] ["pointers", "person"] (defScope sRoute) := ⟨rfl, rfl, rfl, by decide +kernel, rfl, by decide +kernel, by decide +kernel⟩
def spRoute : Sp := fun vs H Q _ => ∃ (a : Addr) (p : Int) (ns : List Int), vs = [.ref a, .int p] ∧ Sq H a (IL ns) ∧ Low ns.length ns ∧ ns.length ≤ 1000 ∧ 0 ≤ p ∧ p < (ns.length : Int) ∧
  ∀ H' r rs, Same H H' → H r = none → H' r = some (.lst (IL rs)) → Route ns p rs → rs.length ≤ ns.length → Q (.ref r) H'
theorem ok_route {f : Addr} {fd : FuncData} {k : Nat} (F : Fun K "route_from" "route_from" sRoute f fd) (B : Bi mg) : FnOk P w K mg base CX0 (k + 1) f fd ["pointers", "person"] spRoute := by
  refine F.ok scRoute (fun vs H Q E h => ?_) (fun cdv A outer s H vs Q E hr h => ?_)
  · obtain ⟨a, p, ns, rfl, _⟩ := h
    rfl
  · obtain ⟨a, p, ns, rfl, hS, lo, ln, p0, p1, q⟩ := h
    refine ⟨_, pss_cons (ps_set (i := 2) scRoute.nd rfl (.inl rfl) (pe_lst pa_nil))
      (pss_cons (ps_set (i := 3) scRoute.nd rfl (.inl rfl) (pe_callTy0 cr_set0 (by rfl) B.set (by decide +kernel)))
      (pss_cons (ps_set (i := 4) scRoute.nd rfl (.inl rfl) (pv 1))
      (pss_cons (ps_while PassesOwn.never (PW.pt (pw_and (pt_cmpR op_notN (pv 4) pe_non (nomark _)) (pw_and1 (pt_cmpR or_snotin (pv 4) (pv 3) (by rfl)))))
        (pss_cons (ps_expr (pe_sadd (pv 3) (pa_cons (pv 4) pa_nil)))
        (pss_cons (ps_expr (pe_bm PySem.F.plainAttrs_list PySem.F.slot_list_append PySem.F.type_list_append mt_append (pv 2) (pa_cons (pv 4) pa_nil)))
        (pss_one (ps_set (i := 4) scRoute.nd rfl (.inl rfl) (pe_ix ix_seq (pv 0) (pv 4) (fun _ _ => rfl)))))))
      (pss_one (ps_ret (pv 2)))))), ?_⟩
    refine ⟨Nat.zero_le _, fun r nr => ⟨rfl, fun e ne => ⟨.int p, rfl, ?_⟩⟩⟩
    have n0 : H e = none := (same_new nr).free ne
    have re : r ≠ e := fun z => by
      rw [← z, upd_same] at ne
      cases ne
    refine ⟨fun m σ H3 => ∃ L S c, σ = [some (.ref a), some (.int p), some (.ref r), some (.ref e), some (.int (itr ns p L))] ∧ Same H H3 ∧ H3 r = some (.lst (IL (itrs ns p L))) ∧ H3 e = some (SetO w e S c) ∧ c ≤ L ∧ (∀ z, S z = decide (z ∈ itrs ns p L)) ∧ (itrs ns p L).Nodup ∧ m + L = ns.length, ⟨ns.length, 0, fun _ => false, 0, rfl, (same_new nr).trans (same_new ne), ?_, upd_same, Nat.le_refl 0, fun z => rfl, List.nodup_nil, rfl⟩, ?_⟩
    · rw [upd_ne re, upd_same]; rfl
    · rintro m σ H3 ⟨L, S, c, rfl, sm, hr3, he, hc, hS3, nd, em⟩
      have il := itr_low lo p0 p1 L
      refine ⟨.int (itr ns p L), rfl, rfl, _, rfl, ?_⟩
      show (if (!decide (V.int (itr ns p L) = V.non)) = true then _ else _)
      rw [if_pos (show (!decide (V.int (itr ns p L) = V.non)) = true by rw [decide_eq_false (fun z => nomatch z)]; rfl)]
      refine ⟨.int (itr ns p L), rfl, .ref e, rfl, _, e, S, c, rfl, rfl, he, _, rfl, ?_⟩
      rw [hS3]
      refine ite2 (fun hb => ?_) (fun hb => ?_)
      · have nin : itr ns p L ∉ itrs ns p L := fun z => by
          rw [decide_eq_true z] at hb; cases hb
        have nd2 : (itrs ns p (L + 1)).Nodup := by rw [itrs_succ]; exact Nodup.snoc nd nin
        have lt : L + 1 ≤ ns.length := by
          have := low_len ns.length _ nd2 fun z hz => by
            obtain ⟨i, _, ei⟩ := itrs_mem.mp hz
            have := itr_low lo p0 p1 i
            omega
          rw [itrs_len] at this; exact this
        refine ⟨fun σ' H' => ∃ m', m' < m ∧ ∃ L S c, σ' = [some (.ref a), some (.int p), some (.ref r), some (.ref e), some (.int (itr ns p L))] ∧ Same H H' ∧ H' r = some (.lst (IL (itrs ns p L))) ∧ H' e = some (SetO w e S c) ∧ c ≤ L ∧ (∀ z, S z = decide (z ∈ itrs ns p L)) ∧ (itrs ns p L).Nodup ∧ m' + L = ns.length, fun σ' H' h => h, ?_⟩
        refine ⟨.ref e, rfl, ⟨e, S, c, rfl, he⟩, .int (itr ns p L), rfl, e, _, S, c, rfl, rfl, he, (by show c + 1 < 4096; omega), ?_⟩
        have hr4 : (upd H3 e (SetO w e (fun j => S j || decide (j = itr ns p L)) (if S (itr ns p L) = true then c else c + 1))) r = some (.lst (IL (itrs ns p L))) := by rw [upd_ne re]; exact hr3
        refine ⟨.ref r, rfl, .inl ⟨rfl, _, SqL.of hr4⟩, .int (itr ns p L), rfl, r, _, _, rfl, rfl, hr4, ?_, ?_⟩
        · rw [List.length_map, itrs_len]; exact szl (by omega)
        · have s5 : Same H (upd (upd H3 e (SetO w e (fun j => S j || decide (j = itr ns p L)) (if S (itr ns p L) = true then c else c + 1))) r (.lst (IL (itrs ns p L) ++ [.int (itr ns p L)]))) := same_mut (same_mut sm n0) nr
          have fin : ∃ m', m' < m ∧ ∃ L' S' c', [some (V.ref a), some (.int p), some (.ref r), some (.ref e), some (.int (gt ns (itr ns p L)))] = [some (.ref a), some (.int p), some (.ref r), some (.ref e), some (.int (itr ns p L'))] ∧ Same H (upd (upd H3 e (SetO w e (fun j => S j || decide (j = itr ns p L)) (if S (itr ns p L) = true then c else c + 1))) r (.lst (IL (itrs ns p L) ++ [.int (itr ns p L)]))) ∧ (upd (upd H3 e (SetO w e (fun j => S j || decide (j = itr ns p L)) (if S (itr ns p L) = true then c else c + 1))) r (.lst (IL (itrs ns p L) ++ [.int (itr ns p L)]))) r = some (.lst (IL (itrs ns p L'))) ∧ (upd (upd H3 e (SetO w e (fun j => S j || decide (j = itr ns p L)) (if S (itr ns p L) = true then c else c + 1))) r (.lst (IL (itrs ns p L) ++ [.int (itr ns p L)]))) e = some (SetO w e S' c') ∧ c' ≤ L' ∧ (∀ z, S' z = decide (z ∈ itrs ns p L')) ∧ (itrs ns p L').Nodup ∧ m' + L' = ns.length := by
            refine ⟨m - 1, by omega, L + 1, (fun j => S j || decide (j = itr ns p L)), (if S (itr ns p L) = true then c else c + 1), rfl, s5, ?_, ?_, ?_, ?_, nd2, by omega⟩
            · rw [upd_same, IL_app, itrs_succ]
            · rw [upd_ne (Ne.symm re), upd_same]
            · split <;> omega
            · intro z
              show (S z || decide (z = itr ns p L)) = _
              rw [hS3, itrs_succ]
              by_cases h1 : z ∈ itrs ns p L
              · rw [decide_eq_true h1, decide_eq_true (List.mem_append_left _ h1)]; rfl
              · by_cases h2 : z = itr ns p L
                · rw [decide_eq_true h2, Bool.or_true, decide_eq_true (List.mem_append_right _ (List.mem_singleton.mpr h2))]
                · rw [decide_eq_false h1, decide_eq_false h2, decide_eq_false fun q => (List.mem_append.mp q).elim h1 fun q2 => h2 (List.mem_singleton.mp q2)]; rfl
          have ga := gt_at (ns := ns) il.1 il.2
          rcases hS with hS | hS
          · exact ⟨.ref a, rfl, .int (itr ns p L), rfl, .inl ⟨a, _, _, _, rfl, rfl, SqL.of (s5 _ _ hS), ga, fin⟩⟩
          · exact ⟨.ref a, rfl, .int (itr ns p L), rfl, .inr (.inl ⟨a, _, _, _, rfl, rfl, SqT.of (s5 _ _ hS), ga, fin⟩)⟩
      · have hin : itr ns p L ∈ itrs ns p L := by
          by_cases z : itr ns p L ∈ itrs ns p L
          · exact z
          · rw [decide_eq_false z] at hb; exact absurd rfl hb
        exact ⟨.ref r, rfl, q H3 r _ sm nr hr3 ⟨L, rfl, nd, hin⟩ (by rw [itrs_len]; omega)⟩
/-! ### ring_begin -/
abbrev sBegin : Stmt := topS 6
theorem scBegin : FnScope ["state", "route"] ["state", "route"] (defScope sBegin) := ⟨rfl, rfl, rfl, by decide +kernel, rfl, by decide +kernel, by decide +kernel⟩
def spBegin : Sp := fun vs H Q _ => ∃ (a r : Addr) (ns : List Int) (p : Int) (L : Nat), vs = [.ref a, .ref r] ∧ Sq H a (IL ns) ∧ Low ns.length ns ∧ 0 ≤ p ∧ p < (ns.length : Int) ∧ H r = some (.lst (IL (itrs ns p L))) ∧ (itrs ns p L).Nodup ∧ itr ns p L ∈ itrs ns p L ∧
  ∀ b : Nat, b < L → itr ns p b = itr ns p L → Q (.int b) H
theorem ok_begin {f : Addr} {fd : FuncData} {k : Nat} (F : Fun K "ring_begin" "ring_begin" sBegin f fd) : FnOk P w K mg base CX0 (k + 1) f fd ["state", "route"] spBegin := by
  refine F.ok scBegin (fun vs H Q E h => ?_) (fun cdv A outer s H vs Q E hr h => ?_)
  · obtain ⟨a, r, ns, p, L, rfl, _⟩ := h
    rfl
  · obtain ⟨a, r, ns, p, L, rfl, hS, lo, p0, p1, hr3, nd, hin, q⟩ := h
    refine ⟨_, pss_one (ps_ret (pe_bm PySem.F.plainAttrs_list PySem.F.slot_list_index PySem.F.type_list_index mt_index (pv 1) (pa_cons (pe_ix ix_seq (pv 0) (pe_ix ix_list (pv 1) (pe_un un_neg pe_int) (fun _ _ => rfl)) (fun _ _ => rfl)) pa_nil))), ?_⟩
    obtain ⟨b, hb, eb⟩ := itrs_mem.mp hin
    obtain ⟨M, rfl⟩ : ∃ M, L = M + 1 := ⟨L - 1, by omega⟩
    have il := itr_low lo p0 p1 M
    have ga : atI (IL ns) (itr ns p M) = some (.int (itr ns p (M + 1))) := gt_at il.1 il.2
    have last : atI (IL (itrs ns p (M + 1))) (-1) = some (.int (itr ns p M)) := at_last (i := M) (by rw [List.length_map, itrs_len]) (IL_get (itrs_get (Nat.lt_succ_self M)))
    have fin : rIndex K (.ref r) [.int (itr ns p (M + 1))] H Q := by
      refine ⟨r, _, _, b, .int (itr ns p b), rfl, rfl, SqL.of hr3, rfl, itrs_flat _ _ _, IL_get (itrs_get hb), ?_, fun m z' hm hz => ?_, q b hb eb⟩
      · rw [eqV_int, decide_eq_true eb]
      · rw [IL_get (itrs_get (show m < M + 1 by omega))] at hz
        cases hz
        rw [eqV_int]
        refine decide_eq_false fun e => ?_
        exact absurd (itrs_apart nd (show m < M + 1 by omega) hb (e.trans eb.symm)) (by omega)
    rcases hS with hS | hS
    · exact ⟨.ref r, rfl, .inl ⟨rfl, _, SqL.of hr3⟩, .ref a, rfl, .ref r, rfl, 1, rfl, r, _, -1, _, rfl, rfl, SqL.of hr3, last, .inl ⟨a, _, _, _, rfl, rfl, SqL.of hS, ga, fin⟩⟩
    · exact ⟨.ref r, rfl, .inl ⟨rfl, _, SqL.of hr3⟩, .ref a, rfl, .ref r, rfl, 1, rfl, r, _, -1, _, rfl, rfl, SqL.of hr3, last, .inr (.inl ⟨a, _, _, _, rfl, rfl, SqT.of hS, ga, fin⟩)⟩
end
end Lp

namespace Lp
open PySem PySem.Spec PyProof.Rows L2
theorem cut_from {ns : List Int} {b : Nat} (h : b ≤ ns.length) : cutV (IL ns) (some (b : Int)) none = IL (ns.drop b) := by
  rw [cut_IL, HT.sIx_none, sIx_int _ _ _ (by omega)]
  have e : min (b : Int).toNat ns.length = b := by omega
  rw [e, List.take_of_length_le (by rw [List.length_drop]; exact Nat.le_refl _)]
section
variable {P : Program} {w : World} {K : PySem.W.Frag} {mg : Str → Option Value} {base : Heap}
/-! ### draws from a wide span -/
def spTakeW : Sp := fun vs H Q _ => ∃ (b : Addr) (span : Int) (c : Nat), vs = [.ref b, .int span] ∧ Box H b c ∧ c ≤ 900000000 ∧ 1 ≤ span ∧ span ≤ 10000000000000 ∧
  ∀ H' (r : Int), Sb b H H' → Box H' b (c + 2) → 0 ≤ r → r < span → Q (.int r) H'
def spTakeB : Sp := fun vs H Q _ => ∃ (b : Addr) (span : Int) (c : Nat), vs = [.ref b, .int span] ∧ Box H b c ∧ c ≤ 900000000 ∧ 10000000 < span ∧ span ≤ 10000000000000 ∧
  ∀ H' (r : Int), Sb b H H' → Box H' b (c + 2) → 0 ≤ r → r < span → Q (.int r) H'
theorem ok_takeB {f : Addr} {fd : FuncData} {k : Nat} (F : Fun K "_law_take" "_law_take" sTake f fd) (T : Cal P w K mg base "_law_take" (k + 1) psT spTake f fd) : FnOk P w K mg base CX0 (k + 2) f fd psT spTakeB := by
  refine F.ok scTake (fun vs H Q E h => ?_) (fun cdv A outer s H vs Q E hr h => ?_)
  · obtain ⟨b, span, c, rfl, _⟩ := h
    rfl
  · obtain ⟨b, span, c, rfl, hB, hc, hs1, hs2, q⟩ := h
    obtain ⟨x0, x1, x2, hb, h0, h1, h2, h3, h4⟩ := id hB
    refine ⟨_, pss_cons (ps_if (pt_cmpR op_gt (pe_ix ix_list (pv 0) pe_int (fun _ _ => rfl)) pe_int (nomark _))
        (pss_cons (ps_set (i := 2) scTake.nd rfl (.inl rfl) (pe_op op_mod (pe_ix ix_list (pv 0) pe_int (fun _ _ => rfl)) (pv 1)))
        (pss_cons (ps_asg (pe_op op_fdivW (pe_ix ix_list (pv 0) pe_int (fun _ _ => rfl)) (pv 1)) (pg_sub (pv 0) pe_int set_list))
        (pss_one (ps_ret (pv 2))))) pss_nil)
      (pss_cons (ps_if (pt_cmpR op_gt (pv 1) (pe_op op_pow pe_int pe_int) (nomark _))
        (pss_one (ps_ret (pe_op op_mod (pe_op op_add (pe_call T.ok hr (by rfl) T.g T.kp T.bd .nil pass0 (pa_cons (pv 0) (pa_cons (pe_op op_pow pe_int pe_int) pa_nil))) (pe_op op_mul (pe_op op_pow pe_int pe_int) (pe_call T.ok hr (by rfl) T.g T.kp T.bd .nil pass0 (pa_cons (pv 0) (pa_cons (pe_op op_add (pe_op op_fdiv (pe_op op_sub (pv 1) pe_int) (pe_op op_pow pe_int pe_int)) pe_int) pa_nil))))) (pv 1)))) pss_nil)
      pss_never), ?_⟩
    have ix : SqL K H b [.int x0, .int x1, .int x2] := SqL.of hb
    refine ⟨.ref b, rfl, b, _, 0, .int x0, rfl, rfl, ix, rfl, x0, 0, rfl, rfl, _, rfl, ite2 (fun e => ?_) (fun e => ?_)⟩
    · have e0 : 0 < x0 := of_decide_eq_true e
      refine ⟨.ref b, rfl, b, _, 0, .int x0, rfl, rfl, ix, rfl, .int span, rfl, x0, span, rfl, rfl, (by show (0 : Int) < span; omega), ?_⟩
      refine ⟨.ref b, rfl, b, _, 0, .int x0, rfl, rfl, ix, rfl, .int span, rfl, x0, span, rfl, rfl, wide_div (b := 64) (by omega) (by omega) (by decide) (by decide), ?_⟩
      refine ⟨.ref b, rfl, b, _, 0, 0, rfl, rfl, hb, rfl, ?_⟩
      refine ⟨.int (x0 % span), rfl, q _ _ (Sb.upd (Sb.refl b H)) ⟨x0 / span, x1, x2, upd_same, ?_, h1, h2, h3, by omega⟩ (Int.emod_nonneg _ (by omega)) (Int.emod_lt_of_pos _ (by omega))⟩
      exact Int.ediv_nonneg h0 (by omega)
    · have p7 : (10 : Int) ^ (7 : Int).toNat = 10000000 := by decide
      refine ⟨.int span, rfl, 10, 7, rfl, rfl, ⟨by decide, by decide, by decide⟩, span, _, rfl, rfl, _, rfl, ?_⟩
      have e1 : (10 : Int) ^ (7 : Int).toNat < span := by rw [p7]; omega
      rw [decide_eq_true e1]
      refine iteT ?_
      refine ⟨.ref b, rfl, 10, 7, rfl, rfl, ⟨by decide, by decide, by decide⟩, b, _, c, rfl, hB, by omega, by decide, by decide, fun H1 r1 sb1 hB1 r10 r11 => ?_⟩
      refine ⟨10, 7, rfl, rfl, ⟨by decide, by decide, by decide⟩, .ref b, rfl, .int span, rfl, span, 1, rfl, rfl, 10, 7, rfl, rfl, ⟨by decide, by decide, by decide⟩, _, _, rfl, rfl, ⟨by decide, by decide⟩, _, 1, rfl, rfl, b, _, c + 1, rfl, hB1, by omega, ?_, ?_, fun H2 r2 sb2 hB2 r20 r21 => ?_⟩
      · show 1 ≤ (span - 1) / (10 : Int) ^ (7 : Int).toNat + 1
        rw [p7]; omega
      · show (span - 1) / (10 : Int) ^ (7 : Int).toNat + 1 ≤ 10000000
        rw [p7]; omega
      · refine ⟨_, r2, rfl, rfl, .inl ⟨by decide, by decide⟩, r1, _, rfl, rfl, .int span, rfl, _, span, rfl, rfl, (by show (0 : Int) < span; omega), ?_⟩
        exact q H2 _ (sb1.trans sb2) (hB2.le (by omega)) (Int.emod_nonneg _ (by omega)) (Int.emod_lt_of_pos _ (by omega))
theorem ok_takeW {f : Addr} {fd : FuncData} {k : Nat} (F : Fun K "_law_take" "_law_take" sTake f fd) (T : Cal P w K mg base "_law_take" (k + 1) psT spTake f fd) : FnOk P w K mg base CX0 (k + 2) f fd psT spTakeW :=
  FnOk.imp (fn_or (ok_take F) (ok_takeB F T)) fun vs H Q E h => by
    obtain ⟨b, span, c, rfl, hB, hc, h1, h2, q⟩ := h
    by_cases hs : span ≤ 10000000
    · exact .inl ⟨b, span, c, rfl, hB, by omega, h1, hs, fun H' r sb hB' => q H' r sb (hB'.le (by omega))⟩
    · exact .inr ⟨b, span, c, rfl, hB, hc, by omega, h2, q⟩
/-! ### _law_met -/
abbrev sMet : Stmt := topS 20
theorem scMet : FnScope ["_law_here", "_law_who", "_law_found"] ["_law_here", "_law_who"] (defScope sMet) := ⟨rfl, rfl, rfl, by decide +kernel, rfl, by decide +kernel, by decide +kernel⟩
def spMet : Sp := fun vs H Q _ => ∃ (a : Addr) (p : Int) (ns : List Int), vs = [.ref a, .int p] ∧ H a = some (.tup (IL ns)) ∧ Low ns.length ns ∧ ns.length ≤ 1000 ∧ 0 ≤ p ∧ p < (ns.length : Int) ∧
  ∀ H' r rs, Same H H' → H r = none → H' r = some (.lst (IL rs)) → Route ns (gt ns p) rs → rs.length ≤ ns.length → Q (.ref r) H'
theorem ok_met {f : Addr} {fd : FuncData} {k : Nat} (F : Fun K "_law_met" "_law_met" sMet f fd) (B : Bi mg) : FnOk P w K mg base CX0 (k + 1) f fd ["_law_here", "_law_who"] spMet := by
  refine F.ok scMet (fun vs H Q E h => ?_) (fun cdv A outer s H vs Q E hr h => ?_)
  · obtain ⟨a, p, ns, rfl, _⟩ := h
    rfl
  · obtain ⟨a, p, ns, rfl, hS, lo, ln, p0, p1, q⟩ := h
    refine ⟨_, pss_cons (ps_set (i := 2) scMet.nd rfl (.inl rfl) (pe_lst pa_nil))
      (pss_cons (ps_while PassesOwn.never (pt_cmpR op_notIn_seq (pe_ix ix_tup (pv 0) (pv 1) (fun _ _ => rfl)) (pv 2) (by rfl))
        (pss_cons (ps_set (i := 1) scMet.nd rfl (.inl rfl) (pe_ix ix_tup (pv 0) (pv 1) (fun _ _ => rfl)))
        (pss_one (ps_expr (pe_bm PySem.F.plainAttrs_list PySem.F.slot_list_append PySem.F.type_list_append mt_append (pv 2) (pa_cons (pv 1) pa_nil))))))
      (pss_one (ps_ret (pv 2)))), ?_⟩
    have g0 := gt_low lo p0 p1
    refine ⟨Nat.zero_le _, fun r nr => ?_⟩
    refine ⟨fun m σ H3 => ∃ L, σ = [some (.ref a), some (.int (itr ns p L)), some (.ref r)] ∧ Same H H3 ∧ H3 r = some (.lst (IL (itrs ns (gt ns p) L))) ∧ (itrs ns (gt ns p) L).Nodup ∧ m + L = ns.length, ⟨ns.length, 0, rfl, same_new nr, upd_same, List.nodup_nil, rfl⟩, ?_⟩
    rintro m σ H3 ⟨L, rfl, sm, hr3, nd, em⟩
    have il := itr_low lo p0 p1 L
    have ga : atI (IL ns) (itr ns p L) = some (.int (itr ns (gt ns p) L)) := by
      rw [gt_at il.1 il.2, ← itr_succ]; rfl
    have hS3 := sm _ _ hS
    refine ⟨.ref a, rfl, .int (itr ns p L), rfl, a, _, _, _, rfl, rfl, SqT.of hS3, ga, .ref r, rfl, r, _, rfl, .inl (SqL.of hr3), rfl, itrs_flat _ _ _, _, rfl, ?_⟩
    rw [if_pos rfl, inV_ints]
    refine ite2 (fun hb => ?_) (fun hb => ?_)
    · have nin : itr ns (gt ns p) L ∉ itrs ns (gt ns p) L := fun z => by
        rw [decide_eq_true z] at hb; cases hb
      have nd2 : (itrs ns (gt ns p) (L + 1)).Nodup := by rw [itrs_succ]; exact Nodup.snoc nd nin
      have lt : L + 1 ≤ ns.length := by
        have := low_len ns.length _ nd2 fun z hz => by
          obtain ⟨i, _, ei⟩ := itrs_mem.mp hz
          have := itr_low lo g0.1 g0.2 i
          omega
        rw [itrs_len] at this; exact this
      refine ⟨fun σ' H' => ∃ m', m' < m ∧ ∃ L, σ' = [some (.ref a), some (.int (itr ns p L)), some (.ref r)] ∧ Same H H' ∧ H' r = some (.lst (IL (itrs ns (gt ns p) L))) ∧ (itrs ns (gt ns p) L).Nodup ∧ m' + L = ns.length, fun σ' H' h => h, ?_⟩
      refine ⟨.ref a, rfl, .int (itr ns p L), rfl, a, _, _, _, rfl, rfl, SqT.of hS3, ga, ?_⟩
      refine ⟨.ref r, rfl, .inl ⟨rfl, _, SqL.of hr3⟩, .int (itr ns (gt ns p) L), rfl, r, _, _, rfl, rfl, hr3, ?_, m - 1, by omega, L + 1, ?_, same_mut sm nr, ?_, nd2, by omega⟩
      · rw [List.length_map, itrs_len]; exact szl (by omega)
      · rw [itr_succ]; rfl
      · rw [upd_same, IL_app, itrs_succ]
    · have hin : itr ns (gt ns p) L ∈ itrs ns (gt ns p) L := by
        by_cases z : itr ns (gt ns p) L ∈ itrs ns (gt ns p) L
        · exact z
        · rw [decide_eq_false z] at hb; exact absurd rfl hb
      exact ⟨.ref r, rfl, q H3 r _ sm nr hr3 ⟨L, rfl, nd, hin⟩ (by rw [itrs_len]; omega)⟩
end
end Lp

namespace Lp
open PySem PySem.Spec PyProof.Rows L2
/-! ### sorting tuples of ints -/
theorem lex_asym : ∀ xs ys : List Int, HT.lexLt xs ys = true → HT.lexLt ys xs = false
  | [], [], _ => rfl
  | [], _ :: _, _ => rfl
  | _ :: _, [], h => by cases h
  | x :: xs, y :: ys, h => by
    rw [HT.lexLt_cons] at h ⊢
    by_cases e : x = y
    · rw [if_pos e] at h; rw [if_pos e.symm]; exact lex_asym xs ys h
    · rw [if_neg e] at h; rw [if_neg (Ne.symm e)]
      have := of_decide_eq_true h
      exact decide_eq_false (by omega)
theorem lex_tr : ∀ xs ys zs : List Int, HT.lexLt ys xs = false → HT.lexLt zs ys = false → HT.lexLt zs xs = false
  | [], _, [], _, _ => rfl
  | [], _, _ :: _, _, _ => rfl
  | _ :: _, [], _, h, _ => by cases h
  | _ :: _, _ :: _, [], _, h => by cases h
  | x :: xs, y :: ys, z :: zs, h1, h2 => by
    rw [HT.lexLt_cons] at h1 h2 ⊢
    by_cases e1 : y = x
    · rw [if_pos e1] at h1
      by_cases e2 : z = y
      · rw [if_pos e2] at h2
        rw [if_pos (e2.trans e1)]
        exact lex_tr xs ys zs h1 h2
      · rw [if_neg e2] at h2
        rw [if_neg (fun e => e2 (e.trans e1.symm)), ← e1]; exact h2
    · rw [if_neg e1] at h1
      have a := of_decide_eq_false h1
      by_cases e2 : z = y
      · rw [if_neg (fun e => e1 (e2.symm.trans e))]
        exact decide_eq_false (by omega)
      · rw [if_neg e2] at h2
        have b := of_decide_eq_false h2
        rw [if_neg (by omega)]
        exact decide_eq_false (by omega)
theorem lex_eq : ∀ xs ys : List Int, HT.lexLt xs ys = false → HT.lexLt ys xs = false → xs = ys
  | [], [], _, _ => rfl
  | [], _ :: _, h, _ => by cases h
  | _ :: _, [], _, h => by cases h
  | x :: xs, y :: ys, h1, h2 => by
    rw [HT.lexLt_cons] at h1 h2
    by_cases e : x = y
    · rw [if_pos e] at h1
      rw [if_pos e.symm] at h2
      rw [e, lex_eq xs ys h1 h2]
    · rw [if_neg e] at h1
      rw [if_neg (Ne.symm e)] at h2
      have := of_decide_eq_false h1
      have := of_decide_eq_false h2
      omega
abbrev ltK (k : Value → List Int) : Value → Value → Bool := fun v u => HT.lexLt (k v) (k u)
theorem swoK (k : Value → List Int) : SrtO.Swo (ltK k) := ⟨fun x y h => lex_asym _ _ h, fun x y z h1 h2 => lex_tr _ _ _ h1 h2⟩
section
variable {prog : Program} {w : World} {A : Around} {E : Value → Shared → Prop} {s : Shared}
theorem kat_ints : ∀ {xs ys : List Value} {ns ms : List Int} {fin : Bool} (i : Nat), IntsAre xs ns → IntsAre ys ms → fin = decide (ns.length < ms.length) →
    PySem.W.KatLex prog w A true fin (fun r s' => s' = s ∧ r = HT.lexLt ns ms) (xs.zip ys) i s
  | _, _, _, _, fin, i, .nil, .nil, h => PySem.W.kat_nil ⟨rfl, by rw [h]; rfl⟩
  | _, _, _, _, fin, i, .nil, .cons m u r, h => PySem.W.kat_nil ⟨rfl, by rw [h]; exact decide_eq_true (Nat.succ_pos _)⟩
  | _, _, _, _, fin, i, .cons n t r, .nil, h => PySem.W.kat_nil ⟨rfl, by rw [h]; exact decide_eq_false (Nat.not_lt_zero _)⟩
  | _, _, _, _, fin, i, .cons (ns := ns) n t r, .cons (ns := ms) m u r', h => by
    refine PySem.W.kat_cons (SeqAt.EqAt.int_int n t m u prog w _ _ ?_)
    refine PySem.W.kat_go (fun e => ?_) (fun e => ?_)
    · have en : n = m := by simpa using e
      refine PySem.W.kat_yes ?_
      have ih := kat_ints (fin := fin) (i + 1) r r' (by rw [h]; simp)
      rw [HT.lexLt_cons, if_pos en]
      exact ih
    · have en : ¬ n = m := by simpa using e
      refine PySem.W.kat_no (TS.oneLt_ints _ ?_)
      rw [HT.lexLt_cons, if_neg en]
      exact ⟨rfl, rfl⟩
/-- what is asked of the values: tuples of ints, none empty -/
def KeyOk (h : Heap) (k : Value → List Int) (vs : List Value) : Prop := ∀ v ∈ vs, TS.TupInts h v (k v) ∧ k v ≠ []
theorem KeyOk.keeps {h h' : Heap} {k : Value → List Int} {vs : List Value} (x : KeyOk h k vs) (q : ∀ b o, h.get? b = some o → o.cls = .type "tuple" → h'.get? b = some o) : KeyOk h' k vs := fun v hv => ⟨(x v hv).1.keeps q, (x v hv).2⟩
theorem key_cmp {vs : List Value} {k : Value → List Int} (x : KeyOk s.heap k vs) : SrtO.Cmp prog w A s (tuples' true) (fun p => p.1 ∈ vs) (SrtO.lt2 (ltK k)) := by
  intro p q hp hq
  obtain ⟨⟨a, xs, e, ⟨o, ho, _, n, hd⟩, i⟩, _⟩ := x _ hp
  obtain ⟨⟨b, ys, e', ⟨o', ho', _, n', hd'⟩, i'⟩, _⟩ := x _ hq
  show wpAny (model prog w) A (keyLt' (tuples' true) p.1 q.1) (fun r s' => s' = s ∧ r = HT.lexLt (k p.1) (k q.1)) (fun _ _ => False) s
  rw [e] at i ⊢
  rw [e'] at i' ⊢
  refine PySem.W.kat_lt ho hd ho' hd' (kat_ints 0 i i' ?_)
  rw [← i.length, ← i'.length, Array.length_toList, Array.length_toList]
theorem key_firsts {h : Heap} {k : Value → List Int} : ∀ vs : List Value, KeyOk h k vs → ∃ fs, PySem.W.KatTups h vs fs ∧ fs.length = vs.length ∧ ∀ f ∈ fs, ∃ n t, f = Value.int n t
  | [], _ => ⟨[], .nil, rfl, fun _ z => nomatch z⟩
  | v :: vs, x => by
    obtain ⟨fs, k1, k2, k3⟩ := key_firsts vs fun u hu => x u (List.mem_cons_of_mem _ hu)
    obtain ⟨⟨a, xs, e, ⟨o, ho, hc, n, hd⟩, i⟩, ne⟩ := x v List.mem_cons_self
    subst e
    generalize hz : k (.ref a) = z at i ne
    generalize hy : xs.toList = ys at i
    cases i with
    | nil => exact absurd rfl ne
    | cons m t r =>
      refine ⟨.int m t :: fs, .cons ho hc hd ?_ k1, congrArg (· + 1) k2, fun f hf => ?_⟩
      · rw [← Array.getElem?_toList, hy]; rfl
      · rcases List.mem_cons.mp hf with q | q
        · exact ⟨m, t, q⟩
        · exact k3 f q
theorem key_sortable {a : Addr} {vs : List Value} {k : Value → List Int} (x : KeyOk s.heap k vs) (h0 : 2 ≤ vs.length) (ha : ∀ o, s.heap.get? a = some o → o.cls ≠ .type "tuple") : SrtO.SortableO prog w A s a vs (ltK k) := by
  intro h' keep
  have x' : KeyOk h' k vs := x.keeps fun b o e c => keep b o (fun z => ha o (z ▸ e) c) e
  obtain ⟨fs, f1, f2, f3⟩ := key_firsts vs x'
  refine ⟨tuples' true, fun Q E hq => ?_, key_cmp (s := { s with heap := h' }) x'⟩
  refine PySem.W.kat_kind (T := .type "int") f1 (by omega) (fun f hf => ?_) (by rfl) ?_
  · obtain ⟨n, t, e⟩ := f3 f hf
    rw [e]
    exact PySem.W.Looks.now
  · rw [show (Value.type "int" != Value.type "tuple") = true by decide +kernel]
    exact hq
end
/-- the address of a value, its ints -/
def refOf : Value → Addr
  | .ref a => a
  | _ => 0
abbrev RL (L : List (Addr × List Int)) : List V := L.map fun p => V.ref p.1
abbrev RW (L : List (Addr × List Int)) : List Value := L.map fun p => Value.ref p.1
/-- L' is L in ascending order -/
def Ranked (L' : List (Addr × List Int)) : Prop := L'.Pairwise fun x y => HT.lexLt y.2 x.2 = false
section
variable {X : Cx}
def kf (h : Heap) (v : Value) : Addr × List Int := (refOf v, TS.intsOf h v)
theorem kf_map {h : Heap} {L : List (Addr × List Int)} (x : ∀ p ∈ L, TS.TupInts h (.ref p.1) p.2) : (RW L).map (kf h) = L := by
  rw [List.map_map]
  refine (List.map_congr_left fun p hp => ?_).trans (List.map_id L)
  show (p.1, TS.intsOf h (.ref p.1)) = p
  rw [(x p hp).ints]
theorem kf_back {h : Heap} {L : List (Addr × List Int)} : ∀ {out : List Value}, (∀ v ∈ out, v ∈ RW L) → out = RW (out.map (kf h))
  | [], _ => rfl
  | v :: r, x => by
    obtain ⟨p, _, e⟩ := List.mem_map.mp (x v List.mem_cons_self)
    have ih := kf_back (h := h) (L := L) (out := r) fun u hu => x u (List.mem_cons_of_mem _ hu)
    show v :: r = Value.ref (refOf v) :: RW (r.map (kf h))
    rw [← ih, ← e]; rfl
theorem tupInts_at {pins : List (Addr × Obj)} {σ : L2.St} {H : Hp} {s : Shared} {b : Addr} {k : List Int} (I : Inv X pins σ H s) (h : SqT X.K H b (IL k)) : TS.TupInts s.heap (.ref b) k := tupInts_of (I.isT h)
/-- sorted(xs), xs a list of tuples of ints, none empty -/
def rSortL (K : PySem.W.Frag) : List V → Hp → VK → Prop := fun vs H Q => ∃ (a : Addr) (L : List (Addr × List Int)), vs = [V.ref a] ∧ SqL K H a (RL L) ∧ (∀ p ∈ L, SqT K H p.1 (IL p.2) ∧ p.2 ≠ []) ∧
  ∀ L' q, L'.Perm L → Ranked L' → H q = none → Q (.ref q) (upd H q (.lst (RL L')))
theorem cr_sortL : CallR X (.builtin "sorted") (rSortL X.K) := by
  intro pins s σ H vs us Q I r h
  obtain ⟨a, L, rfl, hs, hx, q⟩ := h
  obtain ⟨its, rv, hl, hz⟩ := I.list hs
  rw [Vals.ref1 r]
  have ei : its = RW L := refs_of_vals rv
  subst ei
  have tup : ∀ p ∈ L, TS.TupInts s.heap (.ref p.1) p.2 := fun p hp => tupInts_at I (hx p hp).1
  have key : KeyOk s.heap (TS.intsOf s.heap) (RW L) := fun v hv => by
    obtain ⟨p, hp, rfl⟩ := List.mem_map.mp hv
    rw [(tup p hp).ints]
    exact ⟨tup p hp, (hx p hp).2⟩
  refine SrtO.sorted_ord (swoK (TS.intsOf s.heap)) hl.isList (by rw [← rv.length]; exact hz) (fun h2 h₁ a' ha kk => ?_) fun out o1 o2 => ?_
  · refine key_sortable (s := { s with heap := h₁ }) (key.keeps fun b o e _ => (kk b o e).2) h2 fun o e c => ?_
    cases ha.symm.trans e
    exact absurd (Value.type.inj c) (by decide)
  · have back := kf_back (h := s.heap) (L := L) (out := out) fun v hv => o2.perm.mem_iff.mp hv
    have pm : (out.map (kf s.heap)).Perm L := by
      have := o2.perm.map (kf s.heap)
      rw [kf_map tup] at this
      exact this
    have rk : Ranked (out.map (kf s.heap)) := List.pairwise_map.mpr o1
    obtain ⟨ep, he⟩ := PyProof.Rows.sortedAll_at s.heap (RW L) out.toArray
    have vals : Vals (RL (out.map (kf s.heap))) out := by
      have : Vals (RL (out.map (kf s.heap))) (RW (out.map (kf s.heap))) := vals_of_refs _
      rw [← back] at this
      exact this
    refine ⟨.ref _, upd H (s.heap.objs.size + 1) (.lst (RL (out.map (kf s.heap)))), I.laid (t' := s.toks) (fun _ _ => PyProof.Rows.sortedAll_old) (Nat.le_succ _) ⟨?_, out, ep, vals, he⟩, rfl, q _ _ pm rk (I.hok.fresh (Nat.le_succ _))⟩
    rw [List.length_map, pm.length_eq]
    rw [List.length_map] at hz; exact hz
/-- sorted(set), of tuples of ints, none empty -/
def rSortS (K : PySem.W.Frag) (P : Program) (w : World) : List V → Hp → VK → Prop := fun vs H Q => ∃ (a : Addr) (L : List (Addr × List Int)), vs = [V.ref a] ∧ H a = some (SetTO P w a L) ∧ (∀ p ∈ L, SqT K H p.1 (IL p.2) ∧ p.2 ≠ []) ∧
  ∀ L' q, L'.Perm L → Ranked L' → (L'.map (·.2)).Nodup → H q = none → Q (.ref q) (upd H q (.lst (RL L')))
theorem cr_sortS (hc : X.calm = true) : CallR X (.builtin "sorted") (rSortS X.K X.prog X.w) := by
  intro pins s σ H vs us Q I r h
  obtain ⟨a, L, rfl, ha, hx, q⟩ := h
  have R0 : SetT0 X.prog X.w s.heap a L := (I.hok a _ ha).1
  obtain ⟨es, ep, t, R⟩ := R0.full fun p hp => I.isT (hx p hp).1
  rw [Vals.ref1 r]
  obtain ⟨o, ho, hex, hd⟩ := R.ob
  have few := R.few
  have siz := R.size
  refine Calls.call_function_entry PyProof.Rows.kind_sorted PyProof.Rows.plain_sorted PyProof.Rows.entry_sorted (PyProof.Rows.args_sorted1 _) ?_
  unfold Builtin.«sorted»
  refine wpAny_bind (m := checkCount "sorted" 1 1 _) (wpAny_pure (wpAny_bind (collect_set (A := X.A.in1) (I.ok.hd hc) ⟨o, ho, hex.1, hd⟩ R.fits (by show es.size < 4096; omega) R.tab.ris R.led ?_)))
  intro s1 out0 k1 hz g1 o1 pm
  have rows : es.toList.map (·.2) = RW L := by
    rw [R.rows]; unfold rowsOf; rw [List.map_map]; rfl
  rw [rows] at pm
  have len0 : out0.length = L.length := by rw [pm.length_eq, List.length_map]
  refine wpAny_bind (wpAny_newList ?_ (sz (by omega)))
  have hoL : (s1.heap.push (seqObj "list" out0.toArray 0)).get? s1.heap.objs.size = some (seqObj "list" out0.toArray 0) := Heap.get?_push_size _ rfl
  have tup : ∀ p ∈ L, TS.TupInts (s1.heap.push (seqObj "list" out0.toArray 0)) (.ref p.1) p.2 := fun p hp => tupInts_of (isT_keep (R.tup p hp) fun b u e => Heap.get?_push_of_some _ (k1 b u e))
  have key : KeyOk (s1.heap.push (seqObj "list" out0.toArray 0)) (TS.intsOf (s1.heap.push (seqObj "list" out0.toArray 0))) out0 := fun v hv => by
    obtain ⟨p, hp, rfl⟩ := List.mem_map.mp (pm.mem_iff.mp hv)
    rw [(tup p hp).ints]
    exact ⟨tup p hp, (hx p hp).2⟩
  refine wpAny_bind (wpAny_holding (wpAny_call_entry PyProof.Rows.slot_list_sort ⟨_, hoL, rfl⟩ PyProof.Rows.entry_list_sort (SrtO.list_sort_ord (s := { s1 with heap := s1.heap.push (seqObj "list" out0.toArray 0) }) (swoK (TS.intsOf (s1.heap.push (seqObj "list" out0.toArray 0)))) hoL (sz (by omega)) (fun h2 => ?_) fun out q1 q2 => ⟨_, rfl, ?_⟩) (PyProof.Rows.args_list_sort _)))
  · refine key_sortable (s := { s1 with heap := s1.heap.push (seqObj "list" out0.toArray 0) }) key h2 fun o e c => ?_
    cases hoL.symm.trans e
    exact absurd (Value.type.inj c) (by decide)
  · obtain ⟨c, hcL⟩ := sortedHeap_at (vs := out0) (out := out.toArray) hoL
    generalize hh : s1.heap.push (seqObj "list" out0.toArray 0) = h2 at *
    have back := kf_back (h := h2) (L := L) (out := out) fun v hv => pm.mem_iff.mp (q2.perm.mem_iff.mp hv)
    have pL : (out.map (kf h2)).Perm L := by
      have := (q2.perm.trans pm).map (kf h2)
      rw [kf_map tup] at this
      exact this
    have rk : Ranked (out.map (kf h2)) := List.pairwise_map.mpr q1
    have hn : H s1.heap.objs.size = none := I.hok.fresh hz
    have vals : Vals (RL (out.map (kf h2))) out := by
      have : Vals (RL (out.map (kf h2))) (RW (out.map (kf h2))) := vals_of_refs _
      rw [← back] at this
      exact this
    have keep : ∀ b u, s.heap.get? b = some u → (sortedHeap h2 s1.heap.objs.size out0 out.toArray).get? b = some u := fun b u e => by
      have lt := Heap.lt_size (k1 b u e)
      rw [sortedHeap_old (Nat.ne_of_lt lt) (by rw [← hh, size_push']; exact Nat.lt_succ_of_lt lt), ← hh]
      exact Heap.get?_push_of_some _ (k1 b u e)
    have lenL : (RL (out.map (kf h2))).length ≤ sizeLine := by rw [List.length_map, pL.length_eq]; exact sz (by omega)
    have J : Inv X pins σ (upd H s1.heap.objs.size (.lst (RL (out.map (kf h2))))) { s with heap := sortedHeap h2 s1.heap.objs.size out0 out.toArray, gens := s1.gens, drawn := s1.drawn, toks := s1.toks } :=
      I.call (ch := []) (Un.laid keep hz hn) (I.hok.laid keep hz ⟨lenL, out, c, vals, hcL⟩) (by rw [g1]; exact I.bare) (fun _ z => nomatch z)
    have fin : EP X pins σ Q (.ref s1.heap.objs.size) { s with heap := sortedHeap h2 s1.heap.objs.size out0 out.toArray, gens := s1.gens, drawn := s1.drawn, toks := s1.toks } := ⟨.ref _, _, J, rfl, q _ _ pL rk ((pL.map (·.2)).nodup_iff.mpr R.nd) hn⟩
    refine wpAny_pure ⟨_, rfl, ?_⟩
    obtain ⟨h1, g, d, t', os⟩ := s1
    cases o1
    exact fin
end
end Lp

namespace Lp
open PySem PySem.Spec PyProof.Rows L2
/-! ### a set comprehension whose items are tuples of ints -/
theorem addT_ok {Y : Cx} {pins : List (Addr × Obj)} {σ : L2.St} {H : Hp} {s : Shared} {E : Value → Shared → Prop} {D b : Addr} {L : List (Addr × List Int)} {k : List Int} {Q : Value → Shared → Prop} (I : Inv Y pins σ H s) (hD : H D = some (SetTO Y.prog Y.w D L)) (hb : SqT Y.K H b (IL k))
    (hL : ∀ p ∈ L, SqT Y.K H p.1 (IL p.2)) (few : L.length + 1 < 64) (hu : Y.A.units + 5 < cLine)
    (h : ∀ s' L', (k ∈ L.map (·.2) → L' = L) → (k ∉ L.map (·.2) → L'.Perm ((b, k) :: L)) → Inv Y pins σ (upd H D (SetTO Y.prog Y.w D L')) s' → Q .none s') :
    wpAny (model Y.prog Y.w) Y.A (call (.builtin "set.add") [.ref D, .ref b]) Q E s := by
  have R0 : SetT0 Y.prog Y.w s.heap D L := (I.hok D _ hD).1
  obtain ⟨es, ep, t, R⟩ := R0.full fun p hp => I.isT (hL p hp)
  obtain ⟨o, ho, hex, hd⟩ := R.ob
  have hx := I.isT hb
  refine wpAny_call_entry PySem.F.slot_set_add ⟨o, ho, hex.1⟩ PySem.F.entry_set_add ?_ (PySem.F.args_set_add_2 _ _)
  unfold Builtin.«set.add» Builtin.Frozenset.oneOther
  simp only [List.isEmpty_nil, bind_assoc]
  unfold Builtin.Frozenset.addrOf setAdd
  refine wpAny_bind (wpAny_pure ?_)
  try dsimp only
  refine wpAny_bind (wpAny_pure ?_)
  try dsimp only
  refine wpAny_bind (wpAny_holding (wpAny_bind (wpAny_pyHash_tuple (by show Y.A.units + 1 < cLine; omega) hx ?_)))
  refine add_at (s := { s with toks := s.toks + (k.length + 1) }) R hx (by show Y.A.units + 1 < cLine; omega) few fun _ h' L' es' ep' t' sb R' c1 c2 => ?_
  show wpAny _ _ (ret Value.none) _ _ _
  have there : ∃ u, h'.get? D = some u := by
    obtain ⟨o', ho', _⟩ := R'.ob
    exact ⟨o', ho'⟩
  exact wpAny_pure ⟨_, rfl, h _ L' c1 c2 (I.write (e := D) (t' := s.toks + (k.length + 1)) (by rw [hD]; trivial) (.inl rfl) (fun c u n e => (sb.2 c n).trans e) there (setTO_new R'.t0))⟩
/-- what must hold: D is the new set -/
def tScT (K : PySem.W.Frag) (P : Program) (w : World) (wi : TI) (g : TG) (te : TE) (vs : List Nat) : TE := fun σ H Q => wi σ H fun J H1 => ∀ D, H1 D = none → ∃ W : Nat → Nat → Hp → Prop, (∃ m, W 0 m (upd H1 D (SetTO P w D []))) ∧ ∀ i m H, W i m H →
  (J.stop i H ∧ Q (.ref D) H) ∨ (J.go i H ∧ ∃ Nx : Hp → Prop, (∀ H', Nx H' → ∃ m', m' < m ∧ W (i + 1) m' H') ∧ ∀ x H', J.yld i H x H' → g x (wipe σ vs) H' fun σ2 H2 => wipe σ2 vs = wipe σ vs ∧
    te σ2 H2 fun y H4 => ∃ (b : Addr) (k : List Int) (L : List (Addr × List Int)), y = .ref b ∧ SqT K H4 b (IL k) ∧ H4 D = some (SetTO P w D L) ∧ (∀ p ∈ L, SqT K H4 p.1 (IL p.2)) ∧ L.length + 1 < 64 ∧
      ∀ L', (k ∈ L.map (·.2) → L' = L) → (k ∉ L.map (·.2) → L'.Perm ((b, k) :: L)) → Nx (upd H4 D (SetTO P w D L')))
theorem pe_scT {X : Cx} {elt tg iter : Expr} {scope : Scope} {own : List (Str × Nat)} {pos : Pos} {wi : TI} {g : TG} {te : TE} (hc : X.calm = true) (hu : X.A.units + 5 < cLine) (hN : X.N.Nodup) (hi : PI X tg iter wi) (ok : BlkOk X.N X.env.scope scope own)
    (hg : ∀ (s : Shared) (H : Hp) (C : Addr) (cl : List (Str × Addr)) (fp : List Addr), PG (X.blk s H scope (compEnvC scope cl C X.env) fp) tg g)
    (he : ∀ (s : Shared) (H : Hp) (C : Addr) (cl : List (Str × Addr)) (fp : List Addr), PE (X.blk s H scope (compEnvC scope cl C X.env) fp) elt te) (hs : ∀ x, foldedSetIterable iter X.env x = pure x := by intro _; rfl) :
    PE X (.SetComp elt [⟨tg, iter, [], 0⟩] scope pos) (tScT X.K X.prog X.w wi g te (own.map (·.2))) := by
  constructor
  intro pins s σ H Q I h
  rw [PpSet.eval_SetComp]
  show wpAny _ _ (comprehension (.SetComp elt [⟨tg, iter, [], 0⟩] scope pos) scope X.env (firstIterPos [⟨tg, iter, [], 0⟩] pos) (newSet (.type "set")) false (eval iter X.env)) _ _ s
  have captured : ∀ y ∈ scope.names, y.2 = .free → ∃ c, X.env.cells.lookup y.1 = some c := fun y hy e => (ok.free y hy e).elim (fun z => I.ok.has _ (.inl z)) (fun z => I.ok.has _ (.inr z))
  refine wpAny_comprehension_free (use := none) rfl hs (closure_ok captured) ok.kind (fun y hy e => by rw [ok.uniq y hy, e]) (thn (hi.run pins s σ H _ I h) fun xv s1 hx => thn hx fun itv s2 walked => ?_)
  obtain ⟨it, fp, tn, J, H2, rfl, I2, T, at0, apart, want⟩ := walked
  refine PpSet.newSet_ok (newEnv_comp ?_)
  generalize eD : s2.heap.objs.size = D
  have noD : H2 D = none := I2.hok.fresh (Nat.le_of_eq eD)
  obtain ⟨W, ⟨m0, w0⟩, turn⟩ := want D noD
  generalize e3 : ({ s2 with heap := s2.heap.push { cls := .type "set", dict := none, data := .set #[] 0 (.fresh 0 0 (!X.w.params.followText "set-order")) } } : Shared) = s3
  have heap3 : s3.heap = s2.heap.push { cls := .type "set", dict := none, data := .set #[] 0 (.fresh 0 0 (!X.w.params.followText "set-order")) } := by rw [← e3]
  have I3 : Inv X pins σ (upd H2 D (SetTO X.prog X.w D [])) s3 := by
    rw [← e3]
    refine I2.laid (t' := s2.toks) (fun _ _ e => Heap.get?_push_of_some _ e) (Nat.le_of_eq eD) (setTO_new (SetTR.t0 (setTR_fresh ?_)))
    rw [← eD]; exact Heap.get?_push_size _ rfl
  have apart3 : ∀ b ∈ fp, FpOk X pins (upd H2 D (SetTO X.prog X.w D [])) b ∧ b < s3.heap.objs.size := by
    intro b hb
    obtain ⟨o, e, _⟩ := T.obj _ _ at0 b hb
    have lt := Heap.lt_size e
    refine ⟨⟨?_, (apart b hb).2⟩, by rw [heap3, Heap.size_push]; exact Nat.lt_succ_of_lt lt⟩
    rw [upd_ne (fun z => by rw [z, ← eD] at lt; exact Nat.lt_irrefl _ lt)]
    exact (apart b hb).1
  have at3 : tn 0 s3.heap := T.keep _ _ _ at0 fun b _ o e => by rw [heap3]; exact Heap.get?_push_of_some _ e
  have I4 := block_start I3 ok hN apart3
  have pg := hg s3 (upd H2 D (SetTO X.prog X.w D [])) s3.heap.objs.size (cellsFrom (s3.heap.objs.size + 1) scope.names (cloFrom X.env.cells scope.names [])) fp
  have pe := he s3 (upd H2 D (SetTO X.prog X.w D [])) s3.heap.objs.size (cellsFrom (s3.heap.objs.size + 1) scope.names (cloFrom X.env.cells scope.names [])) fp
  show codeAny _ _ (.compStart (.SetComp elt [⟨tg, iter, [], 0⟩] scope pos) 0 (.ref it) (.ref D) (compEnvC scope (cellsFrom (s3.heap.objs.size + 1) scope.names (cloFrom X.env.cells scope.names [])) s3.heap.objs.size X.env)) (compPost (model X.prog X.w) X.A X.xe none (EP X pins σ Q) (.ref D) s3.heap.objs.size) { s3 with heap := pushCells (s3.heap.push { cls := .type "dict", data := .dict #[] }) scope.names }
  have none3 : ∀ b ∈ fp, (upd H2 D (SetTO X.prog X.w D [])) b = none := fun b hb => (apart3 b hb).1.1
  generalize eC : compEnvC scope (cellsFrom (s3.heap.objs.size + 1) scope.names (cloFrom X.env.cells scope.names [])) s3.heap.objs.size X.env = ce at I4 pg pe ⊢
  have loc : ce.locals = s3.heap.objs.size := by subst eC; rfl
  generalize eH3 : upd H2 D (SetTO X.prog X.w D []) = H3 at I3 I4 pg pe w0 none3 apart3
  generalize e4 : ({ s3 with heap := pushCells (s3.heap.push { cls := .type "dict", data := .dict #[] }) scope.names } : Shared) = s4 at I4 ⊢
  have at4 : tn 0 s4.heap := T.keep _ _ _ at3 fun b _ o e => by rw [← e4]; exact pushCells_keeps _ _ _ _ (Heap.get?_push_of_some _ e)
  have own_fp : ∀ {σ' : L2.St} {H' : Hp} {s' : Shared}, Inv (X.blk s3 H3 scope ce fp) [] σ' H' s' → (∀ b ∈ fp, H' b = none) → ∀ b ∈ fp, FpOk (X.blk s3 H3 scope ce fp) [] H' b := by
    intro σ' H' s' I' hn b hb
    refine ⟨hn b hb, (I'.ok.exf b hb).1, I'.ok.exfs b hb, .inl hb, fun x c e => (I'.ok.exf b hb).2 x c e, fun p hp => ?_⟩
    exact nomatch (show p ∈ ([] : List (Addr × Obj)) from hp)
  have loop : codeAny (model X.prog X.w) X.A (.compLoop (.SetComp elt [⟨tg, iter, [], 0⟩] scope pos) 0 (.ref it) (.ref D) ce) (compPost (model X.prog X.w) X.A X.xe none (EP X pins σ Q) (.ref D) s3.heap.objs.size) s4 := by
    refine PpSet.compLoopS_any (fun n s' => ∃ i H', Inv (X.blk s3 H3 scope ce fp) [] (wipe σ (own.map (·.2))) H' s' ∧ tn i s'.heap ∧ (∀ b ∈ fp, H' b = none) ∧ W i n H') ?_ m0 ⟨0, H3, I4, at4, none3, w0⟩
    rintro n s5 ⟨i, H5, I5, at5, none5, w5⟩
    rcases turn i n H5 w5 with ⟨stop, done⟩ | ⟨go, Nx, next, step⟩
    · refine thnF (T.done (X.blk s3 H3 scope ce fp) rfl rfl rfl hc i [] s5 _ H5 (fun _ _ => False) I5 (own_fp I5 none5) at5 stop) fun r s6 ends => ?_
      obtain ⟨rfl, I6⟩ := ends
      have I7 : Inv X pins σ H5 s6 := I3.call' (ch := fp) I6.os I6.base I6.hok I6.bare fun b hb => by
        obtain ⟨_, a1, _, a3, a4, a5⟩ := (apart3 b hb).1
        exact ⟨a3, a1, a4, a5⟩
      have noC : H5 s3.heap.objs.size = none := by rw [← loc]; exact I6.free
      obtain ⟨m, names, _⟩ := I6.loc
      have names' : s6.heap.Ns s3.heap.objs.size m := by rw [← loc]; exact names
      obtain ⟨f0, f1, f2, f3, f4, f5⟩ := I3.fpOk (Nat.le_refl _) noC
      refine ⟨m, names', fun h'' sb => ?_⟩
      exact ⟨.ref D, H5, I7.turned (t' := s6.toks) (fun b o n e => (sb.2 b n).trans e) f0 f1 f3 f4 f5, rfl, done⟩
    · refine thnF (T.item (X.blk s3 H3 scope ce fp) rfl rfl rfl hc i [] s5 _ H5 (fun _ _ => False) I5 (own_fp I5 none5) at5 go) fun r s6 got => ?_
      obtain ⟨u, rfl, h6⟩ := got
      refine thnF h6 fun _ s7 got => ?_
      obtain ⟨x, H7, I7, rx, y7, at7, none7⟩ := got
      refine thnF (pg.run _ s7 _ H7 x u _ (I7.pinned (own_fp I7 none7) (T.obj _ _ at7)) rx (step x H7 y7)) fun _ s8 got => ?_
      obtain ⟨σ8, H8, I8, same8, q8⟩ := got
      have turned : ∀ {s' : Shared} {H' : Hp}, Inv (X.blk s3 H3 scope ce fp) ([] ++ pinsAt fp s7.heap) σ8 H' s' → Nx H' → ∃ m, m < n ∧ ∃ i H', Inv (X.blk s3 H3 scope ce fp) [] (wipe σ (own.map (·.2))) H' s' ∧ tn i s'.heap ∧ (∀ b ∈ fp, H' b = none) ∧ W i m H' := by
        intro s' H' I' nx
        obtain ⟨m', less, w'⟩ := next H' nx
        have held : ∀ b ∈ fp, ∀ o, s7.heap.get? b = some o → s'.heap.get? b = some o ∧ H' b = none := by
          intro b hb o e
          obtain ⟨z1, z2, _⟩ := I'.pin (b, o) (List.mem_append_right _ (List.mem_append_right _ (mem_pinsAt hb e)))
          exact ⟨z1, z2⟩
        refine ⟨m', less, i + 1, H', (I'.unpinned (pins := [])).weak (by rw [← same8, wipe_length]) (fun j v e => ?_), T.keep _ _ _ at7 fun b hb o e => (held b hb o e).1, fun b hb => ?_, w'⟩
        · rw [← same8] at e; exact (wipe_some e).1
        · obtain ⟨o, e, _⟩ := T.obj _ _ at7 b hb
          exact (held b hb o e).2
      refine wpAny_pure ?_
      rw [if_pos rfl]
      refine thnF (pe.run _ s8 σ8 H8 _ I8 q8) fun z s9 got => ?_
      obtain ⟨yv, H9, I9, ry, b, k, L, rfl, hb, hD9, hL9, few, nx⟩ := got
      cases ry
      exact addT_ok (Y := X.blk s3 H3 scope ce fp) I9 hD9 hb hL9 few hu fun s10 L' c1 c2 I10 => turned I10 (nx L' c1 c2)
  exact PpSet.codeAny_compStart_set loop (T.self X.A 0 _ _ _ at4 loop)
end Lp


namespace Lp
open PySem PySem.Spec PyProof.Rows L2
/-! ### rings, as functions of lists -/
def routeG (ns : List Int) : Nat → List Int → Int → List Int
  | 0, acc, _ => acc
  | k + 1, acc, at_ => if at_ ∈ acc then acc else routeG ns k (acc ++ [at_]) (gt ns at_)
def routeF (ns : List Int) (p : Int) : List Int := routeG ns (ns.length + 1) [] p
theorem routeG_ok {ns : List Int} (lo : Low ns.length ns) {p : Int} (p0 : 0 ≤ p) (p1 : p < (ns.length : Int)) : ∀ (k L : Nat), (itrs ns p L).Nodup → ns.length < k + L → Route ns p (routeG ns k (itrs ns p L) (itr ns p L))
  | 0, L, nd, h => by
    have := low_len ns.length _ nd fun z hz => by
      obtain ⟨i, _, ei⟩ := itrs_mem.mp hz
      have := itr_low lo p0 p1 i
      omega
    rw [itrs_len] at this
    omega
  | k + 1, L, nd, h => by
    unfold routeG
    by_cases hm : itr ns p L ∈ itrs ns p L
    · rw [if_pos hm]
      exact ⟨L, rfl, nd, hm⟩
    · rw [if_neg hm, ← itrs_succ]
      exact routeG_ok lo p0 p1 k (L + 1) (by rw [itrs_succ]; exact Nodup.snoc nd hm) (by omega)
theorem routeF_ok {ns : List Int} (lo : Low ns.length ns) {p : Int} (p0 : 0 ≤ p) (p1 : p < (ns.length : Int)) : Route ns p (routeF ns p) := routeG_ok lo p0 p1 (ns.length + 1) 0 List.nodup_nil (by omega)
def beginF (ns rs : List Int) : Nat := rs.idxOf (gt ns (rs.getLastD 0))
def minF : List Int → Int
  | [] => 0
  | x :: r => r.foldl (fun a b => if b < a then b else a) x
theorem fold_min : ∀ (r : List Int) (x : Int), (r.foldl (fun a b => if b < a then b else a) x = x ∨ r.foldl (fun a b => if b < a then b else a) x ∈ r) ∧ r.foldl (fun a b => if b < a then b else a) x ≤ x ∧ ∀ y ∈ r, r.foldl (fun a b => if b < a then b else a) x ≤ y
  | [], x => ⟨.inl rfl, Int.le_refl x, fun y h => nomatch h⟩
  | z :: r, x => by
    have ih := fold_min r (if z < x then z else x)
    show (r.foldl _ (if z < x then z else x) = x ∨ _) ∧ _
    refine ⟨?_, ?_, ?_⟩
    · rcases ih.1 with h | h
      · by_cases q : z < x
        · right
          show r.foldl _ (if z < x then z else x) ∈ z :: r
          rw [h, if_pos q]; exact List.mem_cons_self
        · left
          show r.foldl _ (if z < x then z else x) = x
          rw [h, if_neg q]
      · right; exact List.mem_cons_of_mem _ h
    · show r.foldl _ (if z < x then z else x) ≤ x
      have := ih.2.1
      split at this <;> rename_i q
      · rw [if_pos q]; omega
      · rw [if_neg q]; exact this
    · intro y hy
      show r.foldl _ (if z < x then z else x) ≤ y
      rcases List.mem_cons.mp hy with h | h
      · have := ih.2.1
        split at this <;> rename_i q
        · rw [if_pos q, h]; exact this
        · rw [if_neg q, h]; omega
      · exact ih.2.2 y h
theorem minF_ok {ms : List Int} (h : ms ≠ []) : minF ms ∈ ms ∧ ∀ y ∈ ms, minF ms ≤ y := by
  cases ms with
  | nil => exact absurd rfl h
  | cons x r =>
    have := fold_min r x
    refine ⟨?_, fun y hy => ?_⟩
    · rcases this.1 with e | e
      · show r.foldl _ x ∈ x :: r
        rw [e]; exact List.mem_cons_self
      · exact List.mem_cons_of_mem _ e
    · rcases List.mem_cons.mp hy with e | e
      · rw [e]; exact this.2.1
      · exact this.2.2 y e
/-- the list, turned so that its least member is the first -/
def turnF (ms : List Int) : List Int := ms.drop (ms.idxOf (minF ms)) ++ ms.take (ms.idxOf (minF ms))
def ringF (ns : List Int) (p : Int) : List Int := turnF ((routeF ns p).drop (beginF ns (routeF ns p)))
def heightF (ns : List Int) (p : Int) : Nat := beginF ns (routeF ns p)
theorem idx_get {ms : List Int} {z : Int} (h : z ∈ ms) : ms[ms.idxOf z]? = some z := by
  have hl := List.idxOf_lt_length_of_mem h
  rw [List.getElem?_eq_getElem hl, List.getElem_idxOf hl]
theorem idx_first : ∀ (ms : List Int) (z : Int) (j : Nat), j < ms.idxOf z → ms[j]? ≠ some z
  | [], z, j, h => by simp at h
  | x :: ms, z, j, h => by
    rw [List.idxOf_cons] at h
    by_cases q : x = z
    · subst q; simp at h
    · have qb : (x == z) = false := beq_eq_false_iff_ne.mpr q
      rw [qb] at h
      cases j with
      | zero => intro e; exact q (Option.some.inj e)
      | succ j =>
        intro e
        exact idx_first ms z j (by simp at h; omega) e
theorem turnF_ne {ms : List Int} (h : ms ≠ []) : turnF ms ≠ [] := by
  intro e
  have := congrArg List.length e
  unfold turnF at this
  rw [List.length_append, List.length_drop, List.length_take, List.length_nil] at this
  have : ms.length = 0 := by omega
  exact h (List.eq_nil_of_length_eq_zero this)
/-- how a whole route begins its ring -/
theorem begin_at {ns : List Int} {p : Int} {L : Nat} (nd : (itrs ns p L).Nodup) (hin : itr ns p L ∈ itrs ns p L) {b : Nat} (hb : b < L) (eb : itr ns p b = itr ns p L) : beginF ns (itrs ns p L) = b := by
  obtain ⟨M, rfl⟩ : ∃ M, L = M + 1 := ⟨L - 1, by omega⟩
  unfold beginF
  have e : (itrs ns p (M + 1)).getLastD 0 = itr ns p M := by rw [itrs_succ]; simp
  rw [e]
  have hin' : gt ns (itr ns p M) ∈ itrs ns p (M + 1) := hin
  have h1 := idx_get hin'
  have hl := List.idxOf_lt_length_of_mem hin'
  rw [itrs_len] at hl
  rw [itrs_get hl] at h1
  exact itrs_apart nd hl hb ((Option.some.inj h1).trans eb.symm)
theorem lex_uniq : ∀ (a b : List (List Int)), a.Nodup → b.Nodup → a.Pairwise (fun x y => HT.lexLt y x = false) → b.Pairwise (fun x y => HT.lexLt y x = false) → (∀ k, k ∈ a ↔ k ∈ b) → a = b
  | [], [], _, _, _, _, _ => rfl
  | [], y :: _, _, _, _, _, h => nomatch (h y).mpr List.mem_cons_self
  | x :: _, [], _, _, _, _, h => nomatch (h x).mp List.mem_cons_self
  | x :: a, y :: b, na, nb, pa, pb, h => by
    have qa := List.pairwise_cons.mp pa
    have qb := List.pairwise_cons.mp pb
    have ra := List.nodup_cons.mp na
    have rb := List.nodup_cons.mp nb
    have e : x = y := by
      rcases List.mem_cons.mp ((h x).mp List.mem_cons_self) with e | e
      · exact e
      · rcases List.mem_cons.mp ((h y).mpr List.mem_cons_self) with e2 | e2
        · exact e2.symm
        · exact lex_eq x y (qb.1 x e) (qa.1 y e2)
    subst e
    have h2 : ∀ k, k ∈ a ↔ k ∈ b := fun k => by
      constructor
      · intro hk
        rcases List.mem_cons.mp ((h k).mp (List.mem_cons_of_mem _ hk)) with z | z
        · exact absurd (z ▸ hk) ra.1
        · exact z
      · intro hk
        rcases List.mem_cons.mp ((h k).mpr (List.mem_cons_of_mem _ hk)) with z | z
        · exact absurd (z ▸ hk) rb.1
        · exact z
    rw [lex_uniq a b ra.2 rb.2 qa.2 qb.2 h2]
/-- RS: all rings, ascending -/
def RingsOf (ns : List Int) (RS : List (List Int)) : Prop := RS.Nodup ∧ RS.Pairwise (fun x y => HT.lexLt y x = false) ∧ ∀ k, k ∈ RS ↔ ∃ j : Nat, j < ns.length ∧ ringF ns (j : Int) = k
theorem RingsOf.eq {ns : List Int} {a b : List (List Int)} (x : RingsOf ns a) (y : RingsOf ns b) : a = b := lex_uniq a b x.1 y.1 x.2.1 y.2.1 fun k => (x.2.2 k).trans (y.2.2 k).symm
section
variable {P : Program} {w : World} {K : PySem.W.Frag} {mg : Str → Option Value} {base : Heap}
/-! ### cuts -/
theorem cut_to {ns : List Int} {b : Nat} (h : b ≤ ns.length) : cutV (IL ns) none (some (b : Int)) = IL (ns.take b) := by
  rw [cut_IL, HT.sIx_none, sIx_int _ _ _ (by omega)]
  have e : min (b : Int).toNat ns.length = b := by omega
  rw [e, Nat.sub_zero, List.drop_zero]
def turnAt (ms : List Int) (z : Int) : List Int := ms.drop (ms.idxOf z) ++ ms.take (ms.idxOf z)
def spTurned : Sp := fun vs H Q _ => ∃ (m : Addr) (z : Int) (ms : List Int), vs = [.ref m, .int z] ∧ H m = some (.lst (IL ms)) ∧ z ∈ ms ∧ ms.length ≤ 1000 ∧
  ∀ H' r, Same H H' → H r = none → H' r = some (.lst (IL (turnAt ms z))) → Q (.ref r) H'
/-! ### turned -/
abbrev sTurned : Stmt := topS 5
theorem scTurned : FnScope ["members", "first", "at"] ["members", "first"] (defScope sTurned) := ⟨rfl, rfl, rfl, by decide +kernel, rfl, by decide +kernel, by decide +kernel⟩
theorem ok_turned {f : Addr} {fd : FuncData} {k : Nat} (F : Fun K "turned" "turned" sTurned f fd) : FnOk P w K mg base CX0 (k + 1) f fd ["members", "first"] spTurned := by
  refine F.ok scTurned (fun vs H Q E h => ?_) (fun cdv A outer s H vs Q E hr h => ?_)
  · obtain ⟨m, z, ms, rfl, _⟩ := h
    rfl
  · obtain ⟨m, z, ms, rfl, hm, hz, ml, q⟩ := h
    refine ⟨_, pss_cons (ps_set (i := 2) scTurned.nd rfl (.inl rfl) (pe_bm PySem.F.plainAttrs_list PySem.F.slot_list_index PySem.F.type_list_index mt_index (pv 0) (pa_cons (pv 1) pa_nil)))
      (pss_one (ps_ret (pe_op op_cat (pe_slice sl_list (pv 0) (po_some (pv 2)) po_none) (pe_slice sl_list (pv 0) po_none (po_some (pv 2)))))), ?_⟩
    have il := List.idxOf_lt_length_of_mem hz
    refine ⟨.ref m, rfl, .inl ⟨rfl, _, SqL.of hm⟩, .int z, rfl, ?_⟩
    refine ⟨m, _, _, ms.idxOf z, .int z, rfl, rfl, SqL.of hm, rfl, flat_ints _, IL_get (idx_get hz), ?_, fun j z' hj hz' => ?_, ?_⟩
    · rw [eqV_int, decide_eq_true rfl]
    · have hjl : j < ms.length := by omega
      rw [IL_get (List.getElem?_eq_getElem hjl)] at hz'
      cases hz'
      rw [eqV_int]
      refine decide_eq_false fun e => ?_
      exact idx_first ms z j hj (by rw [List.getElem?_eq_getElem hjl, e])
    · refine ⟨.ref m, rfl, .int (ms.idxOf z), rfl, _, rfl, m, _, rfl, SqL.of hm, fun c1 n1 => ?_⟩
      rw [cut_from (by omega)]
      have hm2 := upd_keep (u := .lst (IL (ms.drop (ms.idxOf z)))) hm n1
      refine ⟨.ref m, rfl, .int (ms.idxOf z), rfl, _, rfl, m, _, rfl, SqL.of hm2, fun c2 n2 => ?_⟩
      rw [cut_to (by omega)]
      refine ⟨c1, c2, _, _, rfl, rfl, upd_keep upd_same n2, upd_same, ?_, fun c3 n3 => ?_⟩
      · rw [List.length_map, List.length_map, List.length_drop, List.length_take]; exact sz (by omega)
      · have s5 := ((same_new (o := .lst (IL (ms.drop (ms.idxOf z)))) n1).trans (same_new (o := .lst (IL (ms.take (ms.idxOf z)))) n2))
        refine q _ c3 (s5.trans (same_new n3)) (s5.free n3) ?_
        rw [upd_same]
        show some (HO.lst (List.map V.int _ ++ List.map V.int _)) = some (HO.lst (List.map V.int _))
        rw [← List.map_append]; rfl
/-! ### ring_of -/
abbrev sRingOf : Stmt := topS 7
theorem scRingOf : FnScope ["state", "person", "route", "members"] ["state", "person"] (defScope sRingOf) := ⟨rfl, rfl, rfl, by decide +kernel, rfl, by decide +kernel, by decide +kernel⟩
def spRingOf : Sp := fun vs H Q _ => ∃ (a : Addr) (p : Int) (ns : List Int), vs = [.ref a, .int p] ∧ Sq H a (IL ns) ∧ Low ns.length ns ∧ ns.length ≤ 1000 ∧ 0 ≤ p ∧ p < (ns.length : Int) ∧
  ∀ H' r, Same H H' → H r = none → H' r = some (.tup (IL (ringF ns p))) → ringF ns p ≠ [] → Q (.ref r) H'
theorem ok_ringOf {f fC fR fB fT : Addr} {fd fdC fdR fdB fdT : FuncData} {k : Nat} (F : Fun K "ring_of" "ring_of" sRingOf f fd) (B : Bi mg) (C : Cal P w K mg base "check_person" (k + 1) ["state", "person"] spCheckP fC fdC) (R : Cal P w K mg base "route_from" (k + 1) ["pointers", "person"] spRoute fR fdR) (G : Cal P w K mg base "ring_begin" (k + 1) ["state", "route"] spBegin fB fdB) (T : Cal P w K mg base "turned" (k + 1) ["members", "first"] spTurned fT fdT) : FnOk P w K mg base CX0 (k + 2) f fd ["state", "person"] spRingOf := by
  refine F.ok scRingOf (fun vs H Q E h => ?_) (fun cdv A outer s H vs Q E hr h => ?_)
  · obtain ⟨a, p, ns, rfl, _⟩ := h
    rfl
  · obtain ⟨a, p, ns, rfl, hS, lo, ln, p0, p1, q⟩ := h
    refine ⟨_, pss_cons (ps_expr (pe_call C.ok hr (by rfl) C.g C.kp C.bd .nil pass0 (pa_cons (pv 0) (pa_cons (pv 1) pa_nil))))
      (pss_cons (ps_set (i := 2) scRingOf.nd rfl (.inl rfl) (pe_call R.ok hr (by rfl) R.g R.kp R.bd .nil pass0 (pa_cons (pv 0) (pa_cons (pv 1) pa_nil))))
      (pss_cons (ps_set (i := 3) scRingOf.nd rfl (.inl rfl) (pe_slice sl_list (pv 2) (po_some (pe_call G.ok hr (by rfl) G.g G.kp G.bd .nil pass0 (pa_cons (pv 0) (pa_cons (pv 2) pa_nil)))) po_none))
      (pss_one (ps_ret (pe_callTy call_tuple_of (by rfl) B.tuple (by decide +kernel) (pa_cons (pe_call T.ok hr (by rfl) T.g T.kp T.bd .nil pass0 (pa_cons (pv 3) (pa_cons (pe_callB (cr_min rfl) (by rfl) B.min (by decide +kernel) (pa_cons (pv 3) pa_nil)) pa_nil))) pa_nil)))))), ?_⟩
    refine ⟨.ref a, rfl, .int p, rfl, a, p, _, rfl, hS, p0, by rw [List.length_map]; exact p1, ?_⟩
    refine ⟨.ref a, rfl, .int p, rfl, a, p, ns, rfl, hS, lo, ln, p0, p1, fun H1 r rs s1 nr hr1 rt rl => ?_⟩
    have erF : rs = routeF ns p := rt.eq (routeF_ok lo p0 p1)
    obtain ⟨L, hrs, nd, hin⟩ := id rt
    rw [hrs] at hr1 nd hin
    refine ⟨.ref r, rfl, .ref a, rfl, .ref r, rfl, a, r, ns, p, L, rfl, hS.mono s1, lo, p0, p1, hr1, nd, hin, fun b hb eb => ?_⟩
    have ebg := begin_at nd hin hb eb
    refine ⟨b, rfl, r, _, rfl, SqL.of hr1, fun m nm => ?_⟩
    rw [cut_from (by rw [itrs_len]; omega)]
    generalize hms : (itrs ns p L).drop b = ms
    have ering : ringF ns p = turnF ms := by
      unfold ringF
      rw [← erF, hrs, ebg, hms]
    have ml : ms.length = L - b := by rw [← hms, List.length_drop, itrs_len]
    have mne : ms ≠ [] := fun e => by rw [e] at ml; simp at ml; omega
    have mm := minF_ok mne
    have lL : L ≤ ns.length := by rw [hrs, itrs_len] at rl; exact rl
    refine ⟨.ref m, rfl, .ref m, rfl, m, ms, rfl, SqL.of upd_same, by omega, fun z hz hle => ?_⟩
    have ez : z = minF ms := by
      have := mm.2 z hz
      have := hle _ mm.1
      omega
    subst ez
    refine ⟨m, _, ms, rfl, upd_same, mm.1, by omega, fun H2 r2 s2 nr2 hr2 => ?_⟩
    refine ⟨r2, _, rfl, .inl ⟨SqL.of hr2, fun t nt => ?_⟩⟩
    have s5 := (s1.trans (same_new (o := .lst (IL ms)) nm)).trans s2
    refine q _ t (s5.trans (same_new nt)) (s5.free nt) ?_ (by rw [ering]; exact turnF_ne mne)
    rw [upd_same, ering]; rfl
/-! ### height -/
abbrev sHeight : Stmt := topS 8
theorem scHeight : FnScope ["state", "person"] ["state", "person"] (defScope sHeight) := ⟨rfl, rfl, rfl, by decide +kernel, rfl, by decide +kernel, by decide +kernel⟩
def spHeight : Sp := fun vs H Q _ => ∃ (a : Addr) (p : Int) (ns : List Int), vs = [.ref a, .int p] ∧ Sq H a (IL ns) ∧ Low ns.length ns ∧ ns.length ≤ 1000 ∧ 0 ≤ p ∧ p < (ns.length : Int) ∧
  ∀ H', Same H H' → Q (.int (heightF ns p)) H'
theorem ok_height {f fC fR fB : Addr} {fd fdC fdR fdB : FuncData} {k : Nat} (F : Fun K "height" "height" sHeight f fd) (C : Cal P w K mg base "check_person" (k + 1) ["state", "person"] spCheckP fC fdC) (R : Cal P w K mg base "route_from" (k + 1) ["pointers", "person"] spRoute fR fdR) (G : Cal P w K mg base "ring_begin" (k + 1) ["state", "route"] spBegin fB fdB) : FnOk P w K mg base CX0 (k + 2) f fd ["state", "person"] spHeight := by
  refine F.ok scHeight (fun vs H Q E h => ?_) (fun cdv A outer s H vs Q E hr h => ?_)
  · obtain ⟨a, p, ns, rfl, _⟩ := h
    rfl
  · obtain ⟨a, p, ns, rfl, hS, lo, ln, p0, p1, q⟩ := h
    refine ⟨_, pss_cons (ps_expr (pe_call C.ok hr (by rfl) C.g C.kp C.bd .nil pass0 (pa_cons (pv 0) (pa_cons (pv 1) pa_nil))))
      (pss_one (ps_ret (pe_call G.ok hr (by rfl) G.g G.kp G.bd .nil pass0 (pa_cons (pv 0) (pa_cons (pe_call R.ok hr (by rfl) R.g R.kp R.bd .nil pass0 (pa_cons (pv 0) (pa_cons (pv 1) pa_nil))) pa_nil))))), ?_⟩
    refine ⟨.ref a, rfl, .int p, rfl, a, p, _, rfl, hS, p0, by rw [List.length_map]; exact p1, ?_⟩
    refine ⟨.ref a, rfl, .ref a, rfl, .int p, rfl, a, p, ns, rfl, hS, lo, ln, p0, p1, fun H1 r rs s1 nr hr1 rt rl => ?_⟩
    have erF : rs = routeF ns p := rt.eq (routeF_ok lo p0 p1)
    obtain ⟨L, hrs, nd, hin⟩ := id rt
    rw [hrs] at hr1 nd hin
    refine ⟨a, r, ns, p, L, rfl, hS.mono s1, lo, p0, p1, hr1, nd, hin, fun b hb eb => ?_⟩
    have e : heightF ns p = b := by
      unfold heightF
      rw [← erF, hrs]; exact begin_at nd hin hb eb
    rw [← e]; exact q H1 s1
end
end Lp

namespace Lp
open PySem PySem.Spec PyProof.Rows L2
/-! ### lists of int tuples as data -/
abbrev dTs (ls : List (List Int)) : List PyData := ls.map fun l => PyData.tuple (dI l)
theorem lay_Ts : ∀ ls : List (List Int), PyData.canLayAll0 (dTs ls) = true
  | [] => by simp [PyData.canLayAll0]
  | x :: r => by
    have := lay_Ts r
    simp only [List.map_cons, PyData.canLayAll0, PyData.canLay0, lay_ints, this, Bool.and_self]
theorem depth_Ts : ∀ ls : List (List Int), PyData.depthAll (dTs ls) ≤ 1
  | [] => by simp [PyData.depthAll]
  | x :: r => by
    have h : PyData.depthAll (List.map (fun l => PyData.tuple (dI l)) r) ≤ 1 := depth_Ts r
    simp only [List.map_cons, PyData.depthAll, PyData.depth, depth_ints]
    omega
theorem shTs (ls : List (List Int)) : SeqAt.shaped (.list (dTs ls)) = true := by
  unfold SeqAt.shaped
  have h : PyData.depthAll (List.map (fun l => PyData.tuple (dI l)) ls) ≤ 1 := depth_Ts ls
  have h2 : PyData.canLayAll0 (List.map (fun l => PyData.tuple (dI l)) ls) = true := lay_Ts ls
  simp only [PyData.canLay0, PyData.depth, h2, Bool.true_and]
  exact decide_eq_true (Nat.le_trans (Nat.add_le_add_right h 1) (show 1 + 1 ≤ 64 by decide))
theorem eqv_Ts : ∀ a b : List (List Int), PyData.eqvAll (dTs a) (dTs b) = decide (a = b)
  | [], [] => by simp [PyData.eqvAll]
  | [], _ :: _ => by simp [PyData.eqvAll]
  | _ :: _, [] => by simp [PyData.eqvAll]
  | x :: r, y :: t => by
    have ih := eqv_Ts r t
    simp only [List.map_cons, PyData.eqvAll, ih, eqvT]
    by_cases h : x = y
    · subst h
      by_cases h2 : r = t
      · subst h2; simp
      · simp [h2]
    · simp [h]
theorem eqvTs (a b : List (List Int)) : PyData.eqv (.list (dTs a)) (.list (dTs b)) = decide (a = b) := by
  simp only [PyData.eqv]; exact eqv_Ts a b
theorem dp_Ts {K : PySem.W.Frag} {H : Hp} : ∀ L : List (Addr × List Int), (∀ p ∈ L, H p.1 = some (.tup (IL p.2))) → DpAll K H (RL L) (dTs (L.map (·.2)))
  | [], _ => .nil
  | p :: L, h => .cons (.tup (SqT.of (h p List.mem_cons_self)) (dp_ints p.2)) (dp_Ts L fun q hq => h q (List.mem_cons_of_mem _ hq))
/-- the ints a .. b - 1 -/
def rgI (a b : Int) : List Int := (List.range (b - a).toNat).map fun i : Nat => a + (i : Int)
theorem rgV_eq (a b : Int) : rgV a b = IL (rgI a b) := by
  unfold rgV rgI
  show _ = List.map V.int (List.map _ _)
  rw [List.map_map]; rfl
theorem rgI_len (a b : Int) : (rgI a b).length = (b - a).toNat := by unfold rgI; rw [List.length_map, List.length_range]
theorem rep_flat (k : Nat) (z : V) : (List.replicate k [z]).flatten = List.replicate k z := by
  induction k with
  | zero => rfl
  | succ k ih => rw [List.replicate_succ, List.flatten_cons, ih, List.replicate_succ]; rfl
theorem rep_IL (k : Nat) (z : Int) : (List.replicate k [V.int z]).flatten = IL (List.replicate k z) := by
  rw [rep_flat]
  show _ = List.map V.int _
  rw [List.map_replicate]
theorem IL_cat (a b : List Int) : IL a ++ IL b = IL (a ++ b) := by
  show List.map _ _ ++ List.map _ _ = List.map _ _
  rw [List.map_append]
end Lp

namespace Lp
open PySem PySem.Spec PyProof.Rows L2
/-! ### the theory of rings -/
theorem itr_add (ns : List Int) (p : Int) (a : Nat) : ∀ b, itr ns p (a + b) = itr ns (itr ns p a) b
  | 0 => rfl
  | b + 1 => congrArg (gt ns) (itr_add ns p a b)
theorem itrs_cat (ns : List Int) (p : Int) (a : Nat) : ∀ b, itrs ns p (a + b) = itrs ns p a ++ itrs ns (itr ns p a) b
  | 0 => (List.append_nil _).symm
  | b + 1 => by
    rw [← Nat.add_assoc, itrs_succ, itrs_cat ns p a b, itrs_succ, itr_add, List.append_assoc]
def Cyc (ns : List Int) (q : Int) (c : Nat) : Prop := 0 < c ∧ itr ns q c = q ∧ (itrs ns q c).Nodup
theorem Cyc.cut {ns : List Int} {q : Int} {c j : Nat} (h : j ≤ c) : (itrs ns q c).drop j = itrs ns (itr ns q j) (c - j) ∧ (itrs ns q c).take j = itrs ns q j := by
  obtain ⟨d, rfl⟩ : ∃ d, c = j + d := ⟨c - j, by omega⟩
  rw [itrs_cat, Nat.add_sub_cancel_left]
  have l := itrs_len ns q j
  constructor
  · conv => lhs; arg 1; rw [← l]
    rw [List.drop_left]
  · conv => lhs; arg 1; rw [← l]
    rw [List.take_left]
theorem Cyc.turn {ns : List Int} {q : Int} {c j : Nat} (x : Cyc ns q c) (h : j ≤ c) : itrs ns (itr ns q j) c = (itrs ns q c).drop j ++ (itrs ns q c).take j := by
  rw [(Cyc.cut h).1, (Cyc.cut h).2]
  have e : itrs ns (itr ns q j) c = itrs ns (itr ns q j) ((c - j) + j) := by congr 1; omega
  rw [e, itrs_cat, ← itr_add]
  have e2 : j + (c - j) = c := by omega
  rw [e2, x.2.1]
theorem Cyc.all {ns : List Int} {q : Int} {c : Nat} (x : Cyc ns q c) (t : Nat) : itr ns q t ∈ itrs ns q c := by
  have := itr_mod (ns := ns) (p := q) (b := 0) (d := c) x.1 (by rw [Nat.zero_add]; exact x.2.1) t
  rw [Nat.zero_add, Nat.zero_add] at this
  rw [this]
  exact itrs_mem.mpr ⟨t % c, Nat.mod_lt _ x.1, rfl⟩
theorem Cyc.at {ns : List Int} {q z : Int} {c : Nat} (x : Cyc ns q c) (h : z ∈ itrs ns q c) : Cyc ns z c ∧ ∀ y, y ∈ itrs ns z c ↔ y ∈ itrs ns q c := by
  obtain ⟨j, hj, rfl⟩ := itrs_mem.mp h
  have t := x.turn (j := j) (by omega)
  have pm : (itrs ns (itr ns q j) c).Perm (itrs ns q c) := by
    rw [t]
    have := List.perm_append_comm (l₁ := (itrs ns q c).drop j) (l₂ := (itrs ns q c).take j)
    rw [List.take_append_drop] at this
    exact this
  refine ⟨⟨x.1, ?_, pm.nodup_iff.mpr x.2.2⟩, fun y => pm.mem_iff⟩
  rw [← itr_add, Nat.add_comm, itr_add, x.2.1]
theorem Cyc.uniq {ns : List Int} {z : Int} {c d : Nat} (x : Cyc ns z c) (y : Cyc ns z d) : c = d := by
  rcases Nat.lt_trichotomy c d with h | h | h
  · have := itrs_apart y.2.2 (i := 0) (j := c) y.1 h x.2.1.symm
    have := x.1; omega
  · exact h
  · have := itrs_apart x.2.2 (i := 0) (j := d) x.1 h y.2.1.symm
    have := y.1; omega
theorem itrs_ne {ns : List Int} {q : Int} {c : Nat} (h : 0 < c) : itrs ns q c ≠ [] := fun e => by
  have := itrs_len ns q c
  rw [e] at this
  simp at this; omega
theorem Cyc.turnF {ns : List Int} {q : Int} {c : Nat} (x : Cyc ns q c) : turnF (itrs ns q c) = itrs ns (minF (itrs ns q c)) c := by
  have m := minF_ok (itrs_ne (ns := ns) (q := q) x.1)
  have il := List.idxOf_lt_length_of_mem m.1
  have g := idx_get m.1
  unfold Lp.turnF
  generalize hj : (itrs ns q c).idxOf (minF (itrs ns q c)) = j at il g
  rw [itrs_len] at il
  rw [itrs_get il] at g
  rw [← Option.some.inj g, x.turn (by omega)]
theorem Cyc.same {ns : List Int} {q r z : Int} {c d : Nat} (x : Cyc ns q c) (y : Cyc ns r d) (h1 : z ∈ itrs ns q c) (h2 : z ∈ itrs ns r d) : Lp.turnF (itrs ns q c) = Lp.turnF (itrs ns r d) := by
  have a := x.at h1
  have b := y.at h2
  have e := a.1.uniq b.1
  subst e
  rw [x.turnF, y.turnF]
  have m1 := minF_ok (itrs_ne (ns := ns) (q := q) x.1)
  have m2 := minF_ok (itrs_ne (ns := ns) (q := r) x.1)
  have := m1.2 _ ((a.2 _).mp ((b.2 _).mpr m2.1))
  have := m2.2 _ ((b.2 _).mp ((a.2 _).mpr m1.1))
  have e : minF (itrs ns q c) = minF (itrs ns r c) := by omega
  rw [e]
theorem ringF_cyc {ns : List Int} (lo : Low ns.length ns) {p : Int} (p0 : 0 ≤ p) (p1 : p < (ns.length : Int)) : ∃ c, Cyc ns (itr ns p (heightF ns p)) c ∧ ringF ns p = turnF (itrs ns (itr ns p (heightF ns p)) c) ∧ routeF ns p = itrs ns p (heightF ns p + c) := by
  have rt := routeF_ok lo p0 p1
  obtain ⟨L, hrs, nd, hin⟩ := id rt
  rw [hrs] at nd hin
  obtain ⟨b, hb, eb⟩ := itrs_mem.mp hin
  have e := begin_at nd hin hb eb
  have eh : heightF ns p = b := by unfold heightF; rw [hrs]; exact e
  have ct := Cyc.cut (ns := ns) (q := p) (c := L) (j := b) (by omega)
  rw [eh]
  refine ⟨L - b, ⟨by omega, ?_, ?_⟩, ?_, ?_⟩
  · rw [← itr_add]
    have : b + (L - b) = L := by omega
    rw [this, eb]
  · rw [← ct.1]
    exact nd.sublist (List.drop_sublist b _)
  · unfold ringF
    rw [hrs, e, ct.1]
  · rw [hrs]; congr 1; omega
theorem ringF_step {ns : List Int} (lo : Low ns.length ns) {p : Int} (p0 : 0 ≤ p) (p1 : p < (ns.length : Int)) : ringF ns (gt ns p) = ringF ns p := by
  have g := gt_low lo p0 (by omega)
  obtain ⟨c, x, e, _⟩ := ringF_cyc lo p0 p1
  obtain ⟨d, y, e2, _⟩ := ringF_cyc lo g.1 g.2
  rw [e, e2]
  refine y.same x (z := itr ns p (heightF ns p + (heightF ns (gt ns p) + 1))) ?_ ?_
  · have : heightF ns p + (heightF ns (gt ns p) + 1) = (heightF ns (gt ns p) + heightF ns p) + 1 := by omega
    rw [this, itr_succ, itr_add]
    exact y.all _
  · rw [itr_add]
    exact x.all _
theorem ringF_itr {ns : List Int} (lo : Low ns.length ns) {p : Int} (p0 : 0 ≤ p) (p1 : p < (ns.length : Int)) : ∀ k, ringF ns (itr ns p k) = ringF ns p
  | 0 => rfl
  | k + 1 => by
    have l := itr_low lo p0 p1 k
    show ringF ns (gt ns (itr ns p k)) = _
    rw [ringF_step lo l.1 l.2, ringF_itr lo p0 p1 k]
/-- a ring: its least member first, each member pointing at the next one -/
theorem ringF_form {ns : List Int} (lo : Low ns.length ns) {p : Int} (p0 : 0 ≤ p) (p1 : p < (ns.length : Int)) : ∃ m c, ringF ns p = itrs ns m c ∧ Cyc ns m c ∧ (∀ y ∈ ringF ns p, m ≤ y) ∧ 0 ≤ m ∧ m < (ns.length : Int) := by
  obtain ⟨c, x, e, _⟩ := ringF_cyc lo p0 p1
  have m := minF_ok (itrs_ne (ns := ns) (q := itr ns p (heightF ns p)) x.1)
  have a := x.at m.1
  have l := itr_low lo p0 p1 (heightF ns p)
  refine ⟨_, c, e.trans x.turnF, a.1, fun y hy => ?_, ?_⟩
  · rw [e, x.turnF] at hy
    exact m.2 y ((a.2 y).mp hy)
  · obtain ⟨i, _, ei⟩ := itrs_mem.mp m.1
    rw [← ei]
    exact itr_low lo l.1 l.2 i
end Lp

namespace Lp
open PySem PySem.Spec PyProof.Rows L2
/-! ### min of a tuple of ints -/
section
variable {prog : Program} {w : World} {A : Around} {E : Value → Shared → Prop} {s : Shared} {l : Addr}
theorem min_tupI {xs : Array (Int × Tok)} {Q : Value → Shared → Prop} (calm : A.handled = none) (ht : s.heap.IsTuple l (intItems xs)) (ne : 0 < xs.size)
    (q : ∀ v h' tk, (intItems xs)[argBest (fun i j => decide (numAt xs i < numAt xs j)) (xs.size - 1)]? = some v → (∀ b o, s.heap.get? b = some o → h'.get? b = some o) → Q v { s with heap := h', toks := tk }) :
    wpAny (model prog w) A (call (.builtin "min") [.ref l]) Q E s := by
  have lt : l < s.heap.objs.size := by obtain ⟨_, e, _⟩ := ht; exact Heap.lt_size e
  refine call_min_walk (wpAny_pyIter_tuple ht ?_)
  refine ⟨_, [_, l], [_], _, _, _, _, rfl, Walks.tuple (A := A.in1) calm _ l (Nat.ne_of_lt lt) (intItems xs), ⟨⟨_, Heap.get?_push_size _ rfl, rfl, rfl⟩, ht.push _⟩, fun c hc => ?_, by simpa [intItems] using ne, CmpOf.ints_lt (numAt xs) (fun _ _ => intItems_at), fun v h' tk hP hk => ?_⟩
  · have e : c = s.heap.objs.size ∨ c = l := by simpa using hc
    have z : (s.heap.push { cls := .type "tuple_iterator", data := .fields #[.ref l, .int 0 0] }).objs.size = s.heap.objs.size + 1 := Heap.size_push ..
    show c < _
    rw [z]
    rcases e with rfl | rfl
    · exact Nat.lt_succ_self _
    · exact Nat.lt_succ_of_lt lt
  · refine q v h' tk (by simpa [intItems] using hP) fun c o e => hk c o (fun hm => ?_) (Heap.get?_push_of_some _ e)
    have ec : c = s.heap.objs.size := by simpa using hm
    rw [ec] at e
    exact Nat.lt_irrefl _ (Heap.lt_size e)
theorem min_tupN {its : List Value} {ns : List Int} {Q : Value → Shared → Prop} (calm : A.handled = none) (ht : s.heap.IsTuple l its.toArray) (hi : IntsAre its ns) (ne : 0 < ns.length)
    (q : ∀ h' tk M t', (∀ b o, s.heap.get? b = some o → h'.get? b = some o) → M ∈ ns → (∀ a, a ∈ ns → M ≤ a) → Q (.int M t') { s with heap := h', toks := tk }) : wpAny (model prog w) A (call (.builtin "min") [.ref l]) Q E s := by
  obtain ⟨xs, e⟩ := hi.allInts.items
  have en : numsOf (intItems xs).toList = ns := e ▸ hi.numsOf
  rw [nums_intItems] at en
  subst en
  rw [e] at ht
  refine min_tupI calm ht (by simpa using ne) fun v h' tk hv hk => ?_
  obtain ⟨t, rfl⟩ := intItems_at hv
  have best := (argBest_lt (numAt xs) (xs.size - 1)).2
  have size : 0 < xs.size := by simpa using ne
  have len : (xs.toList.map (·.1)).length = xs.size := by rw [List.length_map, Array.length_toList]
  have le := (argBest_lt (numAt xs) (xs.size - 1)).1
  refine q h' tk _ t hk (by rw [numAt_eq]; exact PySem.getD_mem (by rw [len]; omega)) fun a ha => ?_
  obtain ⟨j, hj, rfl⟩ := mem_getD ha
  rw [len] at hj
  rw [← numAt_eq]
  exact best j (by omega)
end
section
variable {X : Cx}
def rMinT (K : PySem.W.Frag) : List V → Hp → VK → Prop := fun vs H Q => ∃ (a : Addr) (ns : List Int), vs = [V.ref a] ∧ SqT K H a (IL ns) ∧ 0 < ns.length ∧ ∀ m, m ∈ ns → (∀ y, y ∈ ns → m ≤ y) → Q (.int m) H
theorem cr_minT (hc : X.calm = true) : CallR X (.builtin "min") (rMinT X.K) := by
  intro pins s σ H vs us Q I r h
  obtain ⟨a, ns, rfl, hs, ne, q⟩ := h
  obtain ⟨its, rv, ht, _⟩ := I.tuple hs
  rw [Vals.ref1 r]
  exact min_tupN (I.ok.hd hc) ht rv.ints ne fun h' tk m t' hk h1 h2 => ⟨.int m, H, I.kept hk, ⟨t', rfl⟩, q m h1 h2⟩
end
end Lp

namespace Lp
open PySem PySem.Spec PyProof.Rows L2
/-- the way on from the last one met on a way: the whole ring -/
theorem lap_of {ns : List Int} (lo : Low ns.length ns) {q : Int} (q0 : 0 ≤ q) (q1 : q < (ns.length : Int)) {L : Nat} (rt : Route ns q (itrs ns q L)) : ∃ M z c, L = M + 1 ∧ gt ns (itr ns q M) = z ∧ Cyc ns z c ∧ ringF ns q = turnF (itrs ns z c) ∧ Route ns z (itrs ns z c) := by
  obtain ⟨c, x, e1, e2⟩ := ringF_cyc lo q0 q1
  have e := rt.eq (routeF_ok lo q0 q1)
  rw [e2] at e
  have el := congrArg List.length e
  rw [itrs_len, itrs_len] at el
  have c0 := x.1
  refine ⟨L - 1, itr ns q (heightF ns q), c, by omega, ?_, x, e1, ⟨c, rfl, x.2.2, ?_⟩⟩
  · show itr ns q (L - 1 + 1) = _
    have : L - 1 + 1 = heightF ns q + c := by omega
    rw [this, itr_add, x.2.1]
  · exact x.all c
section
variable {P : Program} {w : World} {K : PySem.W.Frag} {mg : Str → Option Value} {base : Heap}
/-! ### _law_ring -/
abbrev sRingL : Stmt := topS 21
theorem scRingL : FnScope ["_law_here", "_law_who", "_law_lap", "_law_at"] ["_law_here", "_law_who"] (defScope sRingL) := ⟨rfl, rfl, rfl, by decide +kernel, rfl, by decide +kernel, by decide +kernel⟩
def spRingL : Sp := fun vs H Q _ => ∃ (a : Addr) (p : Int) (ns : List Int), vs = [.ref a, .int p] ∧ H a = some (.tup (IL ns)) ∧ Low ns.length ns ∧ ns.length ≤ 1000 ∧ 0 ≤ p ∧ p < (ns.length : Int) ∧
  ∀ H' r, Same H H' → H r = none → H' r = some (.tup (IL (ringF ns p))) → ringF ns p ≠ [] → Q (.ref r) H'
theorem ok_ringL {f fM : Addr} {fd fdM : FuncData} {k : Nat} (F : Fun K "_law_ring" "_law_ring" sRingL f fd) (B : Bi mg) (M : Cal P w K mg base "_law_met" (k + 1) ["_law_here", "_law_who"] spMet fM fdM) : FnOk P w K mg base CX0 (k + 2) f fd ["_law_here", "_law_who"] spRingL := by
  refine F.ok scRingL (fun vs H Q E h => ?_) (fun cdv A outer s H vs Q E hr h => ?_)
  · obtain ⟨a, p, ns, rfl, _⟩ := h
    rfl
  · obtain ⟨a, p, ns, rfl, hS, lo, ln, p0, p1, q⟩ := h
    refine ⟨_, pss_cons (ps_set (i := 2) scRingL.nd rfl (.inl rfl) (pe_call M.ok hr (by rfl) M.g M.kp M.bd .nil pass0 (pa_cons (pv 0) (pa_cons (pe_ix ix_list (pe_call M.ok hr (by rfl) M.g M.kp M.bd .nil pass0 (pa_cons (pv 0) (pa_cons (pv 1) pa_nil))) (pe_un un_neg pe_int) (fun _ _ => rfl)) pa_nil))))
      (pss_cons (ps_set (i := 3) scRingL.nd rfl (.inl rfl) (pe_bm PySem.F.plainAttrs_list PySem.F.slot_list_index PySem.F.type_list_index mt_index (pv 2) (pa_cons (pe_callB (cr_min rfl) (by rfl) B.min (by decide +kernel) (pa_cons (pv 2) pa_nil)) pa_nil)))
      (pss_one (ps_ret (pe_callTy call_tuple_of (by rfl) B.tuple (by decide +kernel) (pa_cons (pe_op op_cat (pe_slice sl_list (pv 2) (po_some (pv 3)) po_none) (pe_slice sl_list (pv 2) po_none (po_some (pv 3)))) pa_nil))))), ?_⟩
    have g0 := gt_low lo p0 p1
    refine ⟨.ref a, rfl, .ref a, rfl, .int p, rfl, a, p, ns, rfl, hS, lo, ln, p0, p1, fun H1 r rs s1 nr hr1 rt rl => ?_⟩
    obtain ⟨L, rfl, nd, hin⟩ := id rt
    obtain ⟨M', z, c, rfl, ez, cy, er, rt2⟩ := lap_of lo g0.1 g0.2 rt
    have last : atI (IL (itrs ns (gt ns p) (M' + 1))) (-1) = some (.int (itr ns (gt ns p) M')) := at_last (i := M') (by rw [List.length_map, itrs_len]) (IL_get (itrs_get (Nat.lt_succ_self M')))
    have il := itr_low lo g0.1 g0.2 M'
    refine ⟨1, rfl, r, _, -1, _, rfl, rfl, SqL.of hr1, last, a, _, ns, rfl, s1 _ _ hS, lo, ln, il.1, il.2, fun H2 m rs2 s2 nm hm rt3 rl2 => ?_⟩
    rw [ez] at rt3
    have e3 := rt3.eq rt2
    rw [ringF_step lo p0 p1] at er
    rw [← e3] at er
    have mne : rs2 ≠ [] := by rw [e3]; exact itrs_ne cy.1
    clear rt2 rt3 e3
    have mm := minF_ok mne
    have il := List.idxOf_lt_length_of_mem mm.1
    refine ⟨.ref m, rfl, .inl ⟨rfl, _, SqL.of hm⟩, .ref m, rfl, m, rs2, rfl, SqL.of hm, List.length_pos_iff.mpr mne, fun y hy hle => ?_⟩
    have ey : y = minF rs2 := by
      have := mm.2 y hy
      have := hle _ mm.1
      omega
    subst ey
    refine ⟨m, _, _, rs2.idxOf (minF rs2), .int (minF rs2), rfl, rfl, SqL.of hm, rfl, flat_ints _, IL_get (idx_get mm.1), ?_, fun j z' hj hz' => ?_, ?_⟩
    · rw [eqV_int, decide_eq_true rfl]
    · have hjl : j < rs2.length := by omega
      rw [IL_get (List.getElem?_eq_getElem hjl)] at hz'
      cases hz'
      rw [eqV_int]
      exact decide_eq_false fun e => idx_first rs2 (minF rs2) j hj (by rw [List.getElem?_eq_getElem hjl, e])
    · refine ⟨.ref m, rfl, .int (rs2.idxOf (minF rs2)), rfl, _, rfl, m, _, rfl, SqL.of hm, fun c1 n1 => ?_⟩
      rw [cut_from (by omega)]
      have hm2 := upd_keep (u := .lst (IL (rs2.drop (rs2.idxOf (minF rs2))))) hm n1
      refine ⟨.ref m, rfl, .int (rs2.idxOf (minF rs2)), rfl, _, rfl, m, _, rfl, SqL.of hm2, fun c2 n2 => ?_⟩
      rw [cut_to (by omega)]
      refine ⟨c1, c2, _, _, rfl, rfl, upd_keep upd_same n2, upd_same, ?_, fun c3 n3 => ?_⟩
      · rw [List.length_map, List.length_map, List.length_drop, List.length_take]; exact sz (by omega)
      · refine ⟨c3, _, rfl, .inl ⟨SqL.of upd_same, fun t nt => ?_⟩⟩
        have s5 := ((((s1.trans s2).trans (same_new (o := .lst (IL (rs2.drop (rs2.idxOf (minF rs2))))) n1)).trans (same_new (o := .lst (IL (rs2.take (rs2.idxOf (minF rs2))))) n2)).trans (same_new (o := .lst (IL (rs2.drop (rs2.idxOf (minF rs2))) ++ IL (rs2.take (rs2.idxOf (minF rs2))))) n3))
        refine q _ t (s5.trans (same_new nt)) (s5.free nt) ?_ (by rw [er]; exact turnF_ne mne)
        rw [upd_same, er]
        exact congrArg (fun z => some (HO.tup z)) (IL_cat _ _)
end
end Lp


namespace Lp
open PySem PySem.Spec PyProof.Rows L2
/-! ### components, as functions of lists -/
def headF (ns : List Int) (p : Int) : Int := (ringF ns p).headD 0
theorem headF_form {ns : List Int} (lo : Low ns.length ns) {p : Int} (p0 : 0 ≤ p) (p1 : p < (ns.length : Int)) : ∃ c, ringF ns p = itrs ns (headF ns p) c ∧ Cyc ns (headF ns p) c ∧ 0 ≤ headF ns p ∧ headF ns p < (ns.length : Int) := by
  obtain ⟨m, c, e, cy, _, m0, m1⟩ := ringF_form lo p0 p1
  have em : headF ns p = m := by
    unfold headF
    obtain ⟨d, rfl⟩ : ∃ d, c = 1 + d := ⟨c - 1, by have := cy.1; omega⟩
    rw [e, itrs_cat]; rfl
  rw [em]
  exact ⟨c, e, cy, m0, m1⟩
theorem head_iff {ns : List Int} (lo : Low ns.length ns) {p q : Int} (p0 : 0 ≤ p) (p1 : p < (ns.length : Int)) (q0 : 0 ≤ q) (q1 : q < (ns.length : Int)) : headF ns p = headF ns q ↔ ringF ns p = ringF ns q := by
  constructor
  · intro e
    obtain ⟨c, e1, cy, _⟩ := headF_form lo p0 p1
    obtain ⟨d, e2, dy, _⟩ := headF_form lo q0 q1
    rw [e] at e1 cy
    rw [e1, e2, cy.uniq dy]
  · intro e
    unfold headF
    rw [e]
/-- the people below i whose ring begins with m -/
def compH (ns : List Int) (m : Int) (i : Nat) : List Int := ((List.range i).filter fun j : Nat => decide (headF ns (j : Int) = m)).map Int.ofNat
theorem compH_succ (ns : List Int) (m : Int) (i : Nat) : compH ns m (i + 1) = if headF ns (i : Int) = m then compH ns m i ++ [(i : Int)] else compH ns m i := by
  unfold compH
  rw [List.range_succ, List.filter_append, List.map_append]
  by_cases h : headF ns (i : Int) = m
  · rw [if_pos h, List.filter_cons_of_pos (p := fun j : Nat => decide (headF ns (j : Int) = m)) (decide_eq_true h)]; rfl
  · rw [if_neg h, List.filter_cons_of_neg (p := fun j : Nat => decide (headF ns (j : Int) = m)) (by rw [decide_eq_false h]; exact Bool.false_ne_true)]
    show _ ++ [] = _
    rw [List.append_nil]
theorem compH_mem {ns : List Int} {m z : Int} {i : Nat} : z ∈ compH ns m i ↔ ∃ j : Nat, j < i ∧ headF ns (j : Int) = m ∧ z = (j : Int) := by
  unfold compH
  rw [List.mem_map]
  constructor
  · rintro ⟨j, hj, e⟩
    have q := List.mem_filter.mp hj
    exact ⟨j, List.mem_range.mp q.1, of_decide_eq_true q.2, e.symm⟩
  · rintro ⟨j, hj, e, rfl⟩
    exact ⟨j, List.mem_filter.mpr ⟨List.mem_range.mpr hj, decide_eq_true e⟩, rfl⟩
theorem compH_len (ns : List Int) (m : Int) (i : Nat) : (compH ns m i).length ≤ i := by
  unfold compH
  rw [List.length_map]
  have := List.length_filter_le (fun j : Nat => decide (headF ns (j : Int) = m)) (List.range i)
  rw [List.length_range] at this
  exact this
def compF (ns : List Int) (p : Int) : List Int := compH ns (headF ns p) ns.length
def CompsOf (ns : List Int) (CS : List (List Int)) : Prop := CS.Nodup ∧ CS.Pairwise (fun x y => HT.lexLt y x = false) ∧ ∀ k, k ∈ CS ↔ ∃ j : Nat, j < ns.length ∧ compF ns (j : Int) = k
theorem CompsOf.eq {ns : List Int} {a b : List (List Int)} (x : CompsOf ns a) (y : CompsOf ns b) : a = b := lex_uniq a b x.1 y.1 x.2.1 y.2.1 fun k => (x.2.2 k).trans (y.2.2 k).symm
/-! ### groups: a dict from ints to lists -/
abbrev kvG (G : List (Int × Addr)) : List (Key × V) := G.map fun g => (Sum.inl g.1, V.ref g.2)
theorem vG_some : ∀ (G : List (Int × Addr)) (m : Int) (v : V), valV (kvG G) (.inl m) = some v → ∃ a, v = .ref a ∧ (m, a) ∈ G
  | [], m, v, h => by cases h
  | g :: G, m, v, h => by
    by_cases e : g.1 = m
    · have : valV (kvG (g :: G)) (.inl m) = some (V.ref g.2) := valV_pos (congrArg Sum.inl e)
      rw [this] at h
      cases h
      exact ⟨g.2, rfl, by rw [← e]; exact List.mem_cons_self⟩
    · have : valV (kvG (g :: G)) (.inl m) = valV (kvG G) (.inl m) := valV_neg (fun z => e (Sum.inl.inj z))
      rw [this] at h
      obtain ⟨a, ea, ha⟩ := vG_some G m v h
      exact ⟨a, ea, List.mem_cons_of_mem _ ha⟩
theorem vG_none : ∀ (G : List (Int × Addr)) (m : Int), valV (kvG G) (.inl m) = none → m ∉ G.map (·.1)
  | [], m, _ => fun h => nomatch h
  | g :: G, m, h => by
    by_cases e : g.1 = m
    · have : valV (kvG (g :: G)) (.inl m) = some (V.ref g.2) := valV_pos (congrArg Sum.inl e)
      rw [this] at h; cases h
    · have : valV (kvG (g :: G)) (.inl m) = valV (kvG G) (.inl m) := valV_neg (fun z => e (Sum.inl.inj z))
      rw [this] at h
      intro q
      rcases List.mem_cons.mp q with q | q
      · exact e q.symm
      · exact vG_none G m h q
theorem vG_at : ∀ (G : List (Int × Addr)) (m : Int) (a : Addr), (G.map (·.1)).Nodup → (m, a) ∈ G → valV (kvG G) (.inl m) = some (.ref a)
  | g :: G, m, a, nd, h => by
    have q := List.nodup_cons.mp nd
    rcases List.mem_cons.mp h with e | e
    · rw [← e]; exact valV_pos rfl
    · have ne : ¬ g.1 = m := fun z => q.1 (List.mem_map.mpr ⟨(m, a), e, z.symm⟩)
      have : valV (kvG (g :: G)) (.inl m) = valV (kvG G) (.inl m) := valV_neg (fun z => ne (Sum.inl.inj z))
      rw [this]
      exact vG_at G m a q.2 e
theorem nd_snd : ∀ (G : List (Int × Addr)) {x y : Int} {a : Addr}, (G.map (·.2)).Nodup → (x, a) ∈ G → (y, a) ∈ G → x = y
  | g :: G, x, y, a, nd, h1, h2 => by
    have q := List.nodup_cons.mp nd
    rcases List.mem_cons.mp h1 with e1 | e1
    · rcases List.mem_cons.mp h2 with e2 | e2
      · exact congrArg Prod.fst (e1.trans e2.symm)
      · exact absurd (List.mem_map.mpr ⟨(y, a), e2, by rw [← e1]⟩) q.1
    · rcases List.mem_cons.mp h2 with e2 | e2
      · exact absurd (List.mem_map.mpr ⟨(x, a), e1, by rw [← e2]⟩) q.1
      · exact nd_snd G q.2 e1 e2
structure GR (H H3 : Hp) (d : Addr) (ns : List Int) (G : List (Int × Addr)) (i : Nat) : Prop where
  hd : H3 d = some (.dK (kvG G))
  n1 : (G.map (·.1)).Nodup
  n2 : (G.map (·.2)).Nodup
  ls : ∀ g ∈ G, H3 g.2 = some (.lst (IL (compH ns g.1 i))) ∧ H g.2 = none
  ks : ∀ m, m ∈ G.map (·.1) ↔ ∃ j : Nat, j < i ∧ headF ns (j : Int) = m
  len : G.length ≤ i
theorem GR.mono {H H3 H4 : Hp} {d : Addr} {ns : List Int} {G : List (Int × Addr)} {i : Nat} (r : GR H H3 d ns G i) (s : Same H3 H4) : GR H H4 d ns G i :=
  ⟨s _ _ r.hd, r.n1, r.n2, fun g hg => ⟨s _ _ (r.ls g hg).1, (r.ls g hg).2⟩, r.ks, r.len⟩
/-- a person whose ring has a group already -/
theorem GR.old {H H3 : Hp} {d a : Addr} {ns : List Int} {G : List (Int × Addr)} {i : Nat} (r : GR H H3 d ns G i) (ha : (headF ns (i : Int), a) ∈ G) : GR H (upd H3 a (.lst (IL (compH ns (headF ns (i : Int)) i) ++ [.int (i : Int)]))) d ns G (i + 1) := by
  have hl := (r.ls _ ha).1
  refine ⟨by rw [upd_ne (fun z => by rw [← z, r.hd] at hl; cases hl)]; exact r.hd, r.n1, r.n2, fun g hg => ⟨?_, (r.ls g hg).2⟩, fun m => ?_, Nat.le_succ_of_le r.len⟩
  · by_cases e : g.2 = a
    · have e1 : g.1 = headF ns (i : Int) := nd_snd G r.n2 (a := a) (by rw [← e]; exact hg) ha
      rw [e, upd_same, e1, compH_succ, if_pos rfl, IL_app]
    · have e1 : ¬ headF ns (i : Int) = g.1 := fun z => by
        have v1 := vG_at G _ _ r.n1 ha
        have v2 := vG_at G g.1 g.2 r.n1 hg
        rw [← z, v1] at v2
        exact e (by have := V.ref.inj (Option.some.inj v2); exact this.symm)
      rw [upd_ne e, compH_succ, if_neg e1]
      exact (r.ls g hg).1
  · rw [r.ks m]
    constructor
    · rintro ⟨j, hj, e⟩; exact ⟨j, by omega, e⟩
    · rintro ⟨j, hj, e⟩
      by_cases z : j = i
      · subst z
        exact (r.ks m).mp (List.mem_map.mpr ⟨_, ha, e⟩)
      · exact ⟨j, by omega, e⟩
/-- a person whose ring has none yet -/
theorem GR.new {H H3 : Hp} {d l : Addr} {ns : List Int} {G : List (Int × Addr)} {i : Nat} (r : GR H H3 d ns G i) (nl : H3 l = none) (nH : H l = none) (hv : valV (kvG G) (.inl (headF ns (i : Int))) = none) :
    GR H (upd (upd (upd H3 l (.lst [])) d (.dK (putK (kvG G) (.inl (headF ns (i : Int))) (.ref l)))) l (.lst ([] ++ [.int (i : Int)]))) d ns (G ++ [(headF ns (i : Int), l)]) (i + 1) := by
  have no := vG_none G _ hv
  have dl : d ≠ l := ne_of_none r.hd nl
  have out : ∀ g ∈ G, g.2 ≠ l := fun g hg z => by have := (r.ls g hg).1; rw [z, nl] at this; cases this
  refine ⟨?_, ?_, ?_, fun g hg => ?_, fun m => ?_, by rw [List.length_append]; have := r.len; show _ + 1 ≤ _; omega⟩
  · rw [upd_ne dl, upd_same, putK_new _ hv]
    show _ = some (HO.dK (List.map _ _))
    rw [List.map_append]; rfl
  · rw [List.map_append]
    refine List.nodup_append.mpr ⟨r.n1, List.nodup_cons.mpr ⟨List.not_mem_nil, List.nodup_nil⟩, fun x hx y hy => ?_⟩
    have ey : y = headF ns (i : Int) := List.mem_singleton.mp hy
    rw [ey]
    exact fun z => no (z ▸ hx)
  · rw [List.map_append]
    refine List.nodup_append.mpr ⟨r.n2, List.nodup_cons.mpr ⟨List.not_mem_nil, List.nodup_nil⟩, fun x hx y hy => ?_⟩
    have ey : y = l := List.mem_singleton.mp hy
    obtain ⟨g, hg, e⟩ := List.mem_map.mp hx
    rw [ey, ← e]
    exact out g hg
  · rcases List.mem_append.mp hg with h | h
    · have q := (r.ls g h).1
      have e1 : ¬ headF ns (i : Int) = g.1 := fun z => no (List.mem_map.mpr ⟨g, h, z.symm⟩)
      refine ⟨?_, (r.ls g h).2⟩
      rw [upd_ne (out g h), upd_ne (fun z => by rw [z, r.hd] at q; cases q), upd_ne (out g h), compH_succ, if_neg e1]
      exact q
    · have e := List.mem_singleton.mp h
      subst e
      refine ⟨?_, nH⟩
      have e0 : compH ns (headF ns (i : Int)) i = [] := by
        cases q : compH ns (headF ns (i : Int)) i with
        | nil => rfl
        | cons z t =>
          obtain ⟨j, hj, e, _⟩ := compH_mem.mp (q ▸ List.mem_cons_self : z ∈ compH ns (headF ns (i : Int)) i)
          exact absurd ((r.ks _).mpr ⟨j, hj, e⟩) no
      rw [upd_same, compH_succ, if_pos rfl, e0]; rfl
  · rw [List.map_append, List.mem_append, r.ks m]
    constructor
    · rintro (⟨j, hj, e⟩ | h)
      · exact ⟨j, by omega, e⟩
      · exact ⟨i, by omega, (List.mem_singleton.mp h).symm⟩
    · rintro ⟨j, hj, e⟩
      by_cases z : j = i
      · subst z
        exact .inr (List.mem_singleton.mpr e.symm)
      · exact .inl ⟨j, by omega, e⟩
theorem comps_of {ns : List Int} {ms : List Int} {CS : List (List Int)} (n1 : ms.Nodup) (ks : ∀ m, m ∈ ms ↔ ∃ j : Nat, j < ns.length ∧ headF ns (j : Int) = m) (pm : CS.Perm (ms.map fun m => compH ns m ns.length)) (rk : CS.Pairwise (fun x y => HT.lexLt y x = false)) : CompsOf ns CS := by
  refine ⟨pm.nodup_iff.mpr ?_, rk, fun k => ?_⟩
  · refine List.pairwise_map.mpr (List.Pairwise.imp_of_mem (fun {a b} ha hb ne e => ?_) n1)
    obtain ⟨j, hj, ej⟩ := (ks a).mp ha
    have h1 : (j : Int) ∈ compH ns a ns.length := compH_mem.mpr ⟨j, hj, ej, rfl⟩
    have e' : compH ns a ns.length = compH ns b ns.length := e
    rw [e'] at h1
    obtain ⟨j', _, e2, e3⟩ := compH_mem.mp h1
    have : j' = j := by omega
    subst this
    exact ne (ej.symm.trans e2)
  · rw [pm.mem_iff, List.mem_map]
    constructor
    · rintro ⟨m, hm, e⟩
      obtain ⟨j, hj, ej⟩ := (ks m).mp hm
      exact ⟨j, hj, by unfold compF; rw [ej]; exact e⟩
    · rintro ⟨j, hj, e⟩
      exact ⟨_, (ks _).mpr ⟨j, hj, rfl⟩, e⟩
theorem tup_K {X : Cx} {K : PySem.W.Frag} (e : X.K = K) : CallR X (.type "tuple") (fun xs H Q => ∃ p ys, xs = [.ref p] ∧ ((SqL K H p ys ∧ ∀ l, H l = none → Q (.ref l) (upd H l (.tup ys))) ∨ (SqT K H p ys ∧ Q (.ref p) H))) := e ▸ call_tuple_of
section
variable {P : Program} {w : World} {K : PySem.W.Frag} {mg : Str → Option Value} {base : Heap}
/-! ### components -/
abbrev sComps : Stmt := topS 9
abbrev nComps : List Str := ["state", "groups", "person", "least"]
theorem scComps : FnScope nComps ["state"] (defScope sComps) := ⟨rfl, rfl, rfl, by decide +kernel, rfl, by decide +kernel, by decide +kernel⟩
def spComps : Sp := fun vs H Q _ => ∃ (a : Addr) (ns : List Int), vs = [.ref a] ∧ Sq H a (IL ns) ∧ Low ns.length ns ∧ ns.length ≤ 60 ∧
  ∀ H' r L, Same H H' → H r = none → H' r = some (.lst (RL L)) → (∀ p ∈ L, H' p.1 = some (.tup (IL p.2))) → CompsOf ns (L.map (·.2)) → Q (.ref r) H'
theorem ok_comps {f fO : Addr} {fd fdO : FuncData} {k : Nat} (F : Fun K "components" "components" sComps f fd) (B : Bi mg) (O : Cal P w K mg base "ring_of" (k + 1) ["state", "person"] spRingOf fO fdO) : FnOk P w K mg base CX0 (k + 2) f fd ["state"] spComps := by
  refine F.ok scComps (fun vs H Q E h => ?_) (fun cdv A outer s H vs Q E hr h => ?_)
  · obtain ⟨a, ns, rfl, _⟩ := h
    rfl
  · obtain ⟨a, ns, rfl, hS, lo, ln, q⟩ := h
    refine ⟨_, pss_cons (ps_set (i := 1) scComps.nd rfl (.inr rfl) pe_dnewK)
      (C8.pss_cut (ps_for PassesOwn.never rfl (pi_range1 (by rfl) B.range (pa_cons (pe_callB call_len_seq (by rfl) B.len PySem.boot_len (pa_cons (pv 0) pa_nil)) pa_nil)) (pg_name (i := 2) scComps.nd rfl (.inl rfl))
        (pss_one (ps_expr (pe_bm PySem.F.plainAttrs_list PySem.F.slot_list_append PySem.F.type_list_append mt_append (pe_dsetd (pv 1) (pe_ix ix_tup (pe_call O.ok hr (by rfl) O.g O.kp O.bd .nil pass0 (pa_cons (pv 0) (pa_cons (pv 2) pa_nil))) pe_int (fun _ _ => rfl)) (pe_lst pa_nil) ⟨rfl, rfl, rfl, rfl⟩) (pa_cons (pv 2) pa_nil)))))
      (pss_one (ps_ret (pe_callB cr_sortL (by rfl) B.sorted (by decide +kernel) (pa_cons (pe_lock (pe_lc (own := [("least", 3)]) (g := gName 3) (tt := tYes) (by rfl) scComps.nd (pi_keys (pv 1)) (blkOk_by (own := [("least", 3)]) (N := nComps) (sc := defScope sComps) (by decide +kernel))
        (fun _ _ _ _ _ => pg_name (i := 3) scComps.nd rfl (Or.inl rfl)) (fun _ _ _ _ _ => pts_nil) (fun _ _ _ _ _ => pe_callTy (tup_K (K := K) rfl) (by rfl) B.tuple (by decide +kernel) (pa_cons (pe_dget (Nat.lt_of_le_of_lt (Nat.add_le_add_left (by decide) _) hr.units) (pv 1) (pv 3) (fun _ _ => rfl)) pa_nil)))) pa_nil))))), ?_⟩
    intro d nd
    refine ⟨fun σ H3 => ∃ y2 G, σ = [some (.ref a), some (.ref d), y2, none] ∧ Same H H3 ∧ GR H H3 d ns G ns.length, ?_, ?_⟩
    · refine ⟨.ref a, rfl, a, _, rfl, (hS.mono (same_new nd)).s, _, rfl, ?_, ?_, ?_⟩
      · rw [List.length_map]; omega
      · rw [List.length_map]; omega
      rw [List.length_map]
      refine for_it (walk_range (lo := 0) (n := (ns.length : Int).toNat)) (fun i σ H3 => ∃ y2 G, σ = [some (.ref a), some (.ref d), y2, none] ∧ Same H H3 ∧ GR H H3 d ns G i) ?_ ?_ ?_ ?_
      · exact ⟨none, [], rfl, same_new nd, upd_same, List.nodup_nil, List.nodup_nil, (fun g hg => nomatch hg), (fun m => ⟨(fun h => nomatch h), (fun ⟨j, hj, _⟩ => absurd hj (Nat.not_lt_zero j))⟩), Nat.le_refl 0⟩
      · intros; trivial
      · rintro i x σ H0 H3 hi ⟨y2, G, rfl, s3, g3⟩ ⟨rfl, rfl⟩
        have hi' : i < ns.length := by omega
        refine ⟨.ref d, rfl, d, rfl, .inl ⟨_, .inl g3.hd⟩, .ref a, rfl, .int (0 + i), rfl, a, 0 + i, ns, rfl, hS.mono s3, lo, by omega, by omega, by omega, fun H4 r s4 nr hr4 ne => ?_⟩
        rw [Int.zero_add] at hr4 ne
        have g4 := g3.mono s4
        have at0 : atI (IL (ringF ns (i : Int))) 0 = some (.int (headF ns (i : Int))) := by
          refine at_of (j := 0) (by decide) (IL_get ?_)
          unfold headF
          cases q0 : ringF ns (i : Int) with
          | nil => exact absurd q0 ne
          | cons z t => rfl
        refine ⟨r, _, 0, _, rfl, rfl, SqT.of hr4, at0, Nat.zero_le _, fun l nl => ?_⟩
        have g5 := g4.mono (same_new (o := .lst []) nl)
        have s5 := (s3.trans s4).trans (same_new (o := .lst []) nl)
        have nH : H l = none := (s3.trans s4).free nl
        refine ⟨kvG G, .inl (headF ns (i : Int)), g5.hd, rfl, ?_, fun v hv => ?_, fun hv => ?_⟩
        · rw [List.length_map]; exact szl (by have := g5.len; omega)
        · obtain ⟨b, rfl, hb⟩ := vG_some G _ v hv
          have hl := g5.ls _ hb
          refine ⟨.inl ⟨rfl, _, SqL.of hl.1⟩, .int (0 + i), rfl, b, _, _, rfl, rfl, hl.1, ?_, _, G, rfl, same_mut s5 hl.2, ?_⟩
          · rw [List.length_map]; exact szl (Nat.lt_of_le_of_lt (compH_len ns (headF ns (i : Int)) i) (by omega))
          · rw [Int.zero_add]; exact g5.old hb
        · have dl : l ≠ d := Ne.symm (ne_of_none g4.hd nl)
          have hl : (upd (upd H4 l (.lst [])) d (.dK (putK (kvG G) (.inl (headF ns (i : Int))) (.ref l)))) l = some (.lst []) := by rw [upd_ne dl]; exact upd_same
          refine ⟨.inl ⟨rfl, _, SqL.of hl⟩, .int (0 + i), rfl, l, _, _, rfl, rfl, hl, szl (by decide), _, G ++ [(headF ns (i : Int), l)], rfl, same_mut (same_mut s5 nd) nH, ?_⟩
          rw [Int.zero_add]; exact g4.new nl nH hv
      · rintro σ H3 ⟨y2, G, rfl, s3, g3⟩
        exact ⟨y2, G, rfl, s3, g3⟩
    rintro σ H3 ⟨y2, G, rfl, s3, g3⟩
    refine ⟨d, _, g3.hd, trivial, fun od => ?_⟩
    refine ⟨.ref d, rfl, d, od, rfl, .inl ⟨_, upd_same, fun D nD => ?_⟩⟩
    have Dd : D ≠ d := fun z => by rw [z, upd_same] at nD; cases nD
    have nD3 : H3 D = none := by rw [upd_ne Dd] at nD; exact nD
    have gl : (kvG G).length = G.length := List.length_map _
    refine ⟨fun i m H9 => i + m = G.length ∧ ∃ L : List (Addr × List Int), H9 d = some (.frz od (.dK (kvG G))) ∧ (∀ b o, b ≠ D → b ≠ d → H3 b = some o → H9 b = some o) ∧ H9 D = some (.lst (RL L)) ∧ (∀ p ∈ L, H9 p.1 = some (.tup (IL p.2))) ∧ L.map (·.2) = (G.take i).map (fun g => compH ns g.1 ns.length), ⟨G.length, by omega, [], ?_, fun b o n1 n2 e => ?_, upd_same, (fun p hp => nomatch hp), rfl⟩, ?_⟩
    · rw [upd_ne (Ne.symm Dd)]; exact upd_same
    · rw [upd_ne n1, upd_ne n2]; exact e
    rintro i m H9 ⟨em, L, hd9, keep, hD, hL, eL⟩
    have lenL : L.length = min i G.length := by have := congrArg List.length eL; simpa using this
    by_cases hi : i < G.length
    · refine .inr ⟨⟨hd9, by rw [gl]; exact hi⟩, fun H' => ∃ L : List (Addr × List Int), H' d = some (.frz od (.dK (kvG G))) ∧ (∀ b o, b ≠ D → b ≠ d → H3 b = some o → H' b = some o) ∧ H' D = some (.lst (RL L)) ∧ (∀ p ∈ L, H' p.1 = some (.tup (IL p.2))) ∧ L.map (·.2) = (G.take (i + 1)).map (fun g => compH ns g.1 ns.length), fun H' h => ⟨m - 1, by omega, by omega, h⟩, fun x H' y => ?_⟩
      obtain ⟨rfl, kk, vv, hk, rfl⟩ := y
      have hk' : (kvG G)[i]? = some (Sum.inl (G[i]).1, V.ref (G[i]).2) := by rw [List.getElem?_map, List.getElem?_eq_getElem hi]; rfl
      rw [hk'] at hk
      cases hk
      have gm : G[i] ∈ G := List.getElem_mem hi
      have hl := (g3.ls _ gm).1
      have nlD : (G[i]).2 ≠ D := fun z => by rw [z, nD3] at hl; cases hl
      have nld : (G[i]).2 ≠ d := fun z => by rw [z, g3.hd] at hl; cases hl
      have hl9 := keep _ _ nlD nld hl
      refine ⟨rfl, yes_ok ⟨.ref d, rfl, .int (G[i]).1, rfl, d, .ref (G[i]).2, rfl, .inl ⟨_, .inl (G[i]).1, .inr ⟨od, hd9⟩, rfl, (vG_at G _ _ g3.n1 gm).symm⟩, (G[i]).2, _, rfl, .inl ⟨SqL.of hl9, fun t nt => ?_⟩⟩⟩
      have hD' := upd_keep (u := .tup (IL (compH ns (G[i]).1 ns.length))) hD nt
      have tD : t ≠ D := fun z => by rw [z, hD] at nt; cases nt
      have td : t ≠ d := fun z => by rw [z, hd9] at nt; cases nt
      refine ⟨_, hD', ?_, L ++ [(t, compH ns (G[i]).1 ns.length)], ?_, fun b o n1 n2 e => ?_, ?_, fun p hp => ?_, ?_⟩
      · rw [List.length_map]; exact szl (by have := g3.len; omega)
      · rw [upd_ne (Ne.symm Dd)]; exact upd_keep hd9 nt
      · rw [upd_ne n1]; exact upd_keep (keep b o n1 n2 e) nt
      · rw [upd_same]
        show _ = some (HO.lst (List.map _ _))
        rw [List.map_append]; rfl
      · rcases List.mem_append.mp hp with h | h
        · have z := hL p h
          rw [upd_ne (fun y => by rw [y, hD] at z; cases z)]
          exact upd_keep z nt
        · rw [List.mem_singleton.mp h, upd_ne tD]; exact upd_same
      · rw [List.map_append, eL, List.take_succ, List.getElem?_eq_getElem hi, List.map_append]; rfl
    · have ei : i = G.length := by omega
      subst ei
      rw [List.take_length] at eL
      refine .inl ⟨⟨hd9, by rw [gl]; exact Nat.le_refl _⟩, hd9, ?_⟩
      have un : ∀ {b : Addr} {o : HO}, b ≠ d → H9 b = some o → upd H9 d (.dK (kvG G)) b = some o := fun {b o} n e => by rw [upd_ne n]; exact e
      have tupd : ∀ p ∈ L, p.1 ≠ d := fun p hp z => by have := hL p hp; rw [z, hd9] at this; cases this
      refine ⟨D, L, rfl, SqL.of (un Dd hD), fun p hp => ⟨SqT.of (un (tupd p hp) (hL p hp)), fun e0 => ?_⟩, fun L' r pm rk nr => ?_⟩
      · have : p.2 ∈ L.map (·.2) := List.mem_map.mpr ⟨p, hp, rfl⟩
        rw [eL] at this
        obtain ⟨g, hg, eg⟩ := List.mem_map.mp this
        obtain ⟨j, hj, ej⟩ := (g3.ks g.1).mp (List.mem_map.mpr ⟨g, hg, rfl⟩)
        have : (j : Int) ∈ compH ns g.1 ns.length := compH_mem.mpr ⟨j, hj, ej, rfl⟩
        rw [eg, e0] at this
        exact nomatch this
      · have same : Same H (upd (upd H9 d (.dK (kvG G))) r (.lst (RL L'))) := fun b o e => by
          have bd : b ≠ d := fun z => by rw [z, nd] at e; cases e
          have e3 := s3 _ _ e
          have bD : b ≠ D := fun z => by rw [z, nD3] at e3; cases e3
          exact upd_keep (un bd (keep b o bD bd e3)) nr
        refine q _ r L' same ?_ upd_same (fun p hp => upd_keep (un (tupd p (pm.mem_iff.mp hp)) (hL p (pm.mem_iff.mp hp))) nr) (comps_of g3.n1 g3.ks ?_ (List.pairwise_map.mpr rk))
        · cases z : H r with
          | none => rfl
          | some o =>
            have bd : r ≠ d := fun y => by rw [y, nd] at z; cases z
            have e3 := s3 _ _ z
            have bD : r ≠ D := fun y => by rw [y, nD3] at e3; cases e3
            rw [un bd (keep r o bD bd e3)] at nr; cases nr
        · have := pm.map (·.2)
          rw [eL] at this
          rw [List.map_map]; exact this
end
end Lp


namespace Lp
open PySem PySem.Spec PyProof.Rows L2
/-- on a ring: met again on the own way -/
theorem on_ring {ns : List Int} {z : Int} {c : Nat} (cy : Cyc ns z c) {rs : List Int} (rt : Route ns (gt ns z) rs) : z ∈ rs := by
  have m1 : gt ns z ∈ itrs ns z c := cy.all 1
  have a := cy.at m1
  have e := rt.eq ⟨c, rfl, a.1.2.2, a.1.all c⟩
  rw [e]
  exact (a.2 z).mpr (cy.all 0)
/-- off the rings: never met again -/
theorem off_ring {ns : List Int} (lo : Low ns.length ns) {p : Int} (p0 : 0 ≤ p) (p1 : p < (ns.length : Int)) {t : Nat} (ht : t < heightF ns p) {rs : List Int} (rt : Route ns (gt ns (itr ns p t)) rs) : itr ns p t ∉ rs := by
  obtain ⟨c, cy, _, er⟩ := ringF_cyc lo p0 p1
  have nd : (itrs ns p (heightF ns p + c)).Nodup := by
    have := routeF_ok lo p0 p1
    obtain ⟨L, e, nd, _⟩ := this
    rw [er] at nd; exact nd
  intro h
  obtain ⟨L, e, _, _⟩ := rt
  rw [e] at h
  obtain ⟨i, _, ei⟩ := itrs_mem.mp h
  rw [← itr_succ, ← itr_add] at ei
  have c0 := cy.1
  by_cases z : t + (i + 1) < heightF ns p + c
  · have := itrs_apart nd z (show t < heightF ns p + c by omega) ei
    omega
  · have e1 : t + (i + 1) = heightF ns p + (t + (i + 1) - heightF ns p) := by omega
    rw [e1, itr_mod c0 (by rw [itr_add]; exact cy.2.1)] at ei
    have hm := Nat.mod_lt (t + (i + 1) - heightF ns p) c0
    have := itrs_apart nd (show heightF ns p + (t + (i + 1) - heightF ns p) % c < heightF ns p + c by omega) (show t < heightF ns p + c by omega) ei
    omega
theorem nd_subG {α : Type} [DecidableEq α] : ∀ (a b : List α), a.Nodup → (∀ x ∈ a, x ∈ b) → a.length ≤ b.length
  | [], b, _, _ => Nat.zero_le _
  | x :: a, b, nd, h => by
    have q := List.nodup_cons.mp nd
    have xb := h x List.mem_cons_self
    have := nd_subG a (b.erase x) q.2 fun y hy => (List.mem_erase_of_ne (fun e : y = x => q.1 (by rw [← e]; exact hy))).mpr (h y (List.mem_cons_of_mem _ hy))
    rw [List.length_erase_of_mem xb] at this
    have := List.length_pos_of_mem xb
    rw [List.length_cons]; omega
theorem CompsOf.len {ns : List Int} {CS : List (List Int)} (h : CompsOf ns CS) : CS.length ≤ ns.length := by
  have := nd_subG CS ((List.range ns.length).map fun j : Nat => compF ns (j : Int)) h.1 fun x hx => by
    obtain ⟨j, hj, e⟩ := (h.2.2 x).mp hx
    exact List.mem_map.mpr ⟨j, List.mem_range.mpr hj, e⟩
  rw [List.length_map, List.length_range] at this
  exact this
/-- together they hold everybody once -/
theorem CompsOf.sum {ns : List Int} {CS : List (List Int)} (h : CompsOf ns CS) : (CS.map List.length).sum = ns.length := by
  rw [← List.length_flatten]
  have nd : CS.flatten.Nodup := by
    refine List.pairwise_flatten.mpr ⟨fun l hl => ?_, List.Pairwise.imp_of_mem (fun {a b} ha hb ne x hx y hy e => ?_) h.1⟩
    · obtain ⟨j, _, e⟩ := (h.2.2 l).mp hl
      rw [← e]
      refine List.pairwise_map.mpr (List.Pairwise.imp (fun {a b} ne e => ne (Int.ofNat.inj e)) (List.Pairwise.filter _ List.nodup_range))
    · subst e
      obtain ⟨i, _, ei⟩ := (h.2.2 a).mp ha
      obtain ⟨j, _, ej⟩ := (h.2.2 b).mp hb
      rw [← ei] at hx
      rw [← ej] at hy
      obtain ⟨u, _, h1, e1⟩ := compH_mem.mp hx
      obtain ⟨v, _, h2, e2⟩ := compH_mem.mp hy
      have : u = v := by omega
      subst this
      refine ne ?_
      rw [← ei, ← ej]
      unfold compF
      rw [← h1, h2]
  refine Nat.le_antisymm (low_len _ _ nd fun z hz => ?_) ?_
  · obtain ⟨l, hl, hz⟩ := List.mem_flatten.mp hz
    obtain ⟨j, _, e⟩ := (h.2.2 l).mp hl
    rw [← e] at hz
    obtain ⟨u, hu, _, eu⟩ := compH_mem.mp hz
    omega
  · have := nd_subG ((List.range ns.length).map Int.ofNat) CS.flatten (List.pairwise_map.mpr (List.Pairwise.imp (fun {a b} ne e => ne (Int.ofNat.inj e)) List.nodup_range)) fun x hx => by
      obtain ⟨j, hj, e⟩ := List.mem_map.mp hx
      have hj' := List.mem_range.mp hj
      refine List.mem_flatten.mpr ⟨compF ns (j : Int), (h.2.2 _).mpr ⟨j, hj', rfl⟩, ?_⟩
      exact compH_mem.mpr ⟨j, hj', rfl, e.symm⟩
    rw [List.length_map, List.length_range] at this
    exact this
theorem compF_step {ns : List Int} (lo : Low ns.length ns) {p z : Int} (h : z ∈ compF ns p) : 0 ≤ z ∧ z < (ns.length : Int) ∧ gt ns z ∈ compF ns p := by
  obtain ⟨j, hj, e, rfl⟩ := compH_mem.mp h
  have g := gt_low lo (i := (j : Int)) (by omega) (by omega)
  refine ⟨by omega, by omega, compH_mem.mpr ⟨(gt ns (j : Int)).toNat, by omega, ?_, by omega⟩⟩
  have e2 : (((gt ns (j : Int)).toNat : Nat) : Int) = gt ns (j : Int) := by omega
  rw [e2, ← e]
  unfold headF
  rw [ringF_step lo (by omega) (by omega)]
section
variable {P : Program} {w : World} {K : PySem.W.Frag} {mg : Str → Option Value} {base : Heap}
/-! ### _law_high -/
abbrev sHigh : Stmt := topS 22
theorem scHigh : FnScope ["_law_here", "_law_who", "_law_found"] ["_law_here", "_law_who"] (defScope sHigh) := ⟨rfl, rfl, rfl, by decide +kernel, rfl, by decide +kernel, by decide +kernel⟩
def spHigh : Sp := fun vs H Q _ => ∃ (a : Addr) (p : Int) (ns : List Int), vs = [.ref a, .int p] ∧ H a = some (.tup (IL ns)) ∧ Low ns.length ns ∧ ns.length ≤ 1000 ∧ 0 ≤ p ∧ p < (ns.length : Int) ∧
  ∀ H', Same H H' → Q (.int (heightF ns p)) H'
theorem ok_high {f fM : Addr} {fd fdM : FuncData} {k : Nat} (F : Fun K "_law_high" "_law_high" sHigh f fd) (M : Cal P w K mg base "_law_met" (k + 1) ["_law_here", "_law_who"] spMet fM fdM) : FnOk P w K mg base CX0 (k + 2) f fd ["_law_here", "_law_who"] spHigh := by
  refine F.ok scHigh (fun vs H Q E h => ?_) (fun cdv A outer s H vs Q E hr h => ?_)
  · obtain ⟨a, p, ns, rfl, _⟩ := h
    rfl
  · obtain ⟨a, p, ns, rfl, hS, lo, ln, p0, p1, q⟩ := h
    refine ⟨_, pss_cons (ps_set (i := 2) scHigh.nd rfl (.inl rfl) pe_int)
      (pss_cons (ps_while PassesOwn.never (pt_cmpR op_notIn_seq (pv 1) (pe_call M.ok hr (by rfl) M.g M.kp M.bd .nil pass0 (pa_cons (pv 0) (pa_cons (pv 1) pa_nil))) (by rfl))
        (pss_one (ps_par (i := 1) (j := 2) (by rfl) scHigh.nd rfl rfl (by decide) rfl rfl (pa_cons (pe_ix ix_tup (pv 0) (pv 1) (fun _ _ => rfl)) (pa_cons (pe_op op_add (pv 2) pe_int) pa_nil)) (by rfl))))
      (pss_one (ps_ret (pv 2)))), ?_⟩
    refine ⟨fun m σ H3 => ∃ t : Nat, σ = [some (.ref a), some (.int (itr ns p t)), some (.int (t : Int))] ∧ Same H H3 ∧ m + t = heightF ns p, ⟨heightF ns p, 0, rfl, Same.refl _, rfl⟩, ?_⟩
    rintro m σ H3 ⟨t, rfl, sm, em⟩
    have il := itr_low lo p0 p1 t
    have hS3 := sm _ _ hS
    refine ⟨.int (itr ns p t), rfl, .ref a, rfl, .int (itr ns p t), rfl, a, _, ns, rfl, hS3, lo, ln, il.1, il.2, fun H4 r rs s4 nr hr4 rt rl => ⟨r, _, rfl, .inl (SqL.of hr4), rfl, flat_ints _, _, rfl, ?_⟩⟩
    rw [if_pos rfl, inV_ints]
    by_cases ht : t < heightF ns p
    · rw [decide_eq_false (off_ring lo p0 p1 ht rt)]
      refine iteT ?_
      refine ⟨fun σ' H' => ∃ m', m' < m ∧ ∃ t : Nat, σ' = [some (.ref a), some (.int (itr ns p t)), some (.int (t : Int))] ∧ Same H H' ∧ m' + t = heightF ns p, fun σ' H' h => h, ?_⟩
      refine ⟨.ref a, rfl, .int (itr ns p t), rfl, a, _, _, _, rfl, rfl, SqT.of (s4 _ _ hS3), gt_at il.1 il.2, .int t, rfl, t, 1, rfl, rfl, _, _, rfl, m - 1, by omega, t + 1, ?_, sm.trans s4, by omega⟩
      rfl
    · have et : t = heightF ns p := by omega
      subst et
      obtain ⟨c, cy, _, _⟩ := ringF_cyc lo p0 p1
      rw [decide_eq_true (on_ring cy rt)]
      exact iteF ⟨.int _, rfl, q _ (sm.trans s4)⟩
end
end Lp


namespace Lp
open PySem PySem.Spec PyProof.Rows L2
theorem piL_K {X : Cx} {K : PySem.W.Frag} {tg l : Expr} {tl : TE} (e : X.K = K) (hl : PE X l tl) : PI X tg l (iList K tl) := e ▸ pi_list hl
theorem piT_K {X : Cx} {K : PySem.W.Frag} {tg l : Expr} {tl : TE} (e : X.K = K) (hl : PE X l tl) : PI X tg l (iTup K tl) := e ▸ pi_tup hl
theorem in_K {X : Cx} {K : PySem.W.Frag} (e : X.K = K) : OpR X (compareOp .In) (rIn K false) := e ▸ op_in_seq
theorem Box.mono {H H' : Hp} {b : Addr} {c : Nat} (h : Box H b c) (s : Same H H') : Box H' b c := by
  obtain ⟨x0, x1, x2, e, rr⟩ := h
  exact ⟨x0, x1, x2, s _ _ e, rr⟩
/-- lists of the same int tuples -/
theorem Eqd.laps {H : Hp} {n : Nat} {p q : Addr} {L M : List (Addr × List Int)} (h1 : H p = some (.lst (RL L))) (h2 : H q = some (.lst (RL M))) (t1 : ∀ x ∈ L, H x.1 = some (.tup (IL x.2))) (t2 : ∀ x ∈ M, H x.1 = some (.tup (IL x.2))) (e : L.map (·.2) = M.map (·.2)) (hl : L.length ≤ 10000) (hm : ∀ x ∈ L, x.2.length ≤ 10000) : Eqd H (n + 2) (.ref p) (.ref q) := by
  have el : L.length = M.length := by have := congrArg List.length e; simpa using this
  refine Eqd.lst h1 h2 (by rw [List.length_map, List.length_map, el]) (by rw [List.length_map]; exact hl) fun i u v hu hv => ?_
  rw [List.getElem?_map] at hu hv
  cases q1 : L[i]? with
  | none => rw [q1] at hu; cases hu
  | some x =>
    cases q2 : M[i]? with
    | none => rw [q2] at hv; cases hv
    | some y =>
      rw [q1] at hu; rw [q2] at hv
      cases hu; cases hv
      have e2 : x.2 = y.2 := by
        have := congrArg (fun l => l[i]?) e
        simp only [List.getElem?_map, q1, q2, Option.map_some, Option.some.injEq] at this
        exact this
      have hx := t1 x (List.mem_of_getElem? q1)
      have hy := t2 y (List.mem_of_getElem? q2)
      rw [← e2] at hy
      exact Eqd.tupI hx hy (hm x (List.mem_of_getElem? q1))
/-- what stands through a turn -/
structure R2' (G H : Hp) (b h dA : Addr) (ns : List Int) (L : List (Addr × List Int)) (c : Nat) : Prop where
  sb : Sb b G H
  box : Box H b c
  hh : H h = some (.tup (IL ns))
  hd : H dA = some (.lst (RL L))
  hT : ∀ p ∈ L, H p.1 = some (.tup (IL p.2))
theorem R2'.mono {G H H' : Hp} {b h dA : Addr} {ns : List Int} {L : List (Addr × List Int)} {c : Nat} (r : R2' G H b h dA ns L c) (s : Same H H') : R2' G H' b h dA ns L c :=
  ⟨r.sb.trans (Same.sb s), r.box.mono s, s _ _ r.hh, s _ _ r.hd, fun p hp => s _ _ (r.hT p hp)⟩
theorem R2'.put {G H : Hp} {b h dA p : Addr} {ns : List Int} {L : List (Addr × List Int)} {c : Nat} {o : HO} {xs : List V} (r : R2' G H b h dA ns L c) (n : G p = none) (hp : H p = some (.lst xs)) (n1 : b ≠ p) (n2 : dA ≠ p) : R2' G (upd H p o) b h dA ns L c := by
  have tup : ∀ {z : Addr} {ys : List V}, H z = some (.tup ys) → upd H p o z = some (.tup ys) := fun {z ys} e => by
    rw [upd_ne (fun q => by rw [q, hp] at e; cases e)]; exact e
  exact ⟨r.sb.mut n, r.box.put n1, tup r.hh, by rw [upd_ne n2]; exact r.hd, fun x hx => tup (r.hT x hx)⟩

theorem rgI_get {n j : Nat} (h : j < n) : (rgI 0 n)[j]? = some (j : Int) := by
  unfold rgI
  have e : ((n : Int) - 0).toNat = n := by omega
  rw [e, List.getElem?_map, List.getElem?_range h]
  show some ((0 : Int) + (j : Int)) = some (j : Int)
  rw [Int.zero_add]
theorem rgI_len0 (n : Nat) : (rgI 0 n).length = n := by rw [rgI_len]; omega
/-- the people below i whose ring is k -/
def compR (ns k : List Int) (i : Nat) : List Int := ((List.range i).filter fun j : Nat => decide (ringF ns (j : Int) = k)).map Int.ofNat
theorem compR_succ (ns k : List Int) (i : Nat) : compR ns k (i + 1) = if ringF ns (i : Int) = k then compR ns k i ++ [(i : Int)] else compR ns k i := by
  unfold compR
  rw [List.range_succ, List.filter_append, List.map_append]
  by_cases h : ringF ns (i : Int) = k
  · rw [if_pos h, List.filter_cons_of_pos (p := fun j : Nat => decide (ringF ns (j : Int) = k)) (decide_eq_true h)]; rfl
  · rw [if_neg h, List.filter_cons_of_neg (p := fun j : Nat => decide (ringF ns (j : Int) = k)) (by rw [decide_eq_false h]; exact Bool.false_ne_true)]
    show _ ++ [] = _
    rw [List.append_nil]
theorem compR_len (ns k : List Int) (i : Nat) : (compR ns k i).length ≤ i := by
  unfold compR
  rw [List.length_map]
  have := List.length_filter_le (fun j : Nat => decide (ringF ns (j : Int) = k)) (List.range i)
  rw [List.length_range] at this
  exact this
theorem compR_eq {ns : List Int} (lo : Low ns.length ns) {i : Nat} (hi : i < ns.length) : compR ns (ringF ns (i : Int)) ns.length = compF ns (i : Int) := by
  unfold compR compF compH
  congr 1
  refine List.filter_congr fun j hj => ?_
  have hj' := List.mem_range.mp hj
  have := head_iff lo (p := (j : Int)) (q := (i : Int)) (by omega) (by omega) (by omega) (by omega)
  by_cases z : ringF ns (j : Int) = ringF ns (i : Int)
  · rw [decide_eq_true z, decide_eq_true (this.mpr z)]
  · rw [decide_eq_false z, decide_eq_false (fun y => z (this.mp y))]
theorem compF_self {ns : List Int} {i : Nat} (hi : i < ns.length) : (i : Int) ∈ compF ns (i : Int) := compH_mem.mpr ⟨i, hi, rfl, rfl⟩
theorem comps_ofR {ns : List Int} (lo : Low ns.length ns) {RR CS : List (List Int)} (n1 : RR.Nodup) (ks : ∀ k, k ∈ RR ↔ ∃ j : Nat, j < ns.length ∧ ringF ns (j : Int) = k) (pm : CS.Perm (RR.map fun k => compR ns k ns.length)) (rk : CS.Pairwise (fun x y => HT.lexLt y x = false)) : CompsOf ns CS := by
  refine ⟨pm.nodup_iff.mpr ?_, rk, fun k => ?_⟩
  · refine List.pairwise_map.mpr (List.Pairwise.imp_of_mem (fun {a b} ha hb ne e => ?_) n1)
    obtain ⟨i, hi, ei⟩ := (ks a).mp ha
    obtain ⟨j, hj, ej⟩ := (ks b).mp hb
    have e' : compR ns a ns.length = compR ns b ns.length := e
    rw [← ei, ← ej, compR_eq lo hi, compR_eq lo hj] at e'
    have h1 := compF_self hi
    rw [e'] at h1
    obtain ⟨u, hu, h2, h3⟩ := compH_mem.mp h1
    have : u = i := by omega
    subst this
    exact ne (by rw [← ei, ← ej]; exact (head_iff lo (by omega) (by omega) (by omega) (by omega)).mp h2)
  · rw [pm.mem_iff, List.mem_map]
    constructor
    · rintro ⟨r, hr, e⟩
      obtain ⟨j, hj, ej⟩ := (ks r).mp hr
      exact ⟨j, hj, by rw [← e, ← ej, compR_eq lo hj]⟩
    · rintro ⟨j, hj, e⟩
      exact ⟨_, (ks _).mpr ⟨j, hj, rfl⟩, by rw [compR_eq lo hj]; exact e⟩
theorem sum_cast : ∀ L : List (List Int), (L.map fun l => ((l.length : Nat) : Int)).sum = ((L.map List.length).sum : Nat)
  | [] => rfl
  | l :: L => by
    rw [List.map_cons, List.map_cons, List.sum_cons, List.sum_cons, sum_cast L]
    exact (Int.natCast_add _ _).symm
structure R3 (H0 H : Hp) (b h cA lA : Addr) (ns : List Int) (LL : List (Addr × List Int)) (c : Nat) : Prop where
  sb : Sb b H0 H
  box : Box H b c
  hh : H h = some (.tup (IL ns))
  hc : H cA = some (.lst (IL (rgI 0 ns.length)))
  hl : H lA = some (.lst (RL LL))
  hT : ∀ p ∈ LL, H p.1 = some (.tup (IL p.2)) ∧ p.2 ≠ []
theorem R3.mono {H0 H H' : Hp} {b h cA lA : Addr} {ns : List Int} {LL : List (Addr × List Int)} {c : Nat} (r : R3 H0 H b h cA lA ns LL c) (s : Same H H') : R3 H0 H' b h cA lA ns LL c :=
  ⟨r.sb.trans (Same.sb s), r.box.mono s, s _ _ r.hh, s _ _ r.hc, s _ _ r.hl, fun p hp => ⟨s _ _ (r.hT p hp).1, (r.hT p hp).2⟩⟩
section
variable {P : Program} {w : World} {K : PySem.W.Frag} {mg : Str → Option Value} {base : Heap}
abbrev sRight : Stmt := topS 23
abbrev nRight : List Str := ["_law_box_here", "_law_here", "_law_crowd", "_law_laps", "_law_who", "_law_due", "_law_heard", "_law_some", "_law_lap"]
theorem scRight : FnScope nRight ["_law_box_here"] (defScope sRight) := ⟨rfl, rfl, rfl, by decide +kernel, rfl, by decide +kernel, by decide +kernel⟩
abbrev dueScope : Scope := { kind := .function, names := [(".0", .local), ("_law_lap", .cell), ("tuple", .globalImplicit), ("_law_crowd", .cell), ("_law_laps", .cell)], isGenerator := false, isCoroutine := false }
def spRight : Sp := fun vs H Q _ => ∃ (b : Addr) (c : Nat), vs = [.ref b] ∧ Box H b c ∧ c + 100000 ≤ 1000000000 ∧ ∀ H', Sb b H H' → Box H' b (c + 100000) → Q (.bl true) H'
theorem ok_right {f fD fG fE fI fL fC : Addr} {fd fdD fdG fdE fdI fdL fdC : FuncData} (F : Fun K "_law_right" "_law_right" sRight f fd) (B : Bi mg)
    (D : Cal P w K mg base "_law_drawn" 9 ["_law_box_here", "_law_most"] spDrawn fD fdD) (G : Cal P w K mg base "height" 9 ["state", "person"] spHeight fG fdG) (kG : KbR fdG ["state", "person"])
    (M : Cal P w K mg base "_law_same" 9 psSame (spSame 3) fE fdE) (I : Cal P w K mg base "_law_high" 9 ["_law_here", "_law_who"] spHigh fI fdI) (L : Cal P w K mg base "_law_ring" 9 ["_law_here", "_law_who"] spRingL fL fdL)
    (C : Cal P w K mg base "components" 9 ["state"] spComps fC fdC) (kC : KbR fdC ["state"]) : FnOk P w K mg base CX0 10 f fd ["_law_box_here"] spRight := by
  refine F.ok scRight (fun vs H Q E h => ?_) (fun cdv A outer s H vs Q E hr h => ?_)
  · obtain ⟨b, c, rfl, _⟩ := h
    rfl
  · obtain ⟨b, c, rfl, hB, hc, q⟩ := h
    refine ⟨_, pss_cons (ps_set (i := 1) scRight.nd rfl (.inr rfl) (pe_call D.ok hr (by rfl) D.g D.kp D.bd .nil pass0 (pa_cons (pv 0) (pa_cons pe_int pa_nil))))
      (C8.pss_cut (ps_asg (pe_tup (pa_cons (pe_listRg (by rfl) (by rfl) B.list (prg_1 (by rfl) B.range (pe_callB call_len_seq (by rfl) B.len PySem.boot_len (pa_cons (pv 1) pa_nil)))) (pa_cons (pe_lst pa_nil) pa_nil))) (pg_tup rfl (pgs_cons (pg_name (i := 2) scRight.nd rfl (.inr rfl)) (pgs_cons (pg_name (i := 3) scRight.nd rfl (.inr rfl)) pgs_nil))))
      (C8.pss_cut (ps_for PassesOwn.never rfl (pi_list (pv 2)) (pg_name (i := 4) scRight.nd rfl (.inl rfl))
        (pss_cons (ps_if (pt_not (pt_val (pe_call M.ok hr (by rfl) M.g M.kp M.bd .nil pass0 (pa_cons (pe_lst (pa_cons (pe_call G.ok hr (by rfl) G.g G.kp G.bd .nil pass0 (pa_cons (pv 1) (pa_cons (pv 4) pa_nil))) (pa_cons (pe_callR G.ok hr (by rfl) G.g G.kp kG pass0 (pk_cons (pv 4) (pk_cons (pe_callTy call_list_of (by rfl) B.list (by decide +kernel) (pa_cons (pv 1) pa_nil)) pk_nil))) pa_nil)))
            (pa_cons (pe_op op_rep (pe_lst (pa_cons (pe_call I.ok hr (by rfl) I.g I.kp I.bd .nil pass0 (pa_cons (pv 1) (pa_cons (pv 4) pa_nil))) pa_nil)) pe_int) pa_nil))))) pss_never pss_nil)
        (pss_one (ps_expr (pe_bm PySem.F.plainAttrs_list PySem.F.slot_list_append PySem.F.type_list_append mt_append (pv 3) (pa_cons (pe_call L.ok hr (by rfl) L.g L.kp L.bd .nil pass0 (pa_cons (pv 1) (pa_cons (pv 4) pa_nil))) pa_nil))))))
      (C8.pss_cut (ps_set (i := 5) scRight.nd rfl (.inl rfl) (pe_callB cr_sortL (by rfl) B.sorted (by decide +kernel) (pa_cons (pe_lc (own := [("_law_lap", 8)]) (g := gName 8) (tt := tYes) (by rfl) scRight.nd
          (pi_list (pe_callB (cr_sortS rfl) (by rfl) B.sorted (by decide +kernel) (pa_cons (pe_callTy (cr_setOfT rfl hr.units) (by rfl) B.set (by decide +kernel) (pa_cons (pv 3) pa_nil)) pa_nil)))
          (blkOk_by (own := [("_law_lap", 8)]) (N := nRight) (sc := defScope sRight) (by decide +kernel))
          (fun _ _ _ _ _ => pg_name (i := 8) scRight.nd rfl (Or.inr rfl)) (fun _ _ _ _ _ => pts_nil)
          (fun _ _ _ _ _ => pe_callTy (tup_K (K := K) rfl) (by rfl) B.tuple (by decide +kernel) (pa_cons (pe_lc (own := [("_law_who", 4)]) (g := gName 4) (by rfl) scRight.nd (piL_K (K := K) rfl (pv 2)) (blkOk_by (own := [("_law_who", 4)]) (N := nRight) (sc := dueScope) (by decide +kernel))
            (fun _ _ _ _ _ => pg_name (i := 4) scRight.nd rfl (Or.inl rfl)) (fun _ _ _ _ _ => pts_one (pt_cmpR (eqD_K (K := K) rfl hr.units) (pe_ix (ixl_K (K := K) rfl) (pv 3) (pv 4) (fun _ _ => rfl)) (pv 8) (nomark _))) (fun _ _ _ _ _ => pv 4)) pa_nil))) pa_nil)))
      (C8.pss_cut (ps_set (i := 6) scRight.nd rfl (.inl rfl) (pe_lst (pa_cons (pe_call C.ok hr (by rfl) C.g C.kp C.bd .nil pass0 (pa_cons (pv 1) pa_nil)) (pa_cons (pe_callR C.ok hr (by rfl) C.g C.kp kC pass0 (pk_cons (pe_callTy call_list_of (by rfl) B.list (by decide +kernel) (pa_cons (pv 1) pa_nil)) pk_nil)) pa_nil))))
      (C8.pss_cut (ps_if (pt_not (pt_val (pe_call M.ok hr (by rfl) M.g M.kp M.bd .nil pass0 (pa_cons (pv 6) (pa_cons (pe_lst (pa_cons (pv 5) (pa_cons (pv 5) pa_nil))) pa_nil))))) pss_never pss_nil)
      (pss_cons (ps_expr (pe_bm PySem.F.plainAttrs_list PySem.F.slot_list_append PySem.F.type_list_append mt_append (pe_ix ix_list (pv 6) pe_int (fun _ _ => rfl)) (pa_cons pe_str pa_nil)))
      (pss_cons (ps_expr (pe_bm0 PySem.F.plainAttrs_list PySem.F.slot_list_reverse PySem.F.type_list_reverse mt_reverse (pe_ix ix_list (pv 6) pe_int (fun _ _ => rfl))))
      (C8.pss_cut (ps_if (PW.pt (pw_or (pt_not (pt_val (pe_call M.ok hr (by rfl) M.g M.kp M.bd .nil pass0 (pa_cons (pe_call C.ok hr (by rfl) C.g C.kp C.bd .nil pass0 (pa_cons (pv 1) pa_nil)) (pa_cons (pv 5) pa_nil)))))
          (pw_or1 (pt_cmpR op_ne (pe_callB (cr_sum rfl) (by rfl) B.sum (by decide +kernel) (pa_cons (pe_lc (own := [("_law_some", 7)]) (g := gName 7) (tt := tYes) (by rfl) scRight.nd (pi_list (pv 5)) (blkOk_by (own := [("_law_some", 7)]) (N := nRight) (sc := defScope sRight) (by decide +kernel))
            (fun _ _ _ _ _ => pg_name (i := 7) scRight.nd rfl (Or.inl rfl)) (fun _ _ _ _ _ => pts_nil) (fun _ _ _ _ _ => pe_callB (len_K (K := K) rfl) (by rfl) B.len PySem.boot_len (pa_cons (pv 7) pa_nil))) pa_nil))
            (pe_callB call_len_seq (by rfl) B.len PySem.boot_len (pa_cons (pv 1) pa_nil)) (nomark _))))) pss_never pss_nil)
      (C8.pss_cut (ps_for PassesOwn.never rfl (pi_list (pv 5)) (pg_name (i := 7) scRight.nd rfl (.inr rfl))
        (pss_one (ps_if (pt_not (pt_val (pe_callB (cr_all rfl) (by rfl) B.all (by decide +kernel) (pa_cons (pe_lc (own := [("_law_who", 4)]) (g := gName 4) (tt := tYes) (by rfl) scRight.nd (pi_tup (pv 7)) (blkOk_by (own := [("_law_who", 4)]) (N := nRight) (sc := defScope sRight) (by decide +kernel))
            (fun _ _ _ _ _ => pg_name (i := 4) scRight.nd rfl (Or.inl rfl)) (fun _ _ _ _ _ => pts_nil) (fun _ _ _ _ _ => pe_cmpR (in_K (K := K) rfl) (pe_ix (ixt_K (K := K) rfl) (pv 1) (pv 4) (fun _ _ => rfl)) (pv 7) (by rfl))) pa_nil)))) pss_never pss_nil)))
      (pss_one (ps_ret pe_bl))))))))))), ?_⟩
    -- here
    refine ⟨.ref b, rfl, b, 30, c, rfl, by omega, by omega, hB, by omega, fun H1 h ns sb1 nh hh l1 l2 lo hB1 => ?_⟩
    have hb : h ≠ b := Ne.symm (hB.ne nh)
    -- crowd, laps
    refine ⟨fun σ H2 => ∃ cA lA, σ = [some (.ref b), some (.ref h), some (.ref cA), some (.ref lA), none, none, none, none, none] ∧ R3 H H2 b h cA lA ns [] (c + 10000) ∧ H lA = none ∧ cA ≠ lA, ?_, ?_⟩
    · refine ⟨.ref h, rfl, h, _, rfl, .inr (SqT.of hh), _, rfl, RgOk.of_le (by decide) (by rw [List.length_map]; omega) (by decide) (by omega), fun cA nc => ?_⟩
      have sc := same_new (o := .lst (rgV 0 ((IL ns).length : Nat))) nc
      refine ⟨Nat.zero_le _, fun lA nl => ?_⟩
      have sl := same_new (o := .lst []) nl
      refine ⟨(by show 2 ≤ sizeLine; decide), fun p np => ?_⟩
      have sp := same_new (o := .tup [V.ref cA, V.ref lA]) np
      refine ⟨p, _, rfl, SqT.of upd_same, rfl, _, _, rfl, _, _, rfl, rfl, ?_⟩
      have s1p := (sc.trans sl).trans sp
      refine ⟨cA, lA, rfl, ⟨sb1.trans (Same.sb s1p), hB1.mono s1p, s1p _ _ hh, ?_, sp _ _ upd_same, fun p hp => nomatch hp⟩, ?_, ?_⟩
      · refine sp _ _ (sl _ _ ?_)
        rw [upd_same, List.length_map, rgV_eq]
      · exact (sb1.trans (Same.sb sc)).free (hB1.mono sc) nl
      · exact ne_of_none (upd_same (o := .lst (rgV 0 ((IL ns).length : Nat)))) nl
    rintro σ H2 ⟨cA, lA, rfl, R0, nlA, cl⟩
    have bl : b ≠ lA := hB.ne nlA
    -- for who in crowd
    refine ⟨fun σ H3 => ∃ y4 LL, σ = [some (.ref b), some (.ref h), some (.ref cA), some (.ref lA), y4, none, none, none, none] ∧ R3 H H3 b h cA lA ns LL (c + 10000) ∧ LL.map (·.2) = (List.range ns.length).map (fun j : Nat => ringF ns (j : Int)), ?_, ?_⟩
    · refine ⟨.ref cA, rfl, cA, rfl, ⟨_, SqL.of R0.hc⟩, ?_⟩
      refine for_list (K := K) (a := cA) (xs := IL (rgI 0 ns.length)) (fun j σ H3 => ∃ y4 LL, σ = [some (.ref b), some (.ref h), some (.ref cA), some (.ref lA), y4, none, none, none, none] ∧ R3 H H3 b h cA lA ns LL (c + 10000) ∧ LL.map (·.2) = (List.range j).map (fun j : Nat => ringF ns (j : Int))) ⟨_, [], rfl, R0, rfl⟩ ?_ ?_ ?_
      · rintro j σ H3 _ ⟨_, _, rfl, R3', _⟩; exact SqL.of R3'.hc
      · rintro j x σ H3 hx ⟨y4, LL, rfl, R3', em⟩
        have hj : j < ns.length := by
          have := (List.getElem?_eq_some_iff.mp hx).1
          rw [List.length_map, rgI_len0] at this; exact this
        have ex : x = .int (j : Int) := by
          rw [IL_get (rgI_get hj)] at hx
          exact (Option.some.inj hx).symm
        subst ex
        refine ⟨.ref h, rfl, .int j, rfl, h, j, ns, rfl, .inr R3'.hh, lo, by omega, by omega, by omega, fun H4 s4 => ?_⟩
        refine ⟨.int j, rfl, .ref h, rfl, h, _, rfl, .inr (SqT.of (s4 _ _ R3'.hh)), fun v nv => ?_⟩
        have sv := same_new (o := .lst (IL ns)) nv
        refine ⟨v, j, ns, rfl, .inl upd_same, lo, by omega, by omega, by omega, fun H5 s5 => ?_⟩
        refine ⟨(by show 2 ≤ sizeLine; decide), fun u nu => ?_⟩
        have su := same_new (o := .lst [V.int (heightF ns j), V.int (heightF ns j)]) nu
        have s35 := ((s4.trans sv).trans s5).trans su
        refine ⟨.ref h, rfl, .int j, rfl, h, j, ns, rfl, s35 _ _ R3'.hh, lo, by omega, by omega, by omega, fun H6 s6 => ?_⟩
        refine ⟨(by show 1 ≤ sizeLine; decide), fun p np => ⟨p, 2, _, rfl, rfl, upd_same, by decide, by decide, (by show 1 * 2 ≤ sizeLine; decide), fun p2 np2 => ?_⟩⟩
        have s6p := (s6.trans (same_new (o := .lst [V.int (heightF ns j)]) np)).trans (same_new (o := .lst (List.replicate (2 : Int).toNat [V.int (heightF ns j)]).flatten) np2)
        refine ⟨_, _, rfl, Eqd.pair (s6p _ _ upd_same) (y1 := V.int (heightF ns j)) (y2 := V.int (heightF ns j)) upd_same (Eqd.int _ _ _) (Eqd.int _ _ _), fun H7 s7 => ⟨true, rfl, iteF ?_⟩⟩
        have R7 := R3'.mono ((s35.trans s6p).trans s7)
        refine ⟨.ref lA, rfl, .inl ⟨rfl, _, SqL.of R7.hl⟩, .ref h, rfl, .int j, rfl, h, j, ns, rfl, R7.hh, lo, by omega, by omega, by omega, fun H8 r s8 nr hr8 ne => ?_⟩
        have R8 := R7.mono s8
        have rl : r ≠ lA := Ne.symm (ne_of_none R7.hl nr)
        have len : LL.length = j := by have := congrArg List.length em; simpa using this
        refine ⟨lA, _, _, rfl, rfl, R8.hl, ?_, _, LL ++ [(r, ringF ns j)], rfl, ⟨R8.sb.mut nlA, R8.box.put bl, ?_, ?_, ?_, fun p hp => ?_⟩, ?_⟩
        · rw [List.length_map, len]; exact szl (by omega)
        · rw [upd_ne (fun z => by have := R8.hl; rw [← z, R8.hh] at this; cases this)]; exact R8.hh
        · rw [upd_ne cl]; exact R8.hc
        · rw [upd_same]
          show _ = some (HO.lst (List.map _ _))
          rw [List.map_append]; rfl
        · rcases List.mem_append.mp hp with h | h
          · have t := (R8.hT p h).1
            exact ⟨by rw [upd_ne (fun z => by rw [z, R8.hl] at t; cases t)]; exact t, (R8.hT p h).2⟩
          · rw [List.mem_singleton.mp h]
            exact ⟨by rw [upd_ne rl]; exact hr8, ne⟩
        · rw [List.map_append, em, List.range_succ, List.map_append]; rfl
      · rintro σ H3 ⟨y4, LL, rfl, R3', em⟩
        rw [List.length_map, rgI_len0] at em
        exact ⟨y4, LL, rfl, R3', em⟩
    rintro σ H3 ⟨y4, LL, rfl, R3', em⟩
    have lenL : LL.length = ns.length := by have := congrArg List.length em; simpa using this
    -- due
    refine ⟨fun σ H4 => ∃ dA DL, σ = [some (.ref b), some (.ref h), some (.ref cA), some (.ref lA), y4, some (.ref dA), none, none, none] ∧ R2' H H4 b h dA ns DL (c + 10000) ∧ CompsOf ns (DL.map (·.2)), ?_, ?_⟩
    · refine ⟨.ref lA, rfl, lA, LL, rfl, SqL.of R3'.hl, fun p hp => SqT.of (R3'.hT p hp).1, by omega, fun S L1 nS sub all => ?_⟩
      refine ⟨S, L1, rfl, upd_same, fun p hp => ⟨SqT.of (upd_keep (R3'.hT p (sub p hp)).1 nS), (R3'.hT p (sub p hp)).2⟩, fun L' r pm rk nd nr => ?_⟩
      have mem : ∀ k, k ∈ L'.map (·.2) ↔ ∃ j : Nat, j < ns.length ∧ ringF ns (j : Int) = k := fun k => by
        rw [(pm.map (·.2)).mem_iff]
        have e1 : k ∈ L1.map (·.2) ↔ k ∈ LL.map (·.2) := by
          constructor
          · intro h
            obtain ⟨p, hp, e⟩ := List.mem_map.mp h
            exact List.mem_map.mpr ⟨p, sub p hp, e⟩
          · intro h
            obtain ⟨p, hp, e⟩ := List.mem_map.mp h
            rw [← e]; exact all p hp
        rw [e1, em, List.mem_map]
        constructor
        · rintro ⟨j, hj, e⟩; exact ⟨j, List.mem_range.mp hj, e⟩
        · rintro ⟨j, hj, e⟩; exact ⟨j, List.mem_range.mpr hj, e⟩
      have sS : Same H3 (upd (upd H3 S (SetTO P w S L1)) r (.lst (RL L'))) := (same_new nS).trans (same_new nr)
      have Rs := R3'.mono sS
      have hr5 : (upd (upd H3 S (SetTO P w S L1)) r (.lst (RL L'))) r = some (.lst (RL L')) := upd_same
      have hT5 : ∀ p ∈ L', (upd (upd H3 S (SetTO P w S L1)) r (.lst (RL L'))) p.1 = some (.tup (IL p.2)) := fun p hp => (Rs.hT p (sub p (pm.mem_iff.mp hp))).1
      refine ⟨r, rfl, ⟨_, SqL.of hr5⟩, fun D nD => ?_⟩
      refine lc_list (K := K) (a := r) (xs := RL L') (fun i H9 => ∃ L2 : List (Addr × List Int), Same (upd (upd H3 S (SetTO P w S L1)) r (.lst (RL L'))) H9 ∧ H9 D = some (.lst (RL L2)) ∧ (∀ p ∈ L2, H9 p.1 = some (.tup (IL p.2))) ∧ L2.map (·.2) = (L'.take i).map (fun p => compR ns p.2 ns.length)) ⟨[], same_new nD, upd_same, (fun p hp => nomatch hp), rfl⟩ ?_ ?_ ?_
      · rintro i H9 _ ⟨L2, s9, _⟩
        exact SqL.of (s9 _ _ hr5)
      · rintro i x H9 hx ⟨L2, s9, hD, hL2, e2⟩
        have hi : i < L'.length := by
          have := (List.getElem?_eq_some_iff.mp hx).1
          rw [List.length_map] at this; exact this
        rw [List.getElem?_map, List.getElem?_eq_getElem hi] at hx
        have ex : x = V.ref (L'[i]).1 := (Option.some.inj hx).symm
        subst ex
        have R9 := Rs.mono s9
        have hlap := s9 _ _ (hT5 _ (List.getElem_mem hi))
        refine ⟨rfl, yes_ok ?_⟩
        refine ⟨.ref cA, rfl, cA, rfl, ⟨_, SqL.of R9.hc⟩, fun D2 nD2 => ?_⟩
        refine lc_list (K := K) (a := cA) (xs := IL (rgI 0 ns.length)) (fun j HA => Same H9 HA ∧ HA D2 = some (.lst (IL (compR ns (L'[i]).2 j)))) ⟨same_new nD2, upd_same⟩ ?_ ?_ ?_
        · rintro j HA _ ⟨sA, _⟩
          exact SqL.of (sA _ _ R9.hc)
        · rintro j x HA hx ⟨sA, hD2⟩
          have hj : j < ns.length := by
            have := (List.getElem?_eq_some_iff.mp hx).1
            rw [List.length_map, rgI_len0] at this; exact this
          have ex : x = .int (j : Int) := by
            rw [IL_get (rgI_get hj)] at hx
            exact (Option.some.inj hx).symm
          subst ex
          have RA := R9.mono sA
          have hjl : j < LL.length := by omega
          have ering : (LL[j]).2 = ringF ns (j : Int) := by
            have := congrArg (fun l => l[j]?) em
            simp only [List.getElem?_map, List.getElem?_eq_getElem hjl, List.getElem?_range hj, Option.map_some, Option.some.injEq] at this
            exact this
          have tj := (RA.hT _ (List.getElem_mem hjl)).1
          refine ⟨rfl, ?_⟩
          refine ⟨.ref lA, rfl, .int j, rfl, lA, _, _, .ref (LL[j]).1, rfl, rfl, SqL.of RA.hl, at_of (j := j) rfl (by rw [List.getElem?_map, List.getElem?_eq_getElem hjl]; rfl), .ref (L'[i]).1, rfl, _, _, .tup (SqT.of tj) (dp_ints _), .tup (SqT.of (sA _ _ hlap)) (dp_ints _), shT _, shT _, _, rfl, ?_⟩
          rw [eqvT]
          refine ite2 (c := decide ((LL[j]).2 = (L'[i]).2) = true) (fun hb => ?_) (fun hb => ?_)
          · have e1 : ringF ns (j : Int) = (L'[i]).2 := by rw [← ering]; exact of_decide_eq_true hb
            refine ⟨.int j, rfl, _, hD2, ?_, same_mut sA nD2, ?_⟩
            · rw [List.length_map]; exact szl (Nat.lt_of_le_of_lt (compR_len ns _ j) (by omega))
            · rw [upd_same, IL_app, compR_succ, if_pos e1]
          · have e1 : ¬ ringF ns (j : Int) = (L'[i]).2 := fun z => hb (decide_eq_true (by rw [ering]; exact z))
            refine ⟨sA, ?_⟩
            rw [compR_succ, if_neg e1]; exact hD2
        · rintro HA ⟨sA, hD2⟩
          rw [List.length_map, rgI_len0] at hD2
          refine ⟨D2, _, rfl, .inl ⟨SqL.of hD2, fun t nt => ?_⟩⟩
          have st := same_new (o := .tup (IL (compR ns (L'[i]).2 ns.length))) nt
          have hDt := st _ _ (sA _ _ hD)
          have tD : t ≠ D := Ne.symm (ne_of_none (sA _ _ hD) nt)
          have len2 : L2.length ≤ L'.length := by have := congrArg List.length e2; simp at this; omega
          have lenL' : L'.length ≤ ns.length := by
            have := nd_subG (L'.map (·.2)) (LL.map (·.2)) nd fun x hx => by
              rw [em, List.mem_map]
              obtain ⟨j, hj, e⟩ := (mem x).mp hx
              exact ⟨j, List.mem_range.mpr hj, e⟩
            rw [List.length_map, List.length_map] at this; omega
          refine ⟨_, hDt, ?_, L2 ++ [(t, compR ns (L'[i]).2 ns.length)], same_mut ((s9.trans sA).trans st) nD, ?_, fun p hp => ?_, ?_⟩
          · rw [List.length_map]; exact szl (by omega)
          · rw [upd_same]
            show _ = some (HO.lst (List.map _ _))
            rw [List.map_append]; rfl
          · rcases List.mem_append.mp hp with h | h
            · have z := st _ _ (sA _ _ (hL2 p h))
              rw [upd_ne (fun y => by rw [y, hDt] at z; cases z)]; exact z
            · rw [List.mem_singleton.mp h, upd_ne tD]; exact upd_same
          · rw [List.map_append, e2, List.take_succ, List.getElem?_eq_getElem hi, List.map_append]; rfl
      · rintro H9 ⟨L2, s9, hD, hL2, e2⟩
        rw [List.length_map, List.take_length] at e2
        have R9 := Rs.mono s9
        refine ⟨D, L2, rfl, SqL.of hD, fun p hp => ⟨SqT.of (hL2 p hp), fun e0 => ?_⟩, fun L3 r3 pm3 rk3 nr3 => ?_⟩
        · have : p.2 ∈ L2.map (·.2) := List.mem_map.mpr ⟨p, hp, rfl⟩
          rw [e2] at this
          obtain ⟨g, hg, eg⟩ := List.mem_map.mp this
          obtain ⟨j, hj, ej⟩ := (mem g.2).mp (List.mem_map.mpr ⟨g, hg, rfl⟩)
          have h1 := compF_self hj
          rw [← compR_eq lo hj, ej, eg, e0] at h1
          exact nomatch h1
        · have s3 := same_new (o := .lst (RL L3)) nr3
          have RX := R9.mono s3
          refine ⟨r3, L3, rfl, ⟨RX.sb, RX.box, RX.hh, upd_same, fun p hp => s3 _ _ (hL2 p (pm3.mem_iff.mp hp))⟩, ?_⟩
          have pm4 := pm3.map (·.2)
          rw [e2] at pm4
          refine comps_ofR lo (RR := L'.map (·.2)) nd mem ?_ (List.pairwise_map.mpr rk3)
          rw [List.map_map]; exact pm4
    rintro σ H4 ⟨dA, DL, rfl, R4, co⟩
    have lenD : DL.length ≤ ns.length := by have := co.len; rw [List.length_map] at this; exact this
    have compAt : ∀ p ∈ DL, ∃ j : Nat, j < ns.length ∧ compF ns (j : Int) = p.2 := fun p hp => (co.2.2 p.2).mp (List.mem_map.mpr ⟨p, hp, rfl⟩)
    have lapD : ∀ p ∈ DL, p.2.length ≤ 10000 := fun p hp => by
      obtain ⟨j, hj, e⟩ := compAt p hp
      rw [← e]
      exact Nat.le_trans (compH_len ns _ _) (by omega)
    have lapX : ∀ {L1 : List (Addr × List Int)}, L1.map (·.2) = DL.map (·.2) → L1.length ≤ 10000 ∧ ∀ p ∈ L1, p.2.length ≤ 10000 := fun {L1} e1 => by
      refine ⟨?_, fun p hp => ?_⟩
      · have := congrArg List.length e1
        rw [List.length_map, List.length_map] at this; omega
      · have : p.2 ∈ DL.map (·.2) := e1 ▸ List.mem_map.mpr ⟨p, hp, rfl⟩
        obtain ⟨x, hx, e⟩ := List.mem_map.mp this
        rw [← e]; exact lapD x hx
    -- heard
    refine ⟨fun σ H5 => ∃ p1 p2 hd L1 L2, σ = [some (.ref b), some (.ref h), some (.ref cA), some (.ref lA), y4, some (.ref dA), some (.ref hd), none, none] ∧ Same H4 H5 ∧ H5 hd = some (.lst [.ref p1, .ref p2]) ∧ H5 p1 = some (.lst (RL L1)) ∧ H5 p2 = some (.lst (RL L2)) ∧ (∀ x ∈ L1, H5 x.1 = some (.tup (IL x.2))) ∧ (∀ x ∈ L2, H5 x.1 = some (.tup (IL x.2))) ∧ L1.map (·.2) = DL.map (·.2) ∧ L2.map (·.2) = DL.map (·.2) ∧ H4 p1 = none ∧ H4 p2 = none ∧ p1 ≠ p2 ∧ p1 ≠ hd ∧ p2 ≠ hd, ?_, ?_⟩
    · refine ⟨.ref h, rfl, h, ns, rfl, .inr R4.hh, lo, by omega, fun H5 p1 L1 s5 np1 hp1 hT1 co1 => ?_⟩
      refine ⟨.ref h, rfl, h, _, rfl, .inr (SqT.of (s5 _ _ R4.hh)), fun v nv => ?_⟩
      have sv := same_new (o := .lst (IL ns)) nv
      refine ⟨v, ns, rfl, .inl upd_same, lo, by omega, fun H6 p2 L2 s6 np2 hp2 hT2 co2 => ?_⟩
      have s56 := sv.trans s6
      refine ⟨(by show 2 ≤ sizeLine; decide), fun hd nhd => ?_⟩
      have sX := same_new (o := .lst [V.ref p1, V.ref p2]) nhd
      have hp1' := s56 _ _ hp1
      exact ⟨p1, p2, hd, L1, L2, rfl, (s5.trans s56).trans sX, upd_same, sX _ _ hp1', sX _ _ hp2, fun x hx => sX _ _ (s56 _ _ (hT1 x hx)), fun x hx => sX _ _ (hT2 x hx), co1.eq co, co2.eq co, np1, (s5.trans sv).free np2, ne_of_none (sv _ _ hp1) np2, ne_of_none hp1' nhd, ne_of_none hp2 nhd⟩
    rintro σ H5 ⟨p1, p2, hd, L1, L2, rfl, s5, hhd, hp1, hp2, hT1, hT2, e1, e2, np1, np2, n12, n1h, n2h⟩
    have R5 := R4.mono s5
    have x1 := lapX e1
    have x2 := lapX e2
    refine ⟨fun σ H6 => σ = [some (.ref b), some (.ref h), some (.ref cA), some (.ref lA), y4, some (.ref dA), some (.ref hd), none, none] ∧ Same H5 H6, ?_, ?_⟩
    · refine ⟨.ref hd, rfl, .ref dA, rfl, .ref dA, rfl, (by show 2 ≤ sizeLine; decide), fun u nu => ?_⟩
      have sU := same_new (o := .lst [V.ref dA, V.ref dA]) nu
      have R6 := R5.mono sU
      exact ⟨_, _, rfl, Eqd.pair (sU _ _ hhd) upd_same (Eqd.laps (n := 0) (sU _ _ hp1) R6.hd (fun x hx => sU _ _ (hT1 x hx)) R6.hT e1 x1.1 x1.2) (Eqd.laps (n := 0) (sU _ _ hp2) R6.hd (fun x hx => sU _ _ (hT2 x hx)) R6.hT e2 x2.1 x2.2), fun H8 s8 => ⟨true, rfl, iteF ⟨rfl, sU.trans s8⟩⟩⟩
    rintro σ H6 ⟨rfl, s6⟩
    have R6 := R5.mono s6
    have hhd6 := s6 _ _ hhd
    have hp16 := s6 _ _ hp1
    have hp26 := s6 _ _ hp2
    have fr : ∀ {p : Addr}, H4 p = none → H p = none := fun {p} e => R4.sb.free R4.box e
    refine ⟨.ref hd, rfl, hd, _, 0, .ref p1, rfl, rfl, SqL.of hhd6, rfl, .inl ⟨rfl, _, SqL.of hp16⟩, p1, _, _, rfl, rfl, hp16, ?_, ?_⟩
    · rw [List.length_map]; exact szl (by have := x1.1; omega)
    have R7 := R6.put (o := .lst (RL L1 ++ [.str "more"])) (fr np1) hp16 (R4.box.ne np1) (ne_of_none R4.hd np1)
    have hp27 : (upd H6 p1 (.lst (RL L1 ++ [.str "more"]))) p2 = some (.lst (RL L2)) := by rw [upd_ne (Ne.symm n12)]; exact hp26
    refine ⟨.ref hd, rfl, hd, _, 1, .ref p2, rfl, rfl, SqL.of (by rw [upd_ne (Ne.symm n1h)]; exact hhd6), rfl, .inl ⟨rfl, _, SqL.of hp27⟩, p2, _, rfl, rfl, hp27, ?_⟩
    have R8 := R7.put (o := .lst (RL L2).reverse) (fr np2) hp27 (R4.box.ne np2) (ne_of_none R4.hd np2)
    generalize hH8 : upd (upd H6 p1 (.lst (RL L1 ++ [.str "more"]))) p2 (.lst (RL L2).reverse) = H8 at R8
    -- if not same(components(here), due) or sum(..) != len(here)
    refine ⟨fun σ H9 => σ = [some (.ref b), some (.ref h), some (.ref cA), some (.ref lA), y4, some (.ref dA), some (.ref hd), none, none] ∧ R2' H H9 b h dA ns DL (c + 10000), ?_, ?_⟩
    · refine ⟨.ref h, rfl, h, ns, rfl, .inr R8.hh, lo, by omega, fun H9 p3 L3 s9 np3 hp3 hT3 co3 => ⟨.ref dA, rfl, ?_⟩⟩
      have R9 := R8.mono s9
      have e3 := co3.eq co
      have x3 := lapX e3
      refine ⟨_, _, rfl, Eqd.laps (n := 1) hp3 R9.hd hT3 R9.hT e3 x3.1 x3.2, fun HA sA => ⟨true, rfl, iteF ?_⟩⟩
      have RA := R9.mono sA
      refine ⟨.ref dA, rfl, dA, rfl, ⟨_, SqL.of RA.hd⟩, fun D nD => ?_⟩
      refine lc_list (K := K) (a := dA) (xs := RL DL) (fun i HB => Same HA HB ∧ HB D = some (.lst (IL ((DL.take i).map fun p => ((p.2.length : Nat) : Int))))) ⟨same_new nD, upd_same⟩ ?_ ?_ ?_
      · rintro i HB _ ⟨sB, _⟩
        exact SqL.of (sB _ _ RA.hd)
      · rintro i x HB hx ⟨sB, hD⟩
        have hi : i < DL.length := by
          have := (List.getElem?_eq_some_iff.mp hx).1
          rw [List.length_map] at this; exact this
        rw [List.getElem?_map, List.getElem?_eq_getElem hi] at hx
        have ex : x = V.ref (DL[i]).1 := (Option.some.inj hx).symm
        subst ex
        have RB := RA.mono sB
        refine ⟨rfl, yes_ok ⟨.ref (DL[i]).1, rfl, (DL[i]).1, _, rfl, .inr (SqT.of (RB.hT _ (List.getElem_mem hi))), _, hD, ?_, same_mut sB nD, ?_⟩⟩
        · rw [List.length_map, List.length_map, List.length_take]; exact szl (by omega)
        · rw [upd_same, List.length_map, IL_app, List.take_succ, List.getElem?_eq_getElem hi, List.map_append]; rfl
      · rintro HB ⟨sB, hD⟩
        rw [List.length_map, List.take_length] at hD
        have RB := RA.mono sB
        refine ⟨D, _, rfl, SqL.of hD, .ref h, rfl, h, _, rfl, .inr (SqT.of RB.hh), rfl, _, rfl, ?_⟩
        have es : (DL.map fun p => ((p.2.length : Nat) : Int)).sum = ((IL ns).length : Nat) := by
          have := sum_cast (DL.map (·.2))
          rw [List.map_map] at this
          rw [List.length_map, ← co.sum]; exact this
        rw [decide_eq_true (congrArg V.int es)]
        exact iteF ⟨rfl, RB⟩
    rintro σ H9 ⟨rfl, R9⟩
    -- for some in due
    refine ⟨fun σ HA => R2' H HA b h dA ns DL (c + 10000), ?_, ?_⟩
    · refine ⟨.ref dA, rfl, dA, rfl, ⟨_, SqL.of R9.hd⟩, ?_⟩
      refine for_list (K := K) (a := dA) (xs := RL DL) (fun j σ HA => ∃ y7, σ = [some (.ref b), some (.ref h), some (.ref cA), some (.ref lA), y4, some (.ref dA), some (.ref hd), y7, none] ∧ R2' H HA b h dA ns DL (c + 10000)) ⟨_, rfl, R9⟩ ?_ ?_ ?_
      · rintro j σ HA _ ⟨_, rfl, RA⟩; exact SqL.of RA.hd
      · rintro j x σ HA hx ⟨y7, rfl, RA⟩
        have hj : j < DL.length := by
          have := (List.getElem?_eq_some_iff.mp hx).1
          rw [List.length_map] at this; exact this
        rw [List.getElem?_map, List.getElem?_eq_getElem hj] at hx
        have ex : x = V.ref (DL[j]).1 := (Option.some.inj hx).symm
        subst ex
        have pm : DL[j] ∈ DL := List.getElem_mem hj
        generalize DL[j] = p at pm
        obtain ⟨i0, hi0, ei0⟩ := compAt p pm
        have hpA := RA.hT p pm
        refine ⟨.ref p.1, rfl, p.1, rfl, ⟨_, SqT.of hpA⟩, fun D nD => ?_⟩
        refine lc_tup (K := K) (a := p.1) (xs := IL p.2) (fun i HB => Same HA HB ∧ HB D = some (.lst (List.replicate i (.bl true)))) ⟨same_new nD, upd_same⟩ ?_ ?_ ?_
        · rintro i HB _ ⟨sB, _⟩
          exact SqT.of (sB _ _ hpA)
        · rintro i x HB hx ⟨sB, hD⟩
          have hi : i < p.2.length := by
            have := (List.getElem?_eq_some_iff.mp hx).1
            rw [List.length_map] at this; exact this
          have e := IL_at hx hi
          subst e
          have st := compF_step lo (p := (i0 : Int)) (z := p.2[i]) (by rw [ei0]; exact List.getElem_mem hi)
          rw [ei0] at st
          have RB := RA.mono sB
          have lp := lapD p pm
          refine ⟨rfl, yes_ok ⟨.ref h, rfl, .int p.2[i], rfl, h, _, _, _, rfl, rfl, SqT.of RB.hh, gt_at st.1 st.2.1, .ref p.1, rfl, p.1, _, rfl, .inr (SqT.of (sB _ _ hpA)), rfl, flat_ints _, _, hD, ?_, same_mut sB nD, ?_⟩⟩
          · rw [List.length_replicate]; exact szl (by omega)
          · rw [upd_same, if_neg Bool.false_ne_true, inV_ints, decide_eq_true st.2.2, rep_app]
        · rintro HB ⟨sB, hD⟩
          rw [List.length_map] at hD
          refine ⟨D, List.replicate p.2.length true, rfl, ?_, true, ?_, iteF ⟨_, rfl, RA.mono sB⟩⟩
          · rw [rep_bl]; exact SqL.of hD
          · rw [all_true]
      · rintro σ HA ⟨y7, rfl, RA⟩
        exact RA
    rintro σ HA RA
    exact q _ RA.sb (RA.box.le (by omega))
end
end Lp

namespace Lp
open PySem PySem.Spec PyProof.Rows L2
section
variable {P : Program} {w : World} {K : PySem.W.Frag} {mg : Str → Option Value} {base : Heap}
abbrev sLaw : Stmt := topS 24
abbrev nLaw : List Str := ["_law_script", "_law_cells_here", "_law_k", "_law_box_here", "_law_turn"]
theorem scLaw : FnScope nLaw ["_law_script"] (defScope sLaw) := ⟨rfl, rfl, rfl, by decide +kernel, rfl, by decide +kernel, by decide +kernel⟩
def spLaw (K : PySem.W.Frag) : Sp := fun vs H Q _ => ∃ (a : Addr) (ns : List Int), vs = [.ref a] ∧ SqL K H a (IL ns) ∧ ns.length ≤ 63 ∧ ∀ H', Q (.bl true) H'
theorem ok_law {f fC fB fR : Addr} {fd fdC fdB fdR : FuncData} (F : Fun K "law" "law" sLaw f fd) (B : Bi mg) (C : Cal P w K mg base "_law_cells" 10 ["_law_script", "_law_most"] (spCells K) fC fdC)
    (X : Cal P w K mg base "_law_box" 10 ["_law_script", "_law_k"] (spBox K) fB fdB) (R : Cal P w K mg base "_law_right" 10 ["_law_box_here"] spRight fR fdR) : FnOk P w K mg base CX0 11 f fd ["_law_script"] (spLaw K) := by
  refine F.ok scLaw (fun vs H Q E h => ?_) (fun cdv A outer s H vs Q E hr h => ?_)
  · obtain ⟨a, ns, rfl, _⟩ := h
    rfl
  · obtain ⟨a, ns, rfl, hS, hl, q⟩ := h
    refine ⟨_, pss_cons (ps_set (i := 1) scLaw.nd rfl (.inl rfl) (pe_call C.ok hr (by rfl) C.g C.kp C.bd .nil pass0 (pa_cons (pv 0) (pa_cons pe_int pa_nil))))
      (pss_cons (ps_for PassesOwn.never rfl (pi_range1 (by rfl) B.range (pa_cons (pe_callB call_len_seq (by rfl) B.len PySem.boot_len (pa_cons (pv 1) pa_nil)) pa_nil)) (pg_name (i := 2) scLaw.nd rfl (.inl rfl))
        (pss_cons (ps_set (i := 3) scLaw.nd rfl (.inr rfl) (pe_call X.ok hr (by rfl) X.g X.kp X.bd .nil pass0 (pa_cons (pv 1) (pa_cons (pv 2) pa_nil))))
        (pss_one (ps_if (pt_not (pt_val (pe_callB (cr_all rfl) (by rfl) B.all (by decide +kernel) (pa_cons (pe_lc (own := [("_law_turn", 4)]) (g := gName 4) (tt := tYes) (by rfl) scLaw.nd (pi_range1 (by rfl) B.range (pa_cons pe_int pa_nil)) (blkOk_by (own := [("_law_turn", 4)]) (N := nLaw) (sc := defScope sLaw) (by decide +kernel))
          (fun _ _ _ _ _ => pg_name (i := 4) scLaw.nd rfl (Or.inl rfl)) (fun _ _ _ _ _ => pts_nil) (fun _ _ _ _ _ => pe_call R.ok hr (by rfl) R.g R.kp R.bd .nil pass0 (pa_cons (pv 3) pa_nil))) pa_nil)))) pss_never pss_nil))))
      (pss_one (ps_ret pe_bl))), ?_⟩
    refine ⟨.ref a, rfl, a, _, ns, rfl, hS, by decide, by decide, fun H1 cA ms s1 nc hc l1 l2 => ?_⟩
    refine ⟨.ref cA, rfl, cA, _, rfl, .inl (SqL.of hc), _, rfl, ?_, ?_, ?_⟩
    · rw [List.length_map]; omega
    · rw [List.length_map]; omega
    refine for_it (walk_range (lo := 0)) (fun _ σ H3 => ∃ y2 y3, σ = [some (.ref a), some (.ref cA), y2, y3, none] ∧ H3 cA = some (.lst (IL ms))) ?_ ?_ ?_ ?_
    · exact ⟨none, none, rfl, hc⟩
    · intros; trivial
    · rintro i x σ H0 G hi ⟨y2, y3, rfl, hcG⟩ ⟨rfl, rfl⟩
      rw [List.length_map] at hi
      refine ⟨.ref cA, rfl, .int (0 + i), rfl, cA, _, ms, rfl, SqL.of hcG, by omega, by omega, fun H4 b s4 nb hB => ?_⟩
      have hc4 := s4 _ _ hcG
      have cb : cA ≠ b := ne_of_none hcG nb
      refine ⟨_, rfl, by decide, by decide, fun D nD => ?_⟩
      have bD : b ≠ D := hB.ne nD
      have cD : cA ≠ D := ne_of_none hc4 nD
      refine lc_range (lo := 0) (fun j H5 => H5 D = some (.lst (List.replicate j (.bl true))) ∧ Box H5 b (100000 * j) ∧ H5 cA = some (.lst (IL ms))) ⟨upd_same, (hB.new nD).le (by omega), upd_keep hc4 nD⟩ ?_ ?_
      · rintro j H5 hj ⟨hD, hB5, hc5⟩
        have hj' : j < 100 := Nat.lt_trans hj (by decide)
        refine ⟨rfl, yes_ok ⟨.ref b, rfl, b, 100000 * j, rfl, hB5, by omega, fun H6 sb6 hB6 => ?_⟩⟩
        have hD6 := sb6 D _ (Ne.symm bD) hD
        refine ⟨_, hD6, ?_, ?_, ?_, ?_⟩
        · rw [List.length_replicate]; exact szl (by omega)
        · rw [upd_same, rep_app]
        · exact (hB6.put bD).le (by omega)
        · rw [upd_ne cD]; exact sb6 cA _ cb hc5
      · rintro H5 ⟨hD, hB5, hc5⟩
        refine ⟨D, List.replicate 3 true, rfl, ?_, true, ?_, iteF ⟨_, _, rfl, hc5⟩⟩
        · rw [rep_bl]; exact SqL.of hD
        · rw [all_true]
    · rintro σ H3 ⟨y2, y3, rfl, _⟩
      exact q _
end
theorem all_mk {l : PySem.W.OpenLaw} {w : World} {K : PySem.W.Frag} {h : Heap} {mg : Str → Option Value} {fa : Addr} (X : K.In h) (G : h.Ns mainGlobals mg) (hfa : mg "law" = some (.ref fa)) (Z : Zs K)
    (d3 : Dx K "check_person" sCheckP) (d4 : Dx K "route_from" sRoute) (d5 : Dx K "turned" sTurned) (d6 : Dx K "ring_begin" sBegin) (d7 : Dx K "ring_of" sRingOf) (d8 : Dx K "height" sHeight) (d9 : Dx K "components" sComps) (d11 : Dx K "_law_box" sBox) (d12 : Dx K "_law_take" sTake) (d13 : Dx K "_law_cells" sCells) (d14 : Dx K "_law_of" sOf) (d15 : Dx K "_law_strewn" sStrewn) (d16 : Dx K "_law_same" sSame) (d17 : Dx K "_law_part" sPart) (d18 : Dx K "_law_mixed" sMixed) (d19 : Dx K "_law_drawn" sDrawn) (d20 : Dx K "_law_met" sMet) (d21 : Dx K "_law_ring" sRingL) (d22 : Dx K "_law_high" sHigh) (d23 : Dx K "_law_right" sRight) (d24 : Dx K "law" sLaw) :
    ∃ fd : FuncData, (∀ (s : Shared) (v : Value), BindsTo s fd ⟨[v], []⟩ [("_law_script", v)]) ∧ ∀ base : Heap, K.In base → base.Ns mainGlobals mg → FnOk l.prog w K mg base CX0 11 fa fd ["_law_script"] (spLaw K) := by
  have B := Z.bi X G
  obtain ⟨f3, e3, F3, g3⟩ := d3.fn X G
  obtain ⟨f4, e4, F4, g4⟩ := d4.fn X G
  obtain ⟨f5, e5, F5, g5⟩ := d5.fn X G
  obtain ⟨f6, e6, F6, g6⟩ := d6.fn X G
  obtain ⟨f7, e7, F7, g7⟩ := d7.fn X G
  obtain ⟨f8, e8, F8, g8⟩ := d8.fn X G
  obtain ⟨f9, e9, F9, g9⟩ := d9.fn X G
  obtain ⟨f11, e11, F11, g11⟩ := d11.fn X G
  obtain ⟨f12, e12, F12, g12⟩ := d12.fn X G
  obtain ⟨f13, e13, F13, g13⟩ := d13.fn X G
  obtain ⟨f14, e14, F14, g14⟩ := d14.fn X G
  obtain ⟨f15, e15, F15, g15⟩ := d15.fn X G
  obtain ⟨f16, e16, F16, g16⟩ := d16.fn X G
  obtain ⟨f17, e17, F17, g17⟩ := d17.fn X G
  obtain ⟨f18, e18, F18, g18⟩ := d18.fn X G
  obtain ⟨f19, e19, F19, g19⟩ := d19.fn X G
  obtain ⟨f20, e20, F20, g20⟩ := d20.fn X G
  obtain ⟨f21, e21, F21, g21⟩ := d21.fn X G
  obtain ⟨f22, e22, F22, g22⟩ := d22.fn X G
  obtain ⟨f23, e23, F23, g23⟩ := d23.fn X G
  obtain ⟨f24, e24, F24, g24⟩ := d24.fn X G
  cases hfa.symm.trans g24
  refine ⟨e24, fun s v => ?_, fun base _ _ => ?_⟩
  · obtain ⟨oc, od, kV, doc, pm, an, cdv, ct, osl, rfl, lk, hcd⟩ := F24.ex
    exact .of_eq rfl
  · have bd3 : Binds K e3 ["state", "person"] [] := b2 F3 fun _ _ _ _ _ _ _ _ => rfl
    have t3 : Cal l.prog w K mg base "check_person" 1 ["state", "person"] spCheckP f3 e3 := ⟨ok_checkP F3 B, g3, F3.kp, bd3⟩
    have bd4 : Binds K e4 ["pointers", "person"] [] := b2 F4 fun _ _ _ _ _ _ _ _ => rfl
    have t4 : Cal l.prog w K mg base "route_from" 1 ["pointers", "person"] spRoute f4 e4 := ⟨ok_route F4 B, g4, F4.kp, bd4⟩
    have bd5 : Binds K e5 ["members", "first"] [] := b2 F5 fun _ _ _ _ _ _ _ _ => rfl
    have t5 : Cal l.prog w K mg base "turned" 1 ["members", "first"] spTurned f5 e5 := ⟨ok_turned F5, g5, F5.kp, bd5⟩
    have bd6 : Binds K e6 ["state", "route"] [] := b2 F6 fun _ _ _ _ _ _ _ _ => rfl
    have t6 : Cal l.prog w K mg base "ring_begin" 1 ["state", "route"] spBegin f6 e6 := ⟨ok_begin F6, g6, F6.kp, bd6⟩
    have bd7 : Binds K e7 ["state", "person"] [] := b2 F7 fun _ _ _ _ _ _ _ _ => rfl
    have t7 : Cal l.prog w K mg base "ring_of" 2 ["state", "person"] spRingOf f7 e7 := ⟨ok_ringOf F7 B t3 t4 t6 t5, g7, F7.kp, bd7⟩
    have bd8 : Binds K e8 ["state", "person"] [] := b2 F8 fun _ _ _ _ _ _ _ _ => rfl
    have t8 : Cal l.prog w K mg base "height" 2 ["state", "person"] spHeight f8 e8 := ⟨ok_height F8 t3 t4 t6, g8, F8.kp, bd8⟩
    have bd9 : Binds K e9 ["state"] [] := b1 F9 fun _ _ _ _ _ _ _ => rfl
    have t9 : Cal l.prog w K mg base "components" 3 ["state"] spComps f9 e9 := ⟨ok_comps F9 B t7, g9, F9.kp, bd9⟩
    have bd11 : Binds K e11 ["_law_script", "_law_k"] [] := b2 F11 fun _ _ _ _ _ _ _ _ => rfl
    have t11 : Cal l.prog w K mg base "_law_box" 1 ["_law_script", "_law_k"] (spBox K) f11 e11 := ⟨ok_box F11 B, g11, F11.kp, bd11⟩
    have bd12 : Binds K e12 psT [] := b2 F12 fun _ _ _ _ _ _ _ _ => rfl
    have t12 : Cal l.prog w K mg base "_law_take" 1 psT spTake f12 e12 := ⟨ok_take F12, g12, F12.kp, bd12⟩
    have bd13 : Binds K e13 ["_law_script", "_law_most"] [] := b2 F13 fun _ _ _ _ _ _ _ _ => rfl
    have t13 : Cal l.prog w K mg base "_law_cells" 1 ["_law_script", "_law_most"] (spCells K) f13 e13 := ⟨ok_cells F13 B, g13, F13.kp, bd13⟩
    have bd14 : Binds K e14 ["_law_box_here", "_law_some"] [] := b2 F14 fun _ _ _ _ _ _ _ _ => rfl
    have t14 : Cal l.prog w K mg base "_law_of" 2 ["_law_box_here", "_law_some"] spOf f14 e14 := ⟨ok_of F14 B t12, g14, F14.kp, bd14⟩
    have bd15 : Binds K e15 ["_law_box_here", "_law_some"] [] := b2 F15 fun _ _ _ _ _ _ _ _ => rfl
    have t15 : Cal l.prog w K mg base "_law_strewn" 2 ["_law_box_here", "_law_some"] spStrewn f15 e15 := ⟨ok_strewn F15 B t12, g15, F15.kp, bd15⟩
    have bd16 : Binds K e16 psSame [] := b2 F16 fun _ _ _ _ _ _ _ _ => rfl
    have t16 : Cal l.prog w K mg base "_law_same" 4 psSame (spSame 3) f16 e16 := ⟨(ok_same F16 B g16 bd16 3), g16, F16.kp, bd16⟩
    have bd17 : Binds K e17 ["_law_box_here", "_law_size"] [] := b2 F17 fun _ _ _ _ _ _ _ _ => rfl
    have t17 : Cal l.prog w K mg base "_law_part" 2 ["_law_box_here", "_law_size"] spPart f17 e17 := ⟨ok_part F17 B t12, g17, F17.kp, bd17⟩
    have bd18 : Binds K e18 ["_law_box_here", "_law_found"] [] := b2 F18 fun _ _ _ _ _ _ _ _ => rfl
    have t18 : Cal l.prog w K mg base "_law_mixed" 3 ["_law_box_here", "_law_found"] spMixed f18 e18 := ⟨ok_mixed F18 B t15, g18, F18.kp, bd18⟩
    have bd19 : Binds K e19 ["_law_box_here", "_law_most"] [] := b2 F19 fun _ _ _ _ _ _ _ _ => rfl
    have t19 : Cal l.prog w K mg base "_law_drawn" 4 ["_law_box_here", "_law_most"] spDrawn f19 e19 := ⟨ok_drawn F19 B t12 t14 t17 t18, g19, F19.kp, bd19⟩
    have bd20 : Binds K e20 ["_law_here", "_law_who"] [] := b2 F20 fun _ _ _ _ _ _ _ _ => rfl
    have t20 : Cal l.prog w K mg base "_law_met" 1 ["_law_here", "_law_who"] spMet f20 e20 := ⟨ok_met F20 B, g20, F20.kp, bd20⟩
    have bd21 : Binds K e21 ["_law_here", "_law_who"] [] := b2 F21 fun _ _ _ _ _ _ _ _ => rfl
    have t21 : Cal l.prog w K mg base "_law_ring" 2 ["_law_here", "_law_who"] spRingL f21 e21 := ⟨ok_ringL F21 B t20, g21, F21.kp, bd21⟩
    have bd22 : Binds K e22 ["_law_here", "_law_who"] [] := b2 F22 fun _ _ _ _ _ _ _ _ => rfl
    have t22 : Cal l.prog w K mg base "_law_high" 2 ["_law_here", "_law_who"] spHigh f22 e22 := ⟨ok_high F22 t20, g22, F22.kp, bd22⟩
    have tR : Cal l.prog w K mg base "_law_right" 10 ["_law_box_here"] spRight f23 e23 := ⟨ok_right F23 B (t19.up (by decide)) (t8.up (by decide)) (r2 F8 fun _ _ _ _ _ _ _ _ => rfl) (t16.up (by decide)) (t22.up (by decide)) (t21.up (by decide)) (t9.up (by decide)) (r1 F9 fun _ _ _ _ _ _ _ => rfl), g23, F23.kp, b1 F23 fun _ _ _ _ _ _ _ => rfl⟩
    exact ok_law F24 B (t13.up (by decide)) (t11.up (by decide)) tR
end Lp

open PySem PySem.W PyProof.Rows
set_option maxHeartbeats 0 in
theorem PySem.Challenge.cw_lookpast_k03_heights_and_components_holds : PySem.Challenge.rw_lookpast_k03_heights_and_components.Holds := by
  w_on; o_law; k_head; (case hw => w_witness2)
  k_fill
  refine L2.walk_of (l := PySem.Challenge.rw_lookpast_k03_heights_and_components) (n := 63) (k := 11) (x := "_law_script") (CX := fun _ => L2.CX0) (sp := fun w => Lp.spLaw _) rfl (by decide) rfl ⟨rfl, by decide, by decide⟩ (fun w h Y => PySem.W.kIn_of Y) ?F (fun _ _ a ns hl _ hS => ⟨a, ns, rfl, hS, hl, fun _ => rfl⟩) (fun _ _ _ _ _ h => h)
  case F =>
    intro w mg fa h KX G hmg
    refine' Lp.all_mk KX G hmg ?z ?d3 ?d4 ?d5 ?d6 ?d7 ?d8 ?d9 ?d11 ?d12 ?d13 ?d14 ?d15 ?d16 ?d17 ?d18 ?d19 ?d20 ?d21 ?d22 ?d23 ?d24
    (case z => refine' ⟨?_, ?_, ?_, ?_, ?_, ?_, ?_, ?_, ?_, ?_, ?_, ?_, ?_, ?_, ?_, ?_, ?_, ?_⟩ <;> k_is)
    (case d3 => refine' Lp.dx_mk ?a ?l ?c ?k; (case a => k_is); (case l => k_is); (case c => k_is); (case k => k_is))
    (case d4 => refine' Lp.dx_mk ?a ?l ?c ?k; (case a => k_is); (case l => k_is); (case c => k_is); (case k => k_is))
    (case d5 => refine' Lp.dx_mk ?a ?l ?c ?k; (case a => k_is); (case l => k_is); (case c => k_is); (case k => k_is))
    (case d6 => refine' Lp.dx_mk ?a ?l ?c ?k; (case a => k_is); (case l => k_is); (case c => k_is); (case k => k_is))
    (case d7 => refine' Lp.dx_mk ?a ?l ?c ?k; (case a => k_is); (case l => k_is); (case c => k_is); (case k => k_is))
    (case d8 => refine' Lp.dx_mk ?a ?l ?c ?k; (case a => k_is); (case l => k_is); (case c => k_is); (case k => k_is))
    (case d9 => refine' Lp.dx_mk ?a ?l ?c ?k; (case a => k_is); (case l => k_is); (case c => k_is); (case k => k_is))
    (case d11 => refine' Lp.dx_mk ?a ?l ?c ?k; (case a => k_is); (case l => k_is); (case c => k_is); (case k => k_is))
    (case d12 => refine' Lp.dx_mk ?a ?l ?c ?k; (case a => k_is); (case l => k_is); (case c => k_is); (case k => k_is))
    (case d13 => refine' Lp.dx_mk ?a ?l ?c ?k; (case a => k_is); (case l => k_is); (case c => k_is); (case k => k_is))
    (case d14 => refine' Lp.dx_mk ?a ?l ?c ?k; (case a => k_is); (case l => k_is); (case c => k_is); (case k => k_is))
    (case d15 => refine' Lp.dx_mk ?a ?l ?c ?k; (case a => k_is); (case l => k_is); (case c => k_is); (case k => k_is))
    (case d16 => refine' Lp.dx_mk ?a ?l ?c ?k; (case a => k_is); (case l => k_is); (case c => k_is); (case k => k_is))
    (case d17 => refine' Lp.dx_mk ?a ?l ?c ?k; (case a => k_is); (case l => k_is); (case c => k_is); (case k => k_is))
    (case d18 => refine' Lp.dx_mk ?a ?l ?c ?k; (case a => k_is); (case l => k_is); (case c => k_is); (case k => k_is))
    (case d19 => refine' Lp.dx_mk ?a ?l ?c ?k; (case a => k_is); (case l => k_is); (case c => k_is); (case k => k_is))
    (case d20 => refine' Lp.dx_mk ?a ?l ?c ?k; (case a => k_is); (case l => k_is); (case c => k_is); (case k => k_is))
    (case d21 => refine' Lp.dx_mk ?a ?l ?c ?k; (case a => k_is); (case l => k_is); (case c => k_is); (case k => k_is))
    (case d22 => refine' Lp.dx_mk ?a ?l ?c ?k; (case a => k_is); (case l => k_is); (case c => k_is); (case k => k_is))
    (case d23 => refine' Lp.dx_mk ?a ?l ?c ?k; (case a => k_is); (case l => k_is); (case c => k_is); (case k => k_is))
    (case d24 => refine' Lp.dx_mk ?a ?l ?c ?k; (case a => k_is); (case l => k_is); (case c => k_is); (case k => k_is))

