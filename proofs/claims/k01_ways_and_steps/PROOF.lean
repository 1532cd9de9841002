import PyProof.Rows.All
import Wide.All
import OpenK.AllK
import Wide.FinOn
import HandS.ForMost
import HandS.Walk
import HandS.IsInst
import HandS.Conv
import HandS.Zip
import HandS.Style
import HandS.Flow
import HandS.Codes
import PyProof.ReprRoads
import PyProof.Rows.RegFStrParts
import HandS.TupAny
import HandS.Strs
import HandS.Wide
import PySem.Challenge.RW_lookpast_k01_ways_and_steps
set_option Elab.async false
set_option linter.all false
set_option maxRecDepth 100000
set_option maxHeartbeats 4000000
namespace Lp
open PySem PySem.Spec PyProof.Rows L2
def topS (i : Nat) : Stmt := PySem.Challenge.pw_lookpast_k01_ways_and_steps.main.body.getD i (.Pass ⟨0, 0, 0, 0⟩)
/-- all but b stand as they stood -/
def Sb (b : Addr) (H H' : Hp) : Prop := ∀ a o, a ≠ b → H a = some o → H' a = some o
theorem Sb.refl (b : Addr) (H : Hp) : Sb b H H := fun _ _ _ h => h
theorem Sb.trans {b : Addr} {H H1 H2 : Hp} (x : Sb b H H1) (y : Sb b H1 H2) : Sb b H H2 := fun a o n h => y a o n (x a o n h)
theorem Sb.upd {b : Addr} {H H1 : Hp} {o : HO} (x : Sb b H H1) : Sb b H (upd H1 b o) := fun a u n h => by
  rw [upd_ne n]; exact x a u n h
theorem Sb.new {b p : Addr} {H : Hp} {o : HO} (h : H p = none) : Sb b H (L2.upd H p o) := fun a u _ e => by
  rw [upd_ne (ne_of_none e h)]; exact e
/-- the drawing box: its three numbers; c: at most so many draws so far -/
def Box (H : Hp) (b : Addr) (c : Nat) : Prop := ∃ x0 x1 x2 : Int, H b = some (.lst [.int x0, .int x1, .int x2]) ∧ 0 ≤ x0 ∧ 0 ≤ x1 ∧ x1 < 4611686018427387904 ∧ 0 ≤ x2 ∧ x2 ≤ (c : Int)
theorem Box.le {H : Hp} {b : Addr} {c d : Nat} (x : Box H b c) (h : c ≤ d) : Box H b d := by
  obtain ⟨x0, x1, x2, e, h0, h1, h2, h3, h4⟩ := x
  exact ⟨x0, x1, x2, e, h0, h1, h2, h3, by omega⟩
theorem Box.there {H : Hp} {b : Addr} {c : Nat} (x : Box H b c) : ∃ xs, H b = some (.lst xs) := by
  obtain ⟨x0, x1, x2, e, _⟩ := x
  exact ⟨_, e⟩
theorem Sb.free {b : Addr} {H H' : Hp} {c : Nat} (x : Sb b H H') (y : Box H' b c) {p : Addr} (h : H' p = none) : H p = none := by
  cases q : H p with
  | none => rfl
  | some o =>
    by_cases n : p = b
    · subst n; obtain ⟨_, e⟩ := y.there; rw [e] at h; cases h
    · rw [x p o n q] at h; cases h
section
variable {P : Program} {w : World} {K : PySem.W.Frag} {mg : Str → Option Value} {base : Heap}
abbrev psT : List Str := ["_law_box_here", "_law_span"]
/-! ### _law_take -/
def spTake : Sp := fun vs H Q _ => ∃ (b : Addr) (span : Int) (c : Nat), vs = [.ref b, .int span] ∧ Box H b c ∧ c ≤ 1000000000 ∧ 1 ≤ span ∧ span ≤ 10000000 ∧
  ∀ H' (r : Int), Sb b H H' → Box H' b (c + 1) → 0 ≤ r → r < span → Q (.int r) H'
abbrev sTake : Stmt := topS 10
theorem scTake : FnScope ["_law_box_here", "_law_span", "_law_found", "_law_once"] ["_law_box_here", "_law_span"] (defScope sTake) := ⟨rfl, rfl, rfl, by decide +kernel, rfl, by decide +kernel, by decide +kernel⟩
theorem ok_take {f : Addr} {fd : FuncData} {k : Nat} (F : Fun K "_law_take" "_law_take" sTake f fd) : FnOk P w K mg base CX0 (k + 1) f fd ["_law_box_here", "_law_span"] spTake := by
  refine F.ok scTake (fun vs H Q E h => ?_) (fun cdv A outer s H vs Q E hr h => ?_)
  · obtain ⟨b, span, c, rfl, _⟩ := h
    rfl
  · obtain ⟨b, span, c, rfl, ⟨x0, x1, x2, hb, h0, h1, h2, h3, h4⟩, hc, hs1, hs2, q⟩ := h
    refine ⟨_, pss_cons (ps_if (pt_cmpR op_gt (pe_ix ix_list (pv 0) pe_int (fun _ _ => rfl)) pe_int (nomark _))
        (pss_cons (ps_set (i := 2) scTake.nd rfl (.inl rfl) (pe_op op_mod (pe_ix ix_list (pv 0) pe_int (fun _ _ => rfl)) (pv 1)))
        (pss_cons (ps_asg (pe_op op_fdiv (pe_ix ix_list (pv 0) pe_int (fun _ _ => rfl)) (pv 1)) (pg_sub (pv 0) pe_int set_list))
        (pss_one (ps_ret (pv 2))))) pss_nil)
      (pss_cons (ps_if (pt_cmpR op_gt (pv 1) (pe_op op_pow pe_int pe_int) (nomark _)) pss_never pss_nil)
      (pss_cons (ps_asg (pe_op op_add (pe_ix ix_list (pv 0) pe_int (fun _ _ => rfl)) pe_int) (pg_sub (pv 0) pe_int set_list))
      (pss_cons (ps_set (i := 3) scTake.nd rfl (.inl rfl) (pe_op op_mod (pe_op op_pow (pe_op op_add (pe_ix ix_list (pv 0) pe_int (fun _ _ => rfl)) (pe_op op_mul pe_int (pe_ix ix_list (pv 0) pe_int (fun _ _ => rfl)))) pe_int) pe_int))
      (pss_one (ps_ret (pe_op op_mod (pe_op op_fdiv (pe_op op_mod (pe_op op_add (pe_op op_mul (pv 3) (pe_op op_add (pe_op op_mod (pv 3) pe_int) pe_int)) (pe_op op_mul (pe_ix ix_list (pv 0) pe_int (fun _ _ => rfl)) pe_int)) pe_int) pe_int) (pv 1))))))), ?_⟩
    have ix : SqL K H b [.int x0, .int x1, .int x2] := SqL.of hb
    refine ⟨.ref b, rfl, b, _, 0, .int x0, rfl, rfl, ix, rfl, x0, 0, rfl, rfl, _, rfl, ite2 (fun e => ?_) (fun e => ?_)⟩
    · have e0 : 0 < x0 := of_decide_eq_true e
      refine ⟨.ref b, rfl, b, _, 0, .int x0, rfl, rfl, ix, rfl, .int span, rfl, x0, span, rfl, rfl, (by show (0 : Int) < span; omega), ?_⟩
      refine ⟨.ref b, rfl, b, _, 0, .int x0, rfl, rfl, ix, rfl, .int span, rfl, x0, span, rfl, rfl, ⟨by omega, by omega⟩, ?_⟩
      refine ⟨.ref b, rfl, b, _, 0, 0, rfl, rfl, hb, rfl, ?_⟩
      refine ⟨.int (x0 % span), rfl, q _ _ (Sb.upd (Sb.refl b H)) ⟨x0 / span, x1, x2, upd_same, ?_, h1, h2, h3, by omega⟩ (Int.emod_nonneg _ (by omega)) (Int.emod_lt_of_pos _ (by omega))⟩
      exact Int.ediv_nonneg h0 (by omega)
    · refine ⟨.int span, rfl, 10, 7, rfl, rfl, ⟨by decide, by decide, by decide⟩, span, _, rfl, rfl, _, rfl, ?_⟩
      have e1 : ¬ ((10 : Int) ^ (7 : Int).toNat < span) := by
        show ¬ ((10000000 : Int) < span)
        omega
      rw [decide_eq_false e1]
      refine iteF ?_
      refine ⟨.ref b, rfl, b, _, 2, .int x2, rfl, rfl, ix, rfl, x2, 1, rfl, rfl, ?_⟩
      refine ⟨.ref b, rfl, b, _, 2, 2, rfl, rfl, hb, rfl, ?_⟩
      have ix2 : SqL K (upd H b (.lst [.int x0, .int x1, .int (x2 + 1)])) b [.int x0, .int x1, .int (x2 + 1)] := SqL.of upd_same
      refine ⟨.ref b, rfl, b, _, 1, .int x1, rfl, rfl, ix2, rfl, .ref b, rfl, b, _, 2, .int (x2 + 1), rfl, rfl, ix2, rfl, 39373, x2 + 1, rfl, rfl, .inl ⟨by decide, by decide⟩, x1, _, rfl, rfl, _, 5, rfl, rfl, ⟨by decide, by decide, by omega⟩, _, 2147483647, rfl, rfl, (by show (0 : Int) < 2147483647; decide), ?_⟩
      dsimp only
      generalize hg : (x1 + 39373 * (x2 + 1)) ^ (5 : Int).toNat % 2147483647 = once
      have o1 : 0 ≤ once := by rw [← hg]; exact Int.emod_nonneg _ (by decide)
      have o2 : once < 2147483647 := by rw [← hg]; exact Int.emod_lt_of_pos _ (by decide)
      refine ⟨.int once, rfl, .int once, rfl, once, 40009, rfl, rfl, (by show (0 : Int) < 40009; decide), _, 7, rfl, rfl, once, _, rfl, rfl, .inl ⟨by omega, by omega⟩, .ref b, rfl, b, _, 2, .int (x2 + 1), rfl, rfl, ix2, rfl, x2 + 1, 7919, rfl, rfl, .inl ⟨by omega, by omega⟩, _, _, rfl, rfl, _, 2147483629, rfl, rfl, (by show (0 : Int) < 2147483629; decide), _, 64, rfl, rfl, ⟨by decide, by decide⟩, .int span, rfl, _, span, rfl, rfl, (by show (0 : Int) < span; omega), ?_⟩
      exact q _ _ (Sb.upd (Sb.refl b H)) ⟨x0, x1, x2 + 1, upd_same, h0, h1, h2, by omega, by omega⟩ (Int.emod_nonneg _ (by omega)) (Int.emod_lt_of_pos _ (by omega))
end
end Lp

namespace Lp
open PySem PySem.Spec PyProof.Rows L2
/-! ### ints as data -/
abbrev IL (ns : List Int) : List V := ns.map V.int
abbrev dI (ns : List Int) : List PyData := ns.map PyData.int
theorem dp_ints {K : PySem.W.Frag} {H : Hp} : ∀ ns : List Int, DpAll K H (IL ns) (dI ns)
  | [] => .nil
  | x :: r => .cons (.int x) (dp_ints r)
theorem lay_ints : ∀ ns : List Int, PyData.canLayAll0 (dI ns) = true
  | [] => by simp [PyData.canLayAll0]
  | x :: r => by
    have := lay_ints r
    simp only [List.map_cons, PyData.canLayAll0, PyData.canLay0, this, Bool.and_self]
theorem depth_ints : ∀ ns : List Int, PyData.depthAll (dI ns) = 0
  | [] => by simp [PyData.depthAll]
  | x :: r => by
    have := depth_ints r
    simp only [List.map_cons, PyData.depthAll, PyData.depth, this]
    rfl
theorem shL (ns : List Int) : SeqAt.shaped (.list (dI ns)) = true := by
  unfold SeqAt.shaped
  simp only [PyData.canLay0, PyData.depth, lay_ints, depth_ints]
  decide
theorem shT (ns : List Int) : SeqAt.shaped (.tuple (dI ns)) = true := by
  unfold SeqAt.shaped
  simp only [PyData.canLay0, PyData.depth, lay_ints, depth_ints]
  decide
theorem eqv_ints : ∀ a b : List Int, PyData.eqvAll (dI a) (dI b) = decide (a = b)
  | [], [] => by simp [PyData.eqvAll]
  | [], _ :: _ => by simp [PyData.eqvAll]
  | _ :: _, [] => by simp [PyData.eqvAll]
  | x :: r, y :: t => by
    have ih := eqv_ints r t
    simp only [List.map_cons, PyData.eqvAll, PyData.eqv, ih]
    by_cases h : x = y
    · subst h
      by_cases h2 : r = t
      · subst h2; simp
      · simp [h2]
    · simp [h]
theorem eqvL (a b : List Int) : PyData.eqv (.list (dI a)) (.list (dI b)) = decide (a = b) := by
  simp only [PyData.eqv]; exact eqv_ints a b
theorem eqvT (a b : List Int) : PyData.eqv (.tuple (dI a)) (.tuple (dI b)) = decide (a = b) := by
  simp only [PyData.eqv]; exact eqv_ints a b
theorem sz {n : Nat} (h : n ≤ 100000) : n ≤ sizeLine := Nat.le_trans h (by decide)
theorem szl {n : Nat} (h : n < 100000) : n < sizeLine := Nat.lt_of_lt_of_le h (by decide)
theorem IL_get {ns : List Int} {i : Nat} {z : Int} (h : ns[i]? = some z) : (IL ns)[i]? = some (.int z) := by
  rw [List.getElem?_map, h]; rfl
theorem IL_set (ns : List Int) (i : Nat) (z : Int) : (IL ns).set i (.int z) = IL (ns.set i z) := by
  show (ns.map V.int).set i (V.int z) = (ns.set i z).map V.int
  rw [List.map_set]
theorem IL_app (ns : List Int) (z : Int) : (IL ns) ++ [.int z] = IL (ns ++ [z]) := by
  show ns.map V.int ++ [V.int z] = (ns ++ [z]).map V.int
  rw [List.map_append]; rfl
theorem at_lt {ns : List Int} {i : Int} (h0 : 0 ≤ i) (h1 : i < (ns.length : Int)) : ∃ z, ns[i.toNat]? = some z ∧ z ∈ ns ∧ atI (IL ns) i = some (.int z) := by
  have hl : i.toNat < ns.length := by omega
  refine ⟨ns[i.toNat], List.getElem?_eq_getElem hl, List.getElem_mem hl, ?_⟩
  exact at_of (j := i.toNat) (by omega) (IL_get (List.getElem?_eq_getElem hl))
theorem ix_ok {n : Nat} {i : Int} (h0 : 0 ≤ i) (h1 : i < (n : Int)) : ixN n i = some i.toNat := by
  unfold ixN; rw [if_pos h0, if_pos h1]
theorem IL_at {es : List Int} {i : Nat} {x : V} (h : (IL es)[i]? = some x) (hi : i < es.length) : x = .int es[i] := by
  rw [IL_get (List.getElem?_eq_getElem hi)] at h
  exact (Option.some.inj h).symm
theorem at_last {α : Type} {xs : List α} {i : Nat} {v : α} (h : xs.length = i + 1) (e : xs[i]? = some v) : atI xs (-1) = some v := by
  unfold atI ixN
  rw [if_neg (by decide), if_pos (by omega), h]
  show xs[((-1 : Int) + ((i + 1 : Nat) : Int)).toNat]? = some v
  rw [show ((-1 : Int) + ((i + 1 : Nat) : Int)).toNat = i by omega]; exact e
/-- all ints of ns lie in 0 .. n - 1 -/
def Low (n : Nat) (ns : List Int) : Prop := ∀ z ∈ ns, 0 ≤ z ∧ z < (n : Int)
theorem Low.app {n : Nat} {fs : List Int} {z : Int} (h : Low n fs) (h0 : 0 ≤ z) (h1 : z < (n : Int)) : Low n (fs ++ [z]) := fun y hy => by
  rcases List.mem_append.mp hy with h2 | h2
  · exact h y h2
  · rw [List.mem_singleton] at h2
    subst h2; exact ⟨h0, h1⟩
theorem Same.sb {b : Addr} {H H' : Hp} (h : Same H H') : Sb b H H' := fun a o _ e => h a o e
theorem same_new {H : Hp} {p : Addr} {o : HO} (h : H p = none) : Same H (upd H p o) := fun a u e => by
  rw [upd_ne (ne_of_none e h)]; exact e
theorem same_mut {H H' : Hp} {p : Addr} {o : HO} (s : Same H H') (h : H p = none) : Same H (upd H' p o) := fun a u e => by
  rw [upd_ne (ne_of_none e h)]; exact s a u e
/-- the module's names that are the built-ins' -/
structure Bi (mg : Str → Option Value) : Prop where
  len : mg "len" = none
  list : mg "list" = none
  tuple : mg "tuple" = none
  range : mg "range" = none
  enumerate : mg "enumerate" = none
  all : mg "all" = none
  isinstance : mg "isinstance" = none
  zip : mg "zip" = none
  abs : mg "abs" = none
  int : mg "int" = none
  str : mg "str" = none
  bool : mg "bool" = none
  repr : mg "repr" = none
  set : mg "set" = none
  min : mg "min" = none
  max : mg "max" = none
  sorted : mg "sorted" = none
  sum : mg "sum" = none
/-! the rules that speak of K, with K named (for use within comprehensions) -/
theorem len_K {X : Cx} {K : PySem.W.Frag} (e : X.K = K) : CallR X (.builtin "len") (fun xs H Q => ∃ p ys, xs = [.ref p] ∧ (SqL K H p ys ∨ SqT K H p ys) ∧ Q (.int ys.length) H) := e ▸ call_len_seq
theorem ixl_K {X : Cx} {K : PySem.W.Frag} (e : X.K = K) : IxR X (rIxL K) := e ▸ ix_list
theorem ixt_K {X : Cx} {K : PySem.W.Frag} (e : X.K = K) : IxR X (rIxT K) := e ▸ ix_tup
theorem eqD_K {X : Cx} {K : PySem.W.Frag} (e : X.K = K) (hu : X.A.units + 64 < cLine) : OpR X (compareOp .Eq) (rEqD K) := e ▸ op_eqD hu
theorem notIn_K {X : Cx} {K : PySem.W.Frag} (e : X.K = K) : OpR X (compareOp .NotIn) (rIn K true) := e ▸ op_notIn_seq
theorem isi_K {X : Cx} {K : PySem.W.Frag} (e : X.K = K) : CallR X (.builtin "isinstance") (rIsi K) := e ▸ call_isi
theorem pgtup_K {X : Cx} {K : PySem.W.Frag} {es : List Expr} {k : Nat} {t : TGs} {n : Nat} {pos : Pos} (e : X.K = K) (h : PG X (.Tuple es k pos) (gTup X.K n t)) : PG X (.Tuple es k pos) (gTup K n t) := e ▸ h
/-- a def that may be called -/
structure Cal (P : Program) (w : World) (K : PySem.W.Frag) (mg : Str → Option Value) (base : Heap) (x : Str) (k : Nat) (ps : List Str) (sp : Sp) (f : Addr) (fd : FuncData) : Prop where
  ok : FnOk P w K mg base CX0 k f fd ps sp
  g : mg x = some (.ref f)
  kp : PySem.W.keepIn K (.ref f) = true
  bd : Binds K fd ps []
section
variable {P : Program} {w : World} {K : PySem.W.Frag} {mg : Str → Option Value} {base : Heap}
theorem fn_or {k : Nat} {f : Addr} {fd : FuncData} {ps : List Str} {s1 s2 : Sp} (F1 : FnOk P w K mg base CX0 k f fd ps s1) (F2 : FnOk P w K mg base CX0 k f fd ps s2) : FnOk P w K mg base CX0 k f fd ps (fun vs H Q E => s1 vs H Q E ∨ s2 vs H Q E) :=
  ⟨fun vs H Q E h => h.elim (F1.len vs H Q E) (F2.len vs H Q E), fun A outer s H args us vs Q E hr he hb hv hs => hs.elim (F1.run A outer s H args us vs Q E hr he hb hv) (F2.run A outer s H args us vs Q E hr he hb hv)⟩
/-! ### _law_box -/
abbrev sBox : Stmt := topS 9
theorem scBox : FnScope ["_law_script", "_law_k", "_law_cell"] ["_law_script", "_law_k"] (defScope sBox) := ⟨rfl, rfl, rfl, by decide +kernel, rfl, by decide +kernel, by decide +kernel⟩
def spBox (K : PySem.W.Frag) : Sp := fun vs H Q _ => ∃ (a : Addr) (k : Int) (ns : List Int), vs = [.ref a, .int k] ∧ SqL K H a (IL ns) ∧ 0 ≤ k ∧ k ≤ 62 ∧
  ∀ H' p, Same H H' → H p = none → Box H' p 0 → Q (.ref p) H'
theorem ok_box {f : Addr} {fd : FuncData} {k : Nat} (F : Fun K "_law_box" "_law_box" sBox f fd) (B : Bi mg) : FnOk P w K mg base CX0 (k + 1) f fd ["_law_script", "_law_k"] (spBox K) := by
  refine F.ok scBox (fun vs H Q E h => ?_) (fun cdv A outer s H vs Q E hr h => ?_)
  · obtain ⟨a, k, ns, rfl, _⟩ := h
    rfl
  · obtain ⟨a, k, ns, rfl, hS, h0, h1, q⟩ := h
    refine ⟨_, pss_cons (ps_set (i := 2) scBox.nd rfl (.inl rfl) (pe_ifExp (pt_cmpR op_lt (pv 1) (pe_callB call_len_seq (by rfl) B.len PySem.boot_len (pa_cons (pv 0) pa_nil)) (nomark _)) (pe_ix ix_list (pv 0) (pv 1) (fun _ _ => rfl)) pe_int))
      (pss_one (ps_ret (pe_lst (pa_cons (pe_op op_mul (pe_callB call_abs (by rfl) B.abs (by decide +kernel) (pa_cons (pv 2) pa_nil)) (pe_callTy call_int1 (by rfl) B.int (by decide +kernel) (pa_cons (pe_cmpR op_ge (pe_callB call_abs (by rfl) B.abs (by decide +kernel) (pa_cons (pv 2) pa_nil)) (pe_op op_pow pe_int pe_int) (nomark _)) pa_nil)))
        (pa_cons (pe_op op_add (pe_op op_add (pe_op op_mod (pv 2) pe_int) (pe_op op_mul pe_int (pv 1))) pe_int) (pa_cons pe_int pa_nil)))))), ?_⟩
    have fin : ∀ z : Int, tRet (tLst (tCons (tOp (rI CMul fun i j => .int (i * j)) (tCB (fun xs H Q => ∃ i, xs = [.int i] ∧ Q (.int (if i < 0 then -i else i)) H) (tCons (tVar 2) tNil)) (tCB (fun xs H Q => (∃ i, xs = [.int i] ∧ Q (.int i) H) ∨ ∃ k, xs = [.bl k] ∧ Q (.int (if k then 1 else 0)) H) (tCons (tOp (rI0 fun i j => .bl (decide (j ≤ i))) (tCB (fun xs H Q => ∃ i, xs = [.int i] ∧ Q (.int (if i < 0 then -i else i)) H) (tCons (tVar 2) tNil)) (tOp (rI CPow fun i j => .int (i ^ j.toNat)) (tC (.int 10)) (tC (.int 18)))) tNil)))
        (tCons (tOp (rI0 fun i j => .int (i + j)) (tOp (rI0 fun i j => .int (i + j)) (tOp (rI (fun _ j => 0 < j) fun i j => .int (i % j)) (tVar 2) (tC (.int 2305843009213693951))) (tOp (rI CMul fun i j => .int (i * j)) (tC (.int 7919)) (tVar 1))) (tC (.int 23))) (tCons (tC (.int 0)) tNil)))) { nx := fun _ H' => Q .non H', rt := Q } [some (.ref a), some (.int k), some (.int z)] H := by
      intro z
      refine ⟨.int z, rfl, z, rfl, .int z, rfl, z, rfl, 10, 18, rfl, rfl, ⟨by decide, by decide, by decide⟩, _, _, rfl, rfl, .inr ⟨_, rfl, _, _, rfl, rfl, .inr ?_, ?_⟩⟩
      · split <;> (split <;> exact ⟨by decide, by decide⟩)
      · refine ⟨.int z, rfl, z, _, rfl, rfl, (by show (0 : Int) < 2305843009213693951; decide), .int k, rfl, 7919, k, rfl, rfl, .inl ⟨by decide, by decide⟩, _, _, rfl, rfl, _, 23, rfl, rfl, (by show 3 ≤ sizeLine; decide), fun p hp => ?_⟩
        refine q _ p (same_new hp) hp ⟨_, _, _, upd_same, ?_, ?_, ?_, by decide, by decide⟩
        · have h1 : (0 : Int) ≤ (if z < 0 then -z else z) := by split <;> omega
          refine Int.mul_nonneg h1 ?_
          split <;> (split <;> decide)
        · have := Int.emod_nonneg z (show (2305843009213693951 : Int) ≠ 0 by decide)
          omega
        · have := Int.emod_lt_of_pos z (show (0 : Int) < 2305843009213693951 by decide)
          omega
    refine ⟨.int k, rfl, .ref a, rfl, a, _, rfl, .inl hS, k, _, rfl, rfl, _, rfl, ite2 (fun e => ?_) (fun e => ?_)⟩
    · have e1 : k < ((IL ns).length : Int) := of_decide_eq_true e
      rw [List.length_map] at e1
      obtain ⟨z, _, _, hz⟩ := at_lt h0 e1
      refine ⟨.ref a, rfl, .int k, rfl, a, _, k, .int z, rfl, rfl, hS, hz, ?_⟩
      exact fin z
    · exact fin 0
/-! ### _law_of -/
abbrev sOf : Stmt := topS 12
theorem scOf : FnScope ["_law_box_here", "_law_some"] ["_law_box_here", "_law_some"] (defScope sOf) := ⟨rfl, rfl, rfl, by decide +kernel, rfl, by decide +kernel, by decide +kernel⟩
def spOf : Sp := fun vs H Q _ => ∃ (b a : Addr) (c : Nat) (xs : List V), vs = [.ref b, .ref a] ∧ a ≠ b ∧ H a = some (.lst xs) ∧ 1 ≤ xs.length ∧ xs.length ≤ 1000 ∧ Box H b c ∧ c ≤ 1000000000 ∧
  ∀ H' (j : Nat) (v : V), Sb b H H' → Box H' b (c + 1) → xs[j]? = some v → Q v H'
theorem ok_of {f fT : Addr} {fd fdT : FuncData} {k : Nat} (F : Fun K "_law_of" "_law_of" sOf f fd) (B : Bi mg) (T : Cal P w K mg base "_law_take" (k + 1) psT spTake fT fdT) : FnOk P w K mg base CX0 (k + 2) f fd ["_law_box_here", "_law_some"] spOf := by
  refine F.ok scOf (fun vs H Q E h => ?_) (fun cdv A outer s H vs Q E hr h => ?_)
  · obtain ⟨b, a, c, xs, rfl, _⟩ := h
    rfl
  · obtain ⟨b, a, c, xs, rfl, ne, ha, l1, l2, hB, hc, q⟩ := h
    refine ⟨_, pss_one (ps_ret (pe_ix ix_list (pv 1) (pe_call T.ok hr (by rfl) T.g T.kp T.bd .nil pass0 (pa_cons (pv 0) (pa_cons (pe_callB call_len_seq (by rfl) B.len PySem.boot_len (pa_cons (pv 1) pa_nil)) pa_nil))) (fun _ _ => rfl))), ?_⟩
    refine ⟨.ref a, rfl, .ref b, rfl, .ref a, rfl, a, xs, rfl, .inl (SqL.of ha), b, _, c, rfl, hB, hc, by omega, by omega, fun H' r sb hB' r0 r1 => ?_⟩
    have ha' : H' a = some (.lst xs) := sb a _ ne ha
    have hl : r.toNat < xs.length := by omega
    have g : xs[r.toNat]? = some xs[r.toNat] := List.getElem?_eq_getElem hl
    exact ⟨a, xs, r, _, rfl, rfl, SqL.of ha', at_of (j := r.toNat) (by omega) g, q H' r.toNat _ sb hB' g⟩
end
end Lp

namespace Lp
open PySem PySem.Spec PyProof.Rows L2
theorem cut_IL (ns : List Int) (lo hi : Option Int) : cutV (IL ns) lo hi = IL ((ns.drop (HT.sIx ns.length 0 lo)).take (HT.sIx ns.length ns.length hi - HT.sIx ns.length 0 lo)) := by
  unfold cutV
  show ((ns.map V.int).drop (HT.sIx (ns.map V.int).length 0 lo)).take (HT.sIx (ns.map V.int).length (ns.map V.int).length hi - HT.sIx (ns.map V.int).length 0 lo) = List.map V.int _
  rw [List.length_map, List.map_take, List.map_drop]
theorem sIx_int (n d : Nat) (k : Int) (h : 0 ≤ k) : HT.sIx n d (some k) = min k.toNat n := by
  have e : k = ((k.toNat : Nat) : Int) := by omega
  rw [e]; rw [HT.sIx_nat]; congr 1
section
variable {P : Program} {w : World} {K : PySem.W.Frag} {mg : Str → Option Value} {base : Heap}
/-! ### _law_cells -/
abbrev sCells : Stmt := topS 11
theorem scCells : FnScope ["_law_script", "_law_most", "_law_cells_here", "_law_k", "_law_cell"] ["_law_script", "_law_most"] (defScope sCells) := ⟨rfl, rfl, rfl, by decide +kernel, rfl, by decide +kernel, by decide +kernel⟩
def spCells (K : PySem.W.Frag) : Sp := fun vs H Q _ => ∃ (a : Addr) (m : Int) (ns : List Int), vs = [.ref a, .int m] ∧ SqL K H a (IL ns) ∧ 1 ≤ m ∧ m ≤ 60 ∧
  ∀ H' p (ms : List Int), Same H H' → H p = none → H' p = some (.lst (IL ms)) → 1 ≤ ms.length → (ms.length : Int) ≤ m → Q (.ref p) H'
theorem ok_cells {f : Addr} {fd : FuncData} {k : Nat} (F : Fun K "_law_cells" "_law_cells" sCells f fd) (B : Bi mg) : FnOk P w K mg base CX0 (k + 1) f fd ["_law_script", "_law_most"] (spCells K) := by
  refine F.ok scCells (fun vs H Q E h => ?_) (fun cdv A outer s H vs Q E hr h => ?_)
  · obtain ⟨a, m, ns, rfl, _⟩ := h
    rfl
  · obtain ⟨a, m, ns, rfl, hS, m1, m2, q⟩ := h
    refine ⟨_, pss_cons (ps_set (i := 2) scCells.nd rfl (.inl rfl) (pe_callTy call_list_of (by rfl) B.list (by decide +kernel) (pa_cons (pe_slice sl_list (pv 0) po_none (po_some (pv 1))) pa_nil)))
      (pss_cons (ps_for PassesOwn.never rfl (pi_enum (by rfl) B.enumerate (pa_cons (pe_slice sl_list (pv 0) (po_some (pv 1)) (po_some pe_int)) pa_nil))
          (pg_tup rfl (pgs_cons (pg_name (i := 3) scCells.nd rfl (.inl rfl)) (pgs_cons (pg_name (i := 4) scCells.nd rfl (.inl rfl)) pgs_nil)))
        (pss_one (ps_asg (pe_op op_add (pe_ix ix_list (pv 2) (pe_op op_mod (pv 3) (pv 1)) (fun _ _ => rfl)) (pe_op op_mul (pv 4) (pe_op op_add (pv 3) pe_int))) (pg_sub (pv 2) (pe_op op_mod (pv 3) (pv 1)) set_list))))
      (pss_one (ps_ret (pe_ifExp (pt_cmpR (op_neD hr.units) (pv 2) (pe_lst pa_nil) (nomark _)) (pv 2) (pe_lst (pa_cons pe_int pa_nil)))))), ?_⟩
    refine ⟨.ref a, rfl, .int m, rfl, m, rfl, a, _, rfl, hS, fun c nc => ?_⟩
    rw [cut_IL]
    refine ⟨c, _, rfl, .inl (SqL.of upd_same), fun o no => ?_⟩
    have s1 := same_new (o := HO.lst (IL ((ns.drop (HT.sIx ns.length 0 none)).take (HT.sIx ns.length ns.length (some m) - HT.sIx ns.length 0 none)))) nc
    have s2 := s1.trans (same_new (o := HO.lst (IL ((ns.drop (HT.sIx ns.length 0 none)).take (HT.sIx ns.length ns.length (some m) - HT.sIx ns.length 0 none)))) no)
    have n0 : H o = none := s1.free no
    refine ⟨.ref a, rfl, .int m, rfl, m, rfl, 63, rfl, a, _, rfl, s2.seq hS, fun e ne => ?_⟩
    rw [cut_IL]
    generalize hms : (ns.drop (HT.sIx ns.length 0 none)).take (HT.sIx ns.length ns.length (some m) - HT.sIx ns.length 0 none) = ms0
    generalize hes : (ns.drop (HT.sIx ns.length 0 (some m))).take (HT.sIx ns.length ns.length (some 63) - HT.sIx ns.length 0 (some m)) = es
    have hl0 : ms0.length = min m.toNat ns.length := by
      rw [← hms, List.length_take, List.length_drop, HT.sIx_none, sIx_int _ _ _ (by omega)]
      omega
    have hle : 0 < es.length → m.toNat < ns.length := by
      rw [← hes, List.length_take, List.length_drop, sIx_int _ _ m (by omega), sIx_int _ _ 63 (by omega)]
      omega
    have nee : o ≠ e := fun z => by
      rw [← z, upd_same] at ne
      cases ne
    have s3 := s2.trans (same_new (o := HO.lst (IL es)) ne)
    rw [hms] at s3
    refine ⟨e, _, rfl, SqL.of upd_same, ?_⟩
    refine for_it (walk_enum (K := K) (a := e) (xs := IL es)) (fun _ σ H3 => ∃ y3 y4 ms, σ = [some (.ref a), some (.int m), some (.ref o), y3, y4] ∧ Same H H3 ∧ H3 e = some (.lst (IL es)) ∧ H3 o = some (.lst (IL ms)) ∧ ms.length = min m.toNat ns.length) ?_ ?_ ?_ ?_
    · refine ⟨none, none, ms0, rfl, s3, upd_same, ?_, hl0⟩
      rw [upd_ne nee, upd_same]
    · rintro i σ H3 _ ⟨y3, y4, ms, rfl, _, he, _⟩
      exact SqL.of he
    · rintro i x σ H3 H4 hi ⟨y3, y4, ms, rfl, sm, he, ho, hl⟩ ⟨T, x1, x2, rfl, nT, rfl, hx1, hx2⟩
      cases hx1
      have hi' : i < es.length := by rw [List.length_map] at hi; exact hi
      have hx2' : x2 = .int es[i] := IL_at hx2 hi'
      subst hx2'
      have hml : (ms.length : Int) = m := by have := hle (by omega); omega
      have ho' : (upd H3 T (.tup [.int (i : Nat), .int es[i]])) o = some (.lst (IL ms)) := by rw [upd_ne (ne_of_none ho nT)]; exact ho
      have r0 : 0 ≤ (i : Int) % m := Int.emod_nonneg _ (by omega)
      have r1 : (i : Int) % m < (ms.length : Int) := by rw [hml]; exact Int.emod_lt_of_pos _ (by omega)
      obtain ⟨z, _, _, hz⟩ := at_lt r0 r1
      refine ⟨T, _, rfl, SqT.of upd_same, rfl, _, _, rfl, _, _, rfl, rfl, ?_⟩
      refine ⟨.ref o, rfl, .int i, rfl, .int m, rfl, i, m, rfl, rfl, (by show (0 : Int) < m; omega), o, _, _, .int z, rfl, rfl, SqL.of ho', hz, .int es[i], rfl, .int i, rfl, i, 2, rfl, rfl, es[i], _, rfl, rfl, .inr ⟨by omega, ?_⟩, z, _, rfl, rfl, ?_⟩
      · show (i : Int) + 2 < 2 ^ 64
        have : (es.length : Int) ≤ 63 := by
          have : es.length ≤ 63 := by rw [← hes, List.length_take, List.length_drop, sIx_int _ _ m (by omega), sIx_int _ _ 63 (by omega)]; omega
          omega
        omega
      · refine ⟨.ref o, rfl, .int i, rfl, .int m, rfl, i, m, rfl, rfl, (by show (0 : Int) < m; omega), o, _, _, ((i : Int) % m).toNat, rfl, rfl, ho', ?_, ?_⟩
        · rw [List.length_map]; exact ix_ok r0 r1
        · rw [IL_set]
          refine ⟨_, _, _, rfl, ?_, ?_, upd_same, ?_⟩
          · exact same_mut (sm.trans (same_new nT)) n0
          · rw [upd_ne (Ne.symm nee), upd_ne (ne_of_none he nT)]; exact he
          · rw [List.length_set]; exact hl
    · rintro σ H3 ⟨y3, y4, ms, rfl, sm, he, ho, hl⟩
      refine ⟨.ref o, rfl, Nat.zero_le _, fun z nz => ?_⟩
      have ho2 : (upd H3 z (.lst [])) o = some (.lst (IL ms)) := by rw [upd_ne (ne_of_none ho nz)]; exact ho
      refine ⟨.list (dI ms), .list (dI []), .lst (SqL.of ho2) (dp_ints ms), .lst (SqL.of upd_same) (dp_ints []), shL ms, shL [], _, rfl, ?_⟩
      rw [eqvL]
      cases ms with
      | nil =>
        refine iteF ⟨by show 1 ≤ sizeLine; decide, fun p np => ?_⟩
        refine q _ p [0] ?_ ?_ upd_same (by decide) (by show (1 : Int) ≤ m; omega)
        · exact (sm.trans (same_new nz)).trans (same_new np)
        · exact (sm.trans (same_new nz)).free np
      | cons x r =>
        refine iteT ⟨.ref o, rfl, q _ o (x :: r) (sm.trans (same_new nz)) n0 ho2 ?_ ?_⟩
        · show 1 ≤ r.length + 1; omega
        · omega
end
end Lp

namespace Lp
open PySem PySem.Spec PyProof.Rows L2
theorem erase_IL : ∀ (ns : List Int) (i : Nat), (IL ns).eraseIdx i = IL (ns.eraseIdx i)
  | [], _ => rfl
  | _ :: _, 0 => rfl
  | x :: r, i + 1 => by
    show V.int x :: (IL r).eraseIdx i = V.int x :: IL (r.eraseIdx i)
    rw [erase_IL r i]
section
variable {P : Program} {w : World} {K : PySem.W.Frag} {mg : Str → Option Value} {base : Heap}
/-! ### _law_strewn -/
abbrev sStrewn : Stmt := topS 13
theorem scStrewn : FnScope ["_law_box_here", "_law_some", "_law_left", "_law_found"] ["_law_box_here", "_law_some"] (defScope sStrewn) := ⟨rfl, rfl, rfl, by decide +kernel, rfl, by decide +kernel, by decide +kernel⟩
def spStrewn : Sp := fun vs H Q _ => ∃ (b a : Addr) (c : Nat) (ns : List Int), vs = [.ref b, .ref a] ∧ a ≠ b ∧ H a = some (.lst (IL ns)) ∧ ns.length ≤ 1000 ∧ Box H b c ∧ c + 1000 ≤ 1000000000 ∧
  ∀ H' p (ms : List Int), Sb b H H' → H p = none → H' p = some (.lst (IL ms)) → ms.length = ns.length → (∀ z ∈ ms, z ∈ ns) → Box H' b (c + 1000) → Q (.ref p) H'
theorem ok_strewn {f fT : Addr} {fd fdT : FuncData} {k : Nat} (F : Fun K "_law_strewn" "_law_strewn" sStrewn f fd) (B : Bi mg) (T : Cal P w K mg base "_law_take" (k + 1) psT spTake fT fdT) : FnOk P w K mg base CX0 (k + 2) f fd ["_law_box_here", "_law_some"] spStrewn := by
  refine F.ok scStrewn (fun vs H Q E h => ?_) (fun cdv A outer s H vs Q E hr h => ?_)
  · obtain ⟨b, a, c, ns, rfl, _⟩ := h
    rfl
  · obtain ⟨b, a, c, ns, rfl, ne, ha, hl, hB, hc, q⟩ := h
    refine ⟨_, pss_cons (ps_par (i := 2) (j := 3) (by rfl) scStrewn.nd rfl rfl (by decide) rfl rfl (pa_cons (pe_callTy call_list_of (by rfl) B.list (by decide +kernel) (pa_cons (pv 1) pa_nil)) (pa_cons (pe_lst pa_nil) pa_nil)) (by rfl))
      (pss_cons (ps_while PassesOwn.never (pt_cmpR (op_neD hr.units) (pv 2) (pe_lst pa_nil) (nomark _))
        (pss_one (ps_expr (pe_bm PySem.F.plainAttrs_list PySem.F.slot_list_append PySem.F.type_list_append mt_append (pv 3) (pa_cons (pe_bm PySem.F.plainAttrs_list PySem.F.slot_list_pop PySem.F.type_list_pop mt_popAt (pv 2) (pa_cons (pe_call T.ok hr (by rfl) T.g T.kp T.bd .nil pass0 (pa_cons (pv 0) (pa_cons (pe_callB call_len_seq (by rfl) B.len PySem.boot_len (pa_cons (pv 2) pa_nil)) pa_nil))) pa_nil)) pa_nil)))))
      (pss_one (ps_ret (pv 3)))), ?_⟩
    refine ⟨.ref a, rfl, a, IL ns, rfl, .inl (SqL.of ha), fun l nl => ⟨Nat.zero_le _, fun o no => ⟨.ref l, .ref o, rfl, ?_⟩⟩⟩
    obtain ⟨bx, hb⟩ := hB.there
    have lb : b ≠ l := ne_of_none hb nl
    have n0 : H o = none := (same_new nl).free no
    have ob : b ≠ o := ne_of_none hb n0
    have lo : l ≠ o := fun z => by
      rw [← z, upd_same] at no
      cases no
    have sB : Sb b H (upd (upd H l (.lst (IL ns))) o (.lst [])) := Same.sb ((same_new nl).trans (same_new no))
    refine ⟨fun m σ H3 => ∃ ls fs, σ = [some (.ref b), some (.ref a), some (.ref l), some (.ref o)] ∧ Sb b H H3 ∧ H3 l = some (.lst (IL ls)) ∧ H3 o = some (.lst (IL fs)) ∧ ls.length = m ∧ ls.length + fs.length = ns.length ∧ (∀ z ∈ ls, z ∈ ns) ∧ (∀ z ∈ fs, z ∈ ns) ∧ Box H3 b (c + fs.length), ⟨ns.length, ns, [], rfl, sB, ?_, ?_, rfl, by simp, fun z h => h, (fun z h => nomatch h), ?_⟩, ?_⟩
    · rw [upd_ne lo, upd_same]
    · rw [upd_same]; rfl
    · obtain ⟨x0, x1, x2, e, r⟩ := hB
      refine ⟨x0, x1, x2, ?_, r⟩
      rw [upd_ne ob, upd_ne lb]; exact e
    · rintro m σ H3 ⟨ls, fs, rfl, sb, hl3, ho3, em, el, hls, hfs, hB3⟩
      refine ⟨.ref l, rfl, Nat.zero_le _, fun z nz => ?_⟩
      have hl4 : (upd H3 z (.lst [])) l = some (.lst (IL ls)) := by rw [upd_ne (ne_of_none hl3 nz)]; exact hl3
      have ho4 : (upd H3 z (.lst [])) o = some (.lst (IL fs)) := by rw [upd_ne (ne_of_none ho3 nz)]; exact ho3
      have hB4 : Box (upd H3 z (.lst [])) b (c + fs.length) := by
        obtain ⟨x0, x1, x2, e, r⟩ := hB3
        refine ⟨x0, x1, x2, ?_, r⟩
        rw [upd_ne (ne_of_none e nz)]; exact e
      have sb4 : Sb b H (upd H3 z (.lst [])) := sb.trans (Sb.new nz)
      refine ⟨.list (dI ls), .list (dI []), .lst (SqL.of hl4) (dp_ints ls), .lst (SqL.of upd_same) (dp_ints []), shL ls, shL [], _, rfl, ?_⟩
      rw [eqvL]
      rcases ls with _ | ⟨x, r⟩
      · refine iteF ⟨.ref o, rfl, q _ o fs sb4 n0 ho4 (by simpa using el) hfs (hB4.le (by simp at el; omega))⟩
      · refine iteT ⟨fun σ' H' => ∃ ls fs, σ' = [some (.ref b), some (.ref a), some (.ref l), some (.ref o)] ∧ Sb b H H' ∧ H' l = some (.lst (IL ls)) ∧ H' o = some (.lst (IL fs)) ∧ ls.length + 1 = m ∧ ls.length + fs.length = ns.length ∧ (∀ z ∈ ls, z ∈ ns) ∧ (∀ z ∈ fs, z ∈ ns) ∧ Box H' b (c + fs.length), fun σ' H' h => ?_, ?_⟩
        · obtain ⟨ls, fs, e1, e2, e3, e4, e5, e6⟩ := h
          exact ⟨m - 1, by omega, ls, fs, e1, e2, e3, e4, by omega, e6⟩
        · have hxl : (x :: r).length = r.length + 1 := rfl
          refine ⟨.ref o, rfl, .inl ⟨rfl, _, SqL.of ho4⟩, .ref l, rfl, .inl ⟨rfl, _, SqL.of hl4⟩, .ref b, rfl, .ref l, rfl, l, _, rfl, .inl (SqL.of hl4), b, _, c + fs.length, rfl, hB4, by omega, ?_, ?_, fun H' r' sb5 hB5 r0 r1 => ?_⟩
          · rw [List.length_map]; omega
          · rw [List.length_map]; omega
          · rw [List.length_map] at r1
            have hl5 := sb5 l _ (Ne.symm lb) hl4
            have ho5 := sb5 o _ (Ne.symm ob) ho4
            have hlt : r'.toNat < (x :: r).length := by omega
            have g : (x :: r)[r'.toNat]? = some (x :: r)[r'.toNat] := List.getElem?_eq_getElem hlt
            refine ⟨l, _, r', r'.toNat, .int (x :: r)[r'.toNat], rfl, rfl, hl5, by omega, by omega, ?_, IL_get g, ?_⟩
            · rw [List.length_map]; exact (ixN_seq (ix_ok r0 r1)).1
            · refine ⟨o, _, _, rfl, rfl, (by rw [upd_ne (Ne.symm lo)]; exact ho5), ?_, ?_⟩
              · rw [List.length_map]; exact szl (by omega)
              · refine ⟨(x :: r).eraseIdx r'.toNat, fs ++ [(x :: r)[r'.toNat]], rfl, ?_, ?_, ?_, ?_, ?_, ?_, ?_, ?_⟩
                · intro a' o' na e'
                  have h1 : a' ≠ l := ne_of_none e' nl
                  have h2 : a' ≠ o := ne_of_none e' n0
                  rw [upd_ne h2, upd_ne h1]
                  exact sb5 a' _ na (sb4 a' _ na e')
                · rw [upd_ne lo, upd_same]
                  show some (HO.lst ((List.map V.int (x :: r)).eraseIdx r'.toNat)) = some (HO.lst (List.map V.int ((x :: r).eraseIdx r'.toNat)))
                  exact congrArg (fun t => some (HO.lst t)) (erase_IL (x :: r) r'.toNat)
                · rw [upd_same, IL_app]
                · rw [List.length_eraseIdx, if_pos hlt]; omega
                · rw [List.length_eraseIdx, if_pos hlt, List.length_append]
                  show (x :: r).length - 1 + (fs.length + 1) = ns.length
                  omega
                · intro z hz
                  exact hls z (List.mem_of_mem_eraseIdx hz)
                · intro z hz
                  rcases List.mem_append.mp hz with h | h
                  · exact hfs z h
                  · rw [List.mem_singleton] at h
                    rw [h]; exact hls _ (List.getElem_mem hlt)
                · obtain ⟨x0, x1, x2, e, r⟩ := hB5
                  refine ⟨x0, x1, x2, ?_, ?_⟩
                  · rw [upd_ne ob, upd_ne lb]; exact e
                  · rw [List.length_append]; exact r
/-! ### _law_part -/
abbrev sPart : Stmt := topS 15
theorem scPart : FnScope ["_law_box_here", "_law_size", "_law_sort", "_law_ringed", "_law_found", "_law_who"] ["_law_box_here", "_law_size"] (defScope sPart) := ⟨rfl, rfl, rfl, by decide +kernel, rfl, by decide +kernel, by decide +kernel⟩
def spPart : Sp := fun vs H Q _ => ∃ (b : Addr) (size : Int) (c : Nat), vs = [.ref b, .int size] ∧ 1 ≤ size ∧ size ≤ 64 ∧ Box H b c ∧ c + 1000 ≤ 1000000000 ∧
  ∀ H' p (ms : List Int), Sb b H H' → H p = none → H' p = some (.lst (IL ms)) → (ms.length : Int) = size → Low ms.length ms → Box H' b (c + 2 + ms.length) → Q (.ref p) H'
theorem pick5 {size r sort : Int} (h0 : 0 ≤ sort) (h1 : sort < 5) (hs : 1 ≤ size) (r0 : 0 ≤ r) (r1 : r < size) : ∃ g, atI [V.int 0, V.int 1, V.int size, V.int (1 + r), V.int 1] sort = some (.int g) ∧ (sort ≠ 0 → 1 ≤ g ∧ g ≤ size) := by
  have : sort = 0 ∨ sort = 1 ∨ sort = 2 ∨ sort = 3 ∨ sort = 4 := by omega
  rcases this with rfl | rfl | rfl | rfl | rfl
  · exact ⟨0, rfl, fun h => absurd rfl h⟩
  · exact ⟨1, rfl, fun _ => ⟨by omega, by omega⟩⟩
  · exact ⟨size, rfl, fun _ => ⟨by omega, by omega⟩⟩
  · exact ⟨1 + r, rfl, fun _ => ⟨by omega, by omega⟩⟩
  · exact ⟨1, rfl, fun _ => ⟨by omega, by omega⟩⟩
theorem ok_part {f fT : Addr} {fd fdT : FuncData} {k : Nat} (F : Fun K "_law_part" "_law_part" sPart f fd) (B : Bi mg) (T : Cal P w K mg base "_law_take" (k + 1) psT spTake fT fdT) : FnOk P w K mg base CX0 (k + 2) f fd ["_law_box_here", "_law_size"] spPart := by
  refine F.ok scPart (fun vs H Q E h => ?_) (fun cdv A outer s H vs Q E hr h => ?_)
  · obtain ⟨b, size, c, rfl, _⟩ := h
    rfl
  · obtain ⟨b, size, c, rfl, s1, s2, hB, hc, q⟩ := h
    refine ⟨_, pss_cons (ps_set (i := 2) scPart.nd rfl (.inl rfl) (pe_call T.ok hr (by rfl) T.g T.kp T.bd .nil pass0 (pa_cons (pv 0) (pa_cons pe_int pa_nil))))
      (pss_cons (ps_par (i := 3) (j := 4) (by rfl) scPart.nd rfl rfl (by decide) rfl rfl (pa_cons (pe_ix ix_list (pe_lst (pa_cons pe_int (pa_cons pe_int (pa_cons (pv 1) (pa_cons (pe_op op_add pe_int (pe_call T.ok hr (by rfl) T.g T.kp T.bd .nil pass0 (pa_cons (pv 0) (pa_cons (pv 1) pa_nil)))) (pa_cons pe_int pa_nil)))))) (pv 2) (fun _ _ => rfl)) (pa_cons (pe_lst pa_nil) pa_nil)) (by rfl))
      (pss_cons (ps_for PassesOwn.never rfl (pi_range1 (by rfl) B.range (pa_cons (pv 1) pa_nil)) (pg_name (i := 5) scPart.nd rfl (.inl rfl))
        (pss_one (ps_if (pt_cmpR op_eq (pv 2) pe_int (nomark _))
          (pss_one (ps_expr (pe_bm PySem.F.plainAttrs_list PySem.F.slot_list_append PySem.F.type_list_append mt_append (pv 4) (pa_cons (pe_call T.ok hr (by rfl) T.g T.kp T.bd .nil pass0 (pa_cons (pv 0) (pa_cons (pv 1) pa_nil))) pa_nil))))
          (pss_one (ps_if (pt_cmpR op_lt (pv 5) (pv 3) (nomark _))
            (pss_one (ps_expr (pe_bm PySem.F.plainAttrs_list PySem.F.slot_list_append PySem.F.type_list_append mt_append (pv 4) (pa_cons (pe_op op_mod (pe_op op_add (pv 5) pe_int) (pv 3)) pa_nil))))
            (pss_one (ps_expr (pe_bm PySem.F.plainAttrs_list PySem.F.slot_list_append PySem.F.type_list_append mt_append (pv 4) (pa_cons (pe_ifExp (pt_cmpR op_eq (pv 2) pe_int (nomark _)) (pe_op op_sub (pv 5) pe_int) (pe_call T.ok hr (by rfl) T.g T.kp T.bd .nil pass0 (pa_cons (pv 0) (pa_cons (pv 5) pa_nil)))) pa_nil)))))))))
      (pss_one (ps_ret (pv 4))))), ?_⟩
    obtain ⟨bx, hb⟩ := hB.there
    refine ⟨.ref b, rfl, b, 5, c, rfl, hB, by omega, by omega, by omega, fun H1 sort sb1 hB1 t0 t1 => ?_⟩
    refine ⟨.int size, rfl, .ref b, rfl, .int size, rfl, b, size, c + 1, rfl, hB1, by omega, by omega, by omega, fun H2 r sb2 hB2 r0 r1 => ?_⟩
    refine ⟨1, r, rfl, rfl, (by show 5 ≤ sizeLine; decide), fun p np => ?_⟩
    obtain ⟨g, hg, hgs⟩ := pick5 t0 t1 s1 r0 r1
    refine ⟨.int sort, rfl, p, _, sort, .int g, rfl, rfl, SqL.of upd_same, hg, Nat.zero_le _, fun o no => ⟨_, _, rfl, ?_⟩⟩
    have hB3 : Box (upd (upd H2 p (.lst [V.int 0, V.int 1, V.int size, V.int (1 + r), V.int 1])) o (.lst [])) b (c + 2) := by
      obtain ⟨x0, x1, x2, e, rr⟩ := hB2
      refine ⟨x0, x1, x2, ?_, rr⟩
      have e1 : (upd H2 p (.lst [V.int 0, V.int 1, V.int size, V.int (1 + r), V.int 1])) b = some (.lst [V.int x0, V.int x1, V.int x2]) := by rw [upd_ne (ne_of_none e np)]; exact e
      rw [upd_ne (ne_of_none e1 no)]; exact e1
    have sb3 : Sb b H (upd (upd H2 p (.lst [V.int 0, V.int 1, V.int size, V.int (1 + r), V.int 1])) o (.lst [])) := ((sb1.trans sb2).trans (Sb.new np)).trans (Sb.new no)
    have n2 : H2 o = none := (same_new np).free no
    have n0 : H o = none := (sb1.trans sb2).free hB2 n2
    have ob : b ≠ o := ne_of_none hb n0
    refine ⟨.int size, rfl, size, rfl, by omega, by omega, ?_⟩
    refine for_it (walk_range (lo := 0) (n := size.toNat)) (fun i σ H3 => ∃ y5 fs, σ = [some (.ref b), some (.int size), some (.int sort), some (.int g), some (.ref o), y5] ∧ Sb b H H3 ∧ H3 o = some (.lst (IL fs)) ∧ fs.length = i ∧ Low size.toNat fs ∧ Box H3 b (c + 2 + i)) ?_ ?_ ?_ ?_
    · exact ⟨none, [], rfl, sb3, upd_same, rfl, fun z h => (nomatch h), hB3⟩
    · intros; trivial
    · rintro i x σ H0 H3 hi ⟨y5, fs, rfl, sb, ho, el, lo, hB3⟩ ⟨rfl, rfl⟩
      have fin : ∀ (v : Int) (H4 : Hp) (y : Option V), Sb b H3 H4 → Box H4 b (c + 2 + (i + 1)) → 0 ≤ v → v < size → rAppend (.ref o) [.int v] H4 fun _ H5 => ∃ y5 fs, [some (V.ref b), some (.int size), some (.int sort), some (.int g), some (.ref o), y] = [some (.ref b), some (.int size), some (.int sort), some (.int g), some (.ref o), y5] ∧ Sb b H H5 ∧ H5 o = some (.lst (IL fs)) ∧ fs.length = i + 1 ∧ Low size.toNat fs ∧ Box H5 b (c + 2 + (i + 1)) := by
        intro v H4 y sb4 hB4 v0 v1
        have ho4 := sb4 o _ (Ne.symm ob) ho
        refine ⟨o, _, _, rfl, rfl, ho4, ?_, y, fs ++ [v], rfl, ?_, ?_, ?_, ?_, ?_⟩
        · rw [List.length_map]; exact szl (by omega)
        · intro a' o' na e'
          rw [upd_ne (ne_of_none e' n0)]
          exact sb4 a' _ na (sb a' _ na e')
        · rw [upd_same, IL_app]
        · rw [List.length_append, el]; rfl
        · exact lo.app v0 (by omega)
        · obtain ⟨x0, x1, x2, e, r⟩ := hB4
          exact ⟨x0, x1, x2, by rw [upd_ne ob]; exact e, r⟩
      have hi2 : (i : Int) < size := by omega
      refine ⟨.int sort, rfl, rfl, _, rfl, ite2 (fun e => ?_) (fun e => ?_)⟩
      · refine ⟨.ref o, rfl, .inl ⟨rfl, _, SqL.of ho⟩, .ref b, rfl, .int size, rfl, b, size, c + 2 + i, rfl, hB3, by omega, by omega, by omega, fun H5 v sb5 hB5 v0 v1 => ?_⟩
        exact fin v H5 _ sb5 hB5 v0 v1
      · have ns : sort ≠ 0 := fun z => e (by rw [z]; rfl)
        obtain ⟨g1, g2⟩ := hgs ns
        refine ⟨.int (0 + i), rfl, .int g, rfl, _, _, rfl, rfl, _, rfl, ite2 (fun e2 => ?_) (fun e2 => ?_)⟩
        · refine ⟨.ref o, rfl, .inl ⟨rfl, _, SqL.of ho⟩, .int (0 + i), rfl, _, 1, rfl, rfl, .int g, rfl, _, g, rfl, rfl, (by show (0 : Int) < g; omega), ?_⟩
          have m1 := Int.emod_lt_of_pos (0 + (i : Int) + 1) (show (0 : Int) < g by omega)
          exact fin _ H3 _ (Sb.refl b H3) (hB3.le (by omega)) (Int.emod_nonneg _ (by omega)) (by omega)
        · have e3 : ¬ ((0 : Int) + i < g) := fun z => e2 (decide_eq_true z)
          refine ⟨.ref o, rfl, .inl ⟨rfl, _, SqL.of ho⟩, .int sort, rfl, rfl, _, rfl, ite2 (fun e4 => ?_) (fun e4 => ?_)⟩
          · refine ⟨.int (0 + i), rfl, _, 1, rfl, rfl, ?_⟩
            exact fin _ H3 _ (Sb.refl b H3) (hB3.le (by omega)) (by omega) (by omega)
          · refine ⟨.ref b, rfl, .int (0 + i), rfl, b, _, c + 2 + i, rfl, hB3, by omega, by omega, by omega, fun H5 v sb5 hB5 v0 v1 => ?_⟩
            exact fin v H5 _ sb5 hB5 v0 (by omega)
    · rintro σ H3 ⟨y5, fs, rfl, sb, ho, el, lo, hB3⟩
      refine ⟨.ref o, rfl, q H3 o fs sb n0 ho (by omega) ?_ ?_⟩
      · rw [el]; exact lo
      · rw [el]; exact hB3
end
end Lp

namespace Lp
open PySem PySem.Spec PyProof.Rows L2
/-- the ints 0 .. n - 1 -/
def upto (n : Nat) : List Int := (List.range n).map fun i => (0 : Int) + (i : Nat)
theorem rg_upto (n : Int) : rgV 0 n = IL (upto n.toNat) := by
  unfold rgV upto
  show _ = List.map V.int _
  rw [List.map_map, Int.sub_zero]; rfl
theorem upto_len (n : Nat) : (upto n).length = n := by unfold upto; rw [List.length_map, List.length_range]
theorem upto_mem {n : Nat} {z : Int} (h : z ∈ upto n) : 0 ≤ z ∧ z < (n : Int) := by
  unfold upto at h
  obtain ⟨i, hi, e⟩ := List.mem_map.mp h
  have := List.mem_range.mp hi
  omega
theorem rep_zero (n : Nat) : (List.replicate n [V.int 0]).flatten = IL (List.replicate n 0) := by
  induction n with
  | zero => rfl
  | succ n ih =>
    rw [List.replicate_succ, List.replicate_succ, List.flatten_cons, ih]; rfl
theorem low_zero {n : Nat} (h : 1 ≤ n) : Low n (List.replicate n 0) := fun z hz => by
  have := List.eq_of_mem_replicate hz
  omega
theorem Low.set {n : Nat} {fs : List Int} {z : Int} {i : Nat} (h : Low n fs) (h0 : 0 ≤ z) (h1 : z < (n : Int)) : Low n (fs.set i z) := fun y hy => by
  rcases List.mem_or_eq_of_mem_set hy with h2 | h2
  · exact h y h2
  · subst h2; exact ⟨h0, h1⟩
theorem Low.at {n : Nat} {fs : List Int} {z : Int} {i : Nat} (h : Low n fs) (e : fs[i]? = some z) : 0 ≤ z ∧ z < (n : Int) := h z (List.mem_of_getElem? e)
theorem Box.put {H : Hp} {b p : Addr} {c : Nat} {o : HO} (h : Box H b c) (n : b ≠ p) : Box (upd H p o) b c := by
  obtain ⟨x0, x1, x2, e, rr⟩ := h
  exact ⟨x0, x1, x2, by rw [upd_ne n]; exact e, rr⟩
theorem Box.new {H : Hp} {b p : Addr} {c : Nat} {o : HO} (h : Box H b c) (n : H p = none) : Box (upd H p o) b c := by
  obtain ⟨_, e⟩ := h.there
  exact h.put (ne_of_none e n)
theorem Box.ne {H : Hp} {b p : Addr} {c : Nat} (h : Box H b c) (n : H p = none) : b ≠ p := by
  obtain ⟨_, e⟩ := h.there
  exact ne_of_none e n
theorem upd_keep {H : Hp} {a p : Addr} {o u : HO} (h : H a = some o) (n : H p = none) : upd H p u a = some o := by
  rw [upd_ne (ne_of_none h n)]; exact h
theorem Sb.mut {b p : Addr} {H H' : Hp} {o : HO} (h : Sb b H H') (n : H p = none) : Sb b H (L2.upd H' p o) := fun a u na e => by
  rw [upd_ne (ne_of_none e n)]; exact h a u na e
theorem yes_ok {te : TE} {σ : L2.St} {H : Hp} {R : V → Hp → Prop} {S : Hp → Prop} (h : te σ H R) : tYes σ H fun b H3 => if b = true then te σ H3 R else S H3 :=
  iteT (B := S H) h
section
variable {P : Program} {w : World} {K : PySem.W.Frag} {mg : Str → Option Value} {base : Heap}
/-! ### _law_mixed -/
abbrev sMixed : Stmt := topS 16
theorem scMixed : FnScope ["_law_box_here", "_law_found", "_law_tags", "_law_here", "_law_who", "_law_aim"] ["_law_box_here", "_law_found"] (defScope sMixed) := ⟨rfl, rfl, rfl, by decide +kernel, rfl, by decide +kernel, by decide +kernel⟩
def spMixed : Sp := fun vs H Q _ => ∃ (b a : Addr) (c : Nat) (ns : List Int), vs = [.ref b, .ref a] ∧ a ≠ b ∧ H a = some (.lst (IL ns)) ∧ 1 ≤ ns.length ∧ ns.length ≤ 64 ∧ Low ns.length ns ∧ Box H b c ∧ c + 1000 ≤ 1000000000 ∧
  ∀ H' p (ms : List Int), Sb b H H' → H p = none → H' p = some (.tup (IL ms)) → ms.length = ns.length → Low ns.length ms → Box H' b (c + 1000) → Q (.ref p) H'
theorem ok_mixed {f fS : Addr} {fd fdS : FuncData} {k : Nat} (F : Fun K "_law_mixed" "_law_mixed" sMixed f fd) (B : Bi mg) (S : Cal P w K mg base "_law_strewn" (k + 1) ["_law_box_here", "_law_some"] spStrewn fS fdS) : FnOk P w K mg base CX0 (k + 2) f fd ["_law_box_here", "_law_found"] spMixed := by
  refine F.ok scMixed (fun vs H Q E h => ?_) (fun cdv A outer s H vs Q E hr h => ?_)
  · obtain ⟨b, a, c, ns, rfl, _⟩ := h
    rfl
  · obtain ⟨b, a, c, ns, rfl, ne, ha, l1, l2, lo, hB, hc, q⟩ := h
    refine ⟨_, pss_cons (ps_par (i := 2) (j := 3) (by rfl) scMixed.nd rfl rfl (by decide) rfl rfl (pa_cons (pe_call S.ok hr (by rfl) S.g S.kp S.bd .nil pass0 (pa_cons (pv 0) (pa_cons (pe_listRg rfl (by rfl) B.list (prg_1 (by rfl) B.range (pe_callB call_len_seq (by rfl) B.len PySem.boot_len (pa_cons (pv 1) pa_nil)))) pa_nil)))
        (pa_cons (pe_op op_rep (pe_lst (pa_cons pe_int pa_nil)) (pe_callB call_len_seq (by rfl) B.len PySem.boot_len (pa_cons (pv 1) pa_nil))) pa_nil)) (by rfl))
      (pss_cons (ps_for PassesOwn.never rfl (pi_enum (by rfl) B.enumerate (pa_cons (pv 1) pa_nil))
          (pg_tup rfl (pgs_cons (pg_name (i := 4) scMixed.nd rfl (.inl rfl)) (pgs_cons (pg_name (i := 5) scMixed.nd rfl (.inl rfl)) pgs_nil)))
        (pss_one (ps_asg (pe_ix ix_list (pv 2) (pv 5) (fun _ _ => rfl)) (pg_sub (pv 3) (pe_ix ix_list (pv 2) (pv 4) (fun _ _ => rfl)) set_list))))
      (pss_one (ps_ret (pe_callTy call_tuple_of (by rfl) B.tuple (by decide +kernel) (pa_cons (pv 3) pa_nil))))), ?_⟩
    refine ⟨.ref b, rfl, .ref a, rfl, a, _, rfl, .inl (SqL.of ha), _, rfl, ?_, fun u nu => ?_⟩
    · rw [List.length_map]; exact RgOk.of_le (by omega) (by omega) (by omega) (by omega)
    · rw [List.length_map, rg_upto]
      have bu : b ≠ u := hB.ne nu
      refine ⟨b, u, c, upto ((ns.length : Int)).toNat, rfl, Ne.symm bu, upd_same, by rw [upto_len]; omega, hB.new nu, hc, fun H1 t tags sb1 nt ht lt mt hB1 => ?_⟩
      rw [upto_len] at lt
      have sbH1 : Sb b H H1 := (Sb.new nu).trans sb1
      have ha1 : H1 a = some (.lst (IL ns)) := sbH1 a _ ne ha
      refine ⟨(by show 1 ≤ sizeLine; decide), fun z nz => ?_⟩
      have ha2 := upd_keep (u := .lst [V.int 0]) ha1 nz
      refine ⟨.ref a, rfl, a, _, rfl, .inl (SqL.of ha2), z, _, _, rfl, rfl, upd_same, ?_, ?_, ?_, fun o no => ?_⟩
      · rw [List.length_map]; omega
      · rw [List.length_map]; omega
      · rw [List.length_map]; show 1 * _ ≤ sizeLine; exact sz (by omega)
      · rw [List.length_map, rep_zero]
        refine ⟨_, _, rfl, .ref a, rfl, a, _, rfl, SqL.of (upd_keep ha2 no), ?_⟩
        have n1 : H1 o = none := (same_new nz).free no
        have n0 : H o = none := sbH1.free hB1 n1
        have tags_low : Low ns.length tags := fun y hy => by
          have := upto_mem (mt y hy)
          omega
        have tl : tags.length = ns.length := by omega
        have oa : a ≠ o := ne_of_none ha n0
        have hu0 : H t = none := (same_new nu).free nt
        have ot : t ≠ o := ne_of_none (upd_keep ht nz) no
        refine for_it (walk_enum (K := K) (a := a) (xs := IL ns)) (fun i σ H3 => ∃ y4 y5 hs, σ = [some (.ref b), some (.ref a), some (.ref t), some (.ref o), y4, y5] ∧ Sb b H H3 ∧ H3 a = some (.lst (IL ns)) ∧ H3 t = some (.lst (IL tags)) ∧ H3 o = some (.lst (IL hs)) ∧ hs.length = ns.length ∧ Low ns.length hs ∧ Box H3 b (c + 1000)) ?_ ?_ ?_ ?_
        · refine ⟨none, none, List.replicate (ns.length : Int).toNat 0, rfl, (sbH1.trans (Sb.new nz)).trans (Sb.new no), upd_keep ha2 no, upd_keep (upd_keep ht nz) no, upd_same, ?_, ?_, (hB1.new nz).new no⟩
          · rw [List.length_replicate]; omega
          · have := low_zero (n := (ns.length : Int).toNat) (by omega)
            rw [show ns.length = (ns.length : Int).toNat by omega] at *
            exact this
        · rintro i σ H3 _ ⟨y4, y5, hs, rfl, _, h3, _⟩
          exact SqL.of h3
        · rintro i x σ H3 H4 hi ⟨y4, y5, hs, rfl, sb, h3, h4, h5, hl, hlo, hB3⟩ ⟨T, x1, x2, rfl, nT, rfl, hx1, hx2⟩
          cases hx1
          have hi' : i < ns.length := by rw [List.length_map] at hi; exact hi
          have hx2' : x2 = .int ns[i] := IL_at hx2 hi'
          subst hx2'
          have hz := lo.at (List.getElem?_eq_getElem hi')
          have h4' := upd_keep (u := .tup [.int (i : Nat), .int ns[i]]) h4 nT
          have h5' := upd_keep (u := .tup [.int (i : Nat), .int ns[i]]) h5 nT
          obtain ⟨z1, g1, _, a1⟩ := at_lt (ns := tags) hz.1 (by omega)
          obtain ⟨z2, g2, _, a2⟩ := at_lt (ns := tags) (i := (i : Int)) (by omega) (by omega)
          have t1 := tags_low.at g1
          have t2 := tags_low.at g2
          refine ⟨T, _, rfl, SqT.of upd_same, rfl, _, _, rfl, _, _, rfl, rfl, ?_⟩
          refine ⟨.ref t, rfl, .int ns[i], rfl, t, _, _, .int z1, rfl, rfl, SqL.of h4', a1, .ref o, rfl, .ref t, rfl, .int i, rfl, t, _, _, .int z2, rfl, rfl, SqL.of h4', a2, o, _, _, z2.toNat, rfl, rfl, h5', ?_, ?_⟩
          · rw [List.length_map]; exact ix_ok t2.1 (by omega)
          · rw [IL_set]
            refine ⟨_, _, _, rfl, (sb.trans (Sb.new nT)).mut n0, ?_, ?_, upd_same, ?_, hlo.set t1.1 t1.2, ?_⟩
            · rw [upd_ne oa]; exact upd_keep h3 nT
            · rw [upd_ne ot]; exact h4'
            · rw [List.length_set]; exact hl
            · exact (hB3.new nT).put (hB.ne n0)
        · rintro σ H3 ⟨y4, y5, hs, rfl, sb, h3, h4, h5, hl, hlo, hB3⟩
          refine ⟨.ref o, rfl, o, _, rfl, .inl ⟨SqL.of h5, fun p np => ?_⟩⟩
          exact q _ p hs (sb.trans (Sb.new np)) (sb.free hB3 np) upd_same hl hlo (hB3.new np)
/-! ### _law_drawn -/
abbrev sDrawn : Stmt := topS 17
abbrev nDrawn : List Str := ["_law_box_here", "_law_most", "_law_size", "_law_found", "_law_left", "_law_some", "_law_aim"]
theorem scDrawn : FnScope nDrawn ["_law_box_here", "_law_most"] (defScope sDrawn) := ⟨rfl, rfl, rfl, by decide +kernel, rfl, by decide +kernel, by decide +kernel⟩
def spDrawn : Sp := fun vs H Q _ => ∃ (b : Addr) (most : Int) (c : Nat), vs = [.ref b, .int most] ∧ 1 ≤ most ∧ most ≤ 60 ∧ Box H b c ∧ c + 10000 ≤ 1000000000 ∧
  ∀ H' p (ms : List Int), Sb b H H' → H p = none → H' p = some (.tup (IL ms)) → 1 ≤ ms.length → (ms.length : Int) ≤ most → Low ms.length ms → Box H' b (c + 10000) → Q (.ref p) H'
theorem ok_drawn {f fT fO fP fM : Addr} {fd fdT fdO fdP fdM : FuncData} {k : Nat} (F : Fun K "_law_drawn" "_law_drawn" sDrawn f fd) (B : Bi mg) (T : Cal P w K mg base "_law_take" (k + 1) psT spTake fT fdT) (O : Cal P w K mg base "_law_of" (k + 2) ["_law_box_here", "_law_some"] spOf fO fdO)
    (PA : Cal P w K mg base "_law_part" (k + 2) ["_law_box_here", "_law_size"] spPart fP fdP) (M : Cal P w K mg base "_law_mixed" (k + 3) ["_law_box_here", "_law_found"] spMixed fM fdM) : FnOk P w K mg base CX0 (k + 4) f fd ["_law_box_here", "_law_most"] spDrawn := by
  refine F.ok scDrawn (fun vs H Q E h => ?_) (fun cdv A outer s H vs Q E hr h => ?_)
  · obtain ⟨b, most, c, rfl, _⟩ := h
    rfl
  · obtain ⟨b, most, c, rfl, m1, m2, hB, hc, q⟩ := h
    refine ⟨_, pss_cons (ps_asg (pe_tup (pa_cons (pe_op op_add pe_int (pe_call T.ok (hr.mono (by omega)) (by rfl) T.g T.kp T.bd .nil pass0 (pa_cons (pv 0) (pa_cons (pv 1) pa_nil)))) (pa_cons (pe_lst pa_nil) pa_nil))) (pg_tup rfl (pgs_cons (pg_name (i := 2) scDrawn.nd rfl (.inl rfl)) (pgs_cons (pg_name (i := 3) scDrawn.nd rfl (.inr rfl)) pgs_nil))))
      (pss_cons (ps_while PassesOwn.never (pt_cmpR op_lt (pe_callB call_len_seq (by rfl) B.len PySem.boot_len (pa_cons (pv 3) pa_nil)) (pv 2) (nomark _))
        (pss_cons (ps_set (i := 4) scDrawn.nd rfl (.inl rfl) (pe_op op_sub (pv 2) (pe_callB call_len_seq (by rfl) B.len PySem.boot_len (pa_cons (pv 3) pa_nil))))
        (pss_cons (ps_set (i := 5) scDrawn.nd rfl (.inl rfl) (pe_call PA.ok (hr.mono (by omega)) (by rfl) PA.g PA.kp PA.bd .nil pass0 (pa_cons (pv 0) (pa_cons (pe_call O.ok (hr.mono (by omega)) (by rfl) O.g O.kp O.bd .nil pass0 (pa_cons (pv 0) (pa_cons (pe_lst (pa_cons (pv 4) (pa_cons (pv 4) (pa_cons (pe_op op_add pe_int (pe_call T.ok (hr.mono (by omega)) (by rfl) T.g T.kp T.bd .nil pass0 (pa_cons (pv 0) (pa_cons (pv 4) pa_nil)))) pa_nil)))) pa_nil))) pa_nil))))
        (pss_one (ps_set (i := 3) scDrawn.nd rfl (.inr rfl) (pe_op op_cat (pv 3) (pe_lc (own := [("_law_aim", 6)]) (g := gName 6) (tt := tYes) (by rfl) scDrawn.nd (pi_list (pv 5)) (blkOk_by (own := [("_law_aim", 6)]) (N := nDrawn) (sc := defScope sDrawn) (by decide +kernel)) (fun _ _ _ _ _ => pg_name (i := 6) scDrawn.nd rfl (Or.inl rfl)) (fun _ _ _ _ _ => pts_nil) (fun _ _ _ _ _ => pe_op op_add (pe_callB (len_K (K := K) rfl) (by rfl) B.len PySem.boot_len (pa_cons (pv 3) pa_nil)) (pv 6)))))))))
      (pss_one (ps_ret (pe_call M.ok hr (by rfl) M.g M.kp M.bd .nil pass0 (pa_cons (pv 0) (pa_cons (pv 3) pa_nil)))))), ?_⟩
    refine ⟨.ref b, rfl, .int most, rfl, b, most, c, rfl, hB, by omega, by omega, by omega, fun H1 r sb1 hB1 r0 r1 => ?_⟩
    refine ⟨1, r, rfl, rfl, Nat.zero_le _, fun o no => ⟨(by show 2 ≤ sizeLine; decide), fun t nt => ?_⟩⟩
    refine ⟨t, _, rfl, SqT.of upd_same, rfl, _, _, rfl, _, _, rfl, rfl, ?_⟩
    have n0 : H o = none := sb1.free hB1 no
    have bo : b ≠ o := hB.ne n0
    generalize hsize : 1 + r = size
    have ho0 : (upd (upd H1 o (.lst [])) t (.tup [.int size, .ref o])) o = some (.lst (IL [])) := by
      rw [upd_ne (ne_of_none (upd_same (H := H1) (a := o) (o := .lst [])) nt), upd_same]; rfl
    refine ⟨fun m σ H3 => ∃ y4 y5 oo fs, σ = [some (.ref b), some (.int most), some (.int size), some (.ref oo), y4, y5, none] ∧ Sb b H H3 ∧ oo ≠ b ∧ H3 oo = some (.lst (IL fs)) ∧ fs.length + m = size.toNat ∧ Low fs.length fs ∧ Box H3 b (c + 1 + 100 * fs.length), ⟨size.toNat, none, none, o, [], ?_, ?_, Ne.symm bo, ?_, by simp, (fun z h => nomatch h), ?_⟩, ?_⟩
    · rw [← hsize]; rfl
    · rw [← hsize] at *; exact (sb1.trans (Sb.new no)).trans (Sb.new nt)
    · subst hsize; exact ho0
    · exact (hB1.new no).new nt
    · rintro m σ H3 ⟨y4, y5, oo, fs, rfl, sb, nob, ho, em, lo, hB3⟩
      refine ⟨.ref oo, rfl, oo, _, rfl, .inl (SqL.of ho), .int size, rfl, _, _, rfl, rfl, _, rfl, ite2 (fun e => ?_) (fun e => ?_)⟩
      · have e1 : ((IL fs).length : Int) < size := of_decide_eq_true e
        rw [List.length_map] at e1
        refine ⟨fun σ' H' => ∃ m', m' < m ∧ ∃ y4 y5 oo fs, σ' = [some (.ref b), some (.int most), some (.int size), some (.ref oo), y4, y5, none] ∧ Sb b H H' ∧ oo ≠ b ∧ H' oo = some (.lst (IL fs)) ∧ fs.length + m' = size.toNat ∧ Low fs.length fs ∧ Box H' b (c + 1 + 100 * fs.length), fun σ' H' h => h, ?_⟩
        refine ⟨.int size, rfl, .ref oo, rfl, oo, _, rfl, .inl (SqL.of ho), size, _, rfl, rfl, ?_⟩
        rw [List.length_map]
        dsimp only
        generalize hleft : size - (fs.length : Int) = left
        refine ⟨.ref b, rfl, .ref b, rfl, .int left, rfl, .int left, rfl, .ref b, rfl, .int left, rfl, b, left, c + 1 + 100 * fs.length, rfl, hB3, by omega, by omega, by omega, fun H4 r' sb4 hB4 r0' r1' => ?_⟩
        refine ⟨1, r', rfl, rfl, (by show 3 ≤ sizeLine; decide), fun p np => ?_⟩
        have bp : b ≠ p := hB4.ne np
        refine ⟨b, p, c + 1 + 100 * fs.length + 1, _, rfl, Ne.symm bp, upd_same, (by show 1 ≤ 3; decide), (by show 3 ≤ 1000; decide), hB4.new np, by omega, fun H5 j v sb5 hB5 hj => ?_⟩
        have hv : ∃ ps : Int, v = .int ps ∧ 1 ≤ ps ∧ ps ≤ left := by
          rcases j with _ | _ | _ | j
          · exact ⟨left, (Option.some.inj hj).symm, by omega, by omega⟩
          · exact ⟨left, (Option.some.inj hj).symm, by omega, by omega⟩
          · exact ⟨1 + r', (Option.some.inj hj).symm, by omega, by omega⟩
          · simp at hj
        obtain ⟨ps, rfl, p1, p2⟩ := hv
        refine ⟨b, ps, c + 1 + 100 * fs.length + 2, rfl, p1, by omega, hB5, by omega, fun H6 u us sb6 nu hu lu lou hB6 => ?_⟩
        have sb16 : Sb b H3 H6 := (sb4.trans (Sb.new np)).trans (sb5.trans sb6)
        have ho6 := sb16 oo _ nob ho
        have hnd : ∀ D, H6 D = none → oo ≠ D := fun D nD => ne_of_none ho6 nD
        refine ⟨.ref oo, rfl, .ref u, rfl, u, rfl, ⟨_, SqL.of hu⟩, fun D nD => ?_⟩
        have uD : u ≠ D := ne_of_none hu nD
        have bD : b ≠ D := hB6.ne nD
        refine lc_list (K := K) (a := u) (xs := IL us) (fun i H7 => ∃ es, H7 D = some (.lst (IL es)) ∧ es.length = i ∧ (∀ z ∈ es, (fs.length : Int) ≤ z ∧ z < fs.length + us.length) ∧ Sb b H3 H7 ∧ H7 u = some (.lst (IL us)) ∧ H7 oo = some (.lst (IL fs)) ∧ Box H7 b (c + 1 + 100 * fs.length + 4 + us.length)) ?_ ?_ ?_ ?_
        · exact ⟨[], upd_same, rfl, (fun z h => nomatch h), sb16.trans (Sb.new nD), upd_keep hu nD, upd_keep ho6 nD, hB6.new nD⟩
        · rintro i H7 _ ⟨es, _, _, _, _, h, _⟩
          exact SqL.of h
        · rintro i x H7 hx ⟨es, hD, hl, hr7, sb7, hu7, ho7, hB7⟩
          have hi' : i < us.length := by
            have := (List.getElem?_eq_some_iff.mp hx).1
            rw [List.length_map] at this; exact this
          have hx' : x = .int us[i] := IL_at hx hi'
          subst hx'
          have hz := lou.at (List.getElem?_eq_getElem hi')
          refine ⟨rfl, yes_ok ?_⟩
          refine ⟨.ref oo, rfl, oo, _, rfl, .inl (SqL.of ho7), .int us[i], rfl, _, _, rfl, rfl, IL es, hD, ?_, es ++ [(fs.length : Int) + us[i]], ?_, ?_, ?_, ?_, ?_, ?_, ?_⟩
          · rw [List.length_map]; exact szl (by omega)
          · rw [upd_same, List.length_map, IL_app]
          · rw [List.length_append, hl]; rfl
          · intro z hz'
            rcases List.mem_append.mp hz' with h2 | h2
            · exact hr7 z h2
            · rw [List.mem_singleton] at h2
              omega
          · intro a' o' na e'
            have e6 := sb16 a' _ na e'
            rw [upd_ne (ne_of_none e6 nD)]
            exact sb7 a' _ na e'
          · rw [upd_ne uD]; exact hu7
          · rw [upd_ne (hnd D nD)]; exact ho7
          · exact hB7.put bD
        · rintro H7 ⟨es, hD, hl, hr7, sb7, hu7, ho7, hB7⟩
          rw [List.length_map] at hl
          refine ⟨oo, D, IL fs, IL es, rfl, rfl, ho7, hD, ?_, fun o2 no2 => ?_⟩
          · rw [List.length_map, List.length_map]; exact sz (by omega)
          · refine ⟨m - us.length, by omega, _, _, o2, fs ++ es, rfl, (sb.trans sb7).trans (Sb.new no2), Ne.symm (hB7.ne no2), ?_, ?_, ?_, ?_⟩
            · rw [upd_same]
              show some (HO.lst (List.map V.int fs ++ List.map V.int es)) = some (HO.lst (List.map V.int (fs ++ es)))
              rw [List.map_append]
            · rw [List.length_append]; omega
            · intro z hz
              rw [List.length_append]
              rcases List.mem_append.mp hz with h2 | h2
              · have := lo z h2; omega
              · have := hr7 z h2; omega
            · refine (hB7.new no2).le ?_
              rw [List.length_append]; omega
      · have e1 : ¬ ((IL fs).length : Int) < size := fun z => e (decide_eq_true z)
        rw [List.length_map] at e1
        refine ⟨.ref b, rfl, .ref oo, rfl, b, oo, c + 1 + 100 * fs.length, fs, rfl, nob, ho, by omega, by omega, lo, hB3, by omega, fun H' p ms sb' np hp hl hlo hB' => ?_⟩
        refine q H' p ms (sb.trans sb') ?_ hp (by omega) (by omega) (by rw [hl]; exact hlo) (hB'.le (by omega))
        exact sb.free hB3 np
end
end Lp

namespace Lp
open PySem PySem.Spec PyProof.Rows L2
def Flat : V → Prop
  | .int _ => True
  | .bl _ => True
  | .non => True
  | .str _ => True
  | _ => False
/-- x and y hold the same data, at most n deep -/
def Eqd (H : Hp) : Nat → V → V → Prop
  | 0, x, y => x = y ∧ Flat x
  | n + 1, x, y => (x = y ∧ Flat x) ∨ ∃ a b xs ys, x = .ref a ∧ y = .ref b ∧ xs.length = ys.length ∧ xs.length ≤ 10000 ∧ ((H a = some (.lst xs) ∧ H b = some (.lst ys)) ∨ (H a = some (.tup xs) ∧ H b = some (.tup ys))) ∧
      ∀ (i : Nat) (u v : V), xs[i]? = some u → ys[i]? = some v → Eqd H n u v
theorem Eqd.mono {H H' : Hp} (s : Same H H') : ∀ {n : Nat} {x y : V}, Eqd H n x y → Eqd H' n x y
  | 0, _, _, h => h
  | n + 1, _, _, h => by
    rcases h with h | ⟨a, b, xs, ys, e1, e2, e3, e4, e5, e6⟩
    · exact .inl h
    · refine .inr ⟨a, b, xs, ys, e1, e2, e3, e4, ?_, fun i u v hu hv => (e6 i u v hu hv).mono s⟩
      rcases e5 with ⟨h1, h2⟩ | ⟨h1, h2⟩
      · exact .inl ⟨s _ _ h1, s _ _ h2⟩
      · exact .inr ⟨s _ _ h1, s _ _ h2⟩
theorem Eqd.int (H : Hp) (n : Nat) (i : Int) : Eqd H n (.int i) (.int i) := by
  cases n with
  | zero => exact ⟨rfl, trivial⟩
  | succ n => exact .inl ⟨rfl, trivial⟩
theorem Eqd.lst {H : Hp} {n : Nat} {a b : Addr} {xs ys : List V} (h1 : H a = some (.lst xs)) (h2 : H b = some (.lst ys)) (l : xs.length = ys.length) (z : xs.length ≤ 10000) (h : ∀ (i : Nat) (u v : V), xs[i]? = some u → ys[i]? = some v → Eqd H n u v) : Eqd H (n + 1) (.ref a) (.ref b) :=
  .inr ⟨a, b, xs, ys, rfl, rfl, l, z, .inl ⟨h1, h2⟩, h⟩
theorem Eqd.tup {H : Hp} {n : Nat} {a b : Addr} {xs ys : List V} (h1 : H a = some (.tup xs)) (h2 : H b = some (.tup ys)) (l : xs.length = ys.length) (z : xs.length ≤ 10000) (h : ∀ (i : Nat) (u v : V), xs[i]? = some u → ys[i]? = some v → Eqd H n u v) : Eqd H (n + 1) (.ref a) (.ref b) :=
  .inr ⟨a, b, xs, ys, rfl, rfl, l, z, .inr ⟨h1, h2⟩, h⟩
theorem Eqd.ints {H : Hp} {ns : List Int} {n i : Nat} {u v : V} (hu : (IL ns)[i]? = some u) (hv : (IL ns)[i]? = some v) : Eqd H n u v := by
  have e : u = v := Option.some.inj (hu.symm.trans hv)
  subst e
  rw [List.getElem?_map] at hu
  cases q : ns[i]? with
  | none => rw [q] at hu; cases hu
  | some z => rw [q] at hu; cases hu; exact Eqd.int H n z
/-- two lists of the same ints -/
theorem Eqd.lstI {H : Hp} {n : Nat} {a b : Addr} {ns : List Int} (h1 : H a = some (.lst (IL ns))) (h2 : H b = some (.lst (IL ns))) (z : ns.length ≤ 10000) : Eqd H (n + 1) (.ref a) (.ref b) :=
  Eqd.lst h1 h2 rfl (by rw [List.length_map]; exact z) fun _ _ _ hu hv => Eqd.ints hu hv
theorem Eqd.tupI {H : Hp} {n : Nat} {a b : Addr} {ns : List Int} (h1 : H a = some (.tup (IL ns))) (h2 : H b = some (.tup (IL ns))) (z : ns.length ≤ 10000) : Eqd H (n + 1) (.ref a) (.ref b) :=
  Eqd.tup h1 h2 rfl (by rw [List.length_map]; exact z) fun _ _ _ hu hv => Eqd.ints hu hv
theorem Eqd.pair {H : Hp} {n : Nat} {a b : Addr} {x1 x2 y1 y2 : V} (h1 : H a = some (.lst [x1, x2])) (h2 : H b = some (.lst [y1, y2])) (e1 : Eqd H n x1 y1) (e2 : Eqd H n x2 y2) : Eqd H (n + 1) (.ref a) (.ref b) :=
  Eqd.lst h1 h2 rfl (by show 2 ≤ 10000; decide) fun i u v hu hv => by
    rcases i with _ | _ | i
    · cases hu; cases hv; exact e1
    · cases hu; cases hv; exact e2
    · simp at hu
theorem ka2 {K : PySem.W.Frag} {t a b : String} {r1 r2 : Bool} (h1 : kitB t a = some r1) (h2 : kitB t b = some r2) : PySem.W.kitAny K (.type t) [.type a, .type b] = some (r1 || r2) := by
  refine kitAny_cons (kit_ty h1) (fun e => ?_) (fun e => by rw [e]; rfl)
  refine kitAny_cons (kit_ty h2) (fun e2 => ?_) (fun e2 => by rw [e, e2]; rfl)
  rw [e, e2]; exact kitAny_nil
theorem walk_zipT {K : PySem.W.Frag} {a b : Addr} {xs ys : List V} {n : Nat} (hn : n = min xs.length ys.length) : Walk (RZ.ItzT K a b) n (fun H => SqT K H a xs ∧ SqT K H b ys) (YPair (fun i => xs[i]?) (fun i => ys[i]?)) := by
  subst hn
  refine ⟨fun i _ hi q => ?_, fun _ q => ⟨xs, ys, q.1, q.2, by omega⟩, fun i H v H' _ q y => ?_⟩
  · have h1 : i < xs.length := by omega
    have h2 : i < ys.length := by omega
    exact ⟨xs, ys, xs[i], ys[i], q.1, q.2, by simp [h1], by simp [h2]⟩
  · obtain ⟨T, x, z, h1, h2, h3, h4, h5⟩ := y
    exact ⟨T, x, z, h1, h2, h3, h4 xs q.1, h5 ys q.2⟩
theorem all_true (n : Nat) : (List.replicate n true).all id = true := by
  rw [List.all_replicate]; cases n <;> rfl
theorem rep_bl (n : Nat) : (List.replicate n true).map V.bl = List.replicate n (.bl true) := by rw [List.map_replicate]
theorem rep_app (n : Nat) (x : V) : List.replicate n x ++ [x] = List.replicate (n + 1) x := by
  rw [List.replicate_succ']
section
variable {P : Program} {w : World} {K : PySem.W.Frag} {mg : Str → Option Value} {base : Heap}
/-! ### _law_same -/
abbrev sSame : Stmt := topS 14
abbrev nSame : List Str := ["_law_found", "_law_due", "_law_one", "_law_two"]
theorem scSame : FnScope nSame ["_law_found", "_law_due"] (defScope sSame) := ⟨rfl, rfl, rfl, by decide +kernel, rfl, by decide +kernel, by decide +kernel⟩
def spSame (n : Nat) : Sp := fun vs H Q _ => ∃ x y, vs = [x, y] ∧ Eqd H n x y ∧ ∀ H', Same H H' → Q (.bl true) H'
abbrev psSame : List Str := ["_law_found", "_law_due"]
theorem ok_same0 {f : Addr} {fd : FuncData} (F : Fun K "_law_same" "_law_same" sSame f fd) (B : Bi mg) {k : Nat} : FnOk P w K mg base CX0 (k + 1) f fd psSame (spSame 0) := by
  refine F.ok scSame (fun vs H Q E h => ?_) (fun cdv A outer s H vs Q E hr h => ?_)
  · obtain ⟨x, y, rfl, _⟩ := h
    rfl
  · obtain ⟨x, y, rfl, ⟨rfl, fl⟩, q⟩ := h
    refine ⟨_, pss_cons (ps_if (pt_val (pe_callB call_isiT (by rfl) B.isinstance (by decide +kernel) (pa_cons (pv 1) (pa_cons (pe_tup (pa_cons (pe_bltn (v := .ty "list") (by rfl) B.list (by decide +kernel) rfl) (pa_cons (pe_bltn (v := .ty "tuple") (by rfl) B.tuple (by decide +kernel) rfl) pa_nil))) pa_nil)))) pss_never pss_nil)
      (pss_cons (ps_if (PW.pt (pw_or (pt_cmpR op_isN (pv 1) pe_non (nomark _)) (pw_or1 (pt_val (pe_callB call_isiT (by rfl) B.isinstance (by decide +kernel) (pa_cons (pv 1) (pa_cons (pe_tup (pa_cons (pe_bltn (v := .ty "str") (by rfl) B.str (by decide +kernel) rfl) (pa_cons (pe_bltn (v := .ty "bool") (by rfl) B.bool (by decide +kernel) rfl) pa_nil))) pa_nil)))))))
        (pss_one (ps_ret (pe_and (pe_cmpR op_eq (pv 0) (pv 1) (nomark _)) (pe_and (pe_cmpR op_eq (pe_callB call_isi (by rfl) B.isinstance (by decide +kernel) (pa_cons (pv 0) (pa_cons (pe_bltn (v := .ty "bool") (by rfl) B.bool (by decide +kernel) rfl) pa_nil))) (pe_callB call_isi (by rfl) B.isinstance (by decide +kernel) (pa_cons (pv 1) (pa_cons (pe_bltn (v := .ty "bool") (by rfl) B.bool (by decide +kernel) rfl) pa_nil))) (nomark _)) (pe_one (pe_cmpR op_eq (pe_cmpR op_isN (pv 0) pe_non (nomark _)) (pe_cmpR op_isN (pv 1) pe_non (nomark _)) (nomark _))))))) pss_nil)
      (pss_one (ps_ret (pe_and (pe_callB call_isi (by rfl) B.isinstance (by decide +kernel) (pa_cons (pv 0) (pa_cons (pe_bltn (v := .ty "int") (by rfl) B.int (by decide +kernel) rfl) pa_nil))) (pe_and (pe_not (pe_callB call_isi (by rfl) B.isinstance (by decide +kernel) (pa_cons (pv 0) (pa_cons (pe_bltn (v := .ty "bool") (by rfl) B.bool (by decide +kernel) rfl) pa_nil)))) (pe_one (pe_cmpR op_eq (pv 0) (pv 1) (nomark _)))))))), ?_⟩
    rcases x with _ | bb | i | z | _ | _ | _ | _
    · refine ⟨.non, rfl, (by show 2 ≤ sizeLine; decide), fun t nt => ?_⟩
      refine ⟨.non, t, _, .type "NoneType", _, false, rfl, upd_same, .cons (.ty "list") (.cons (.ty "tuple") .nil), .base .non, ka2 (r1 := false) (r2 := false) (by decide +kernel) (by decide +kernel), _, rfl, iteF ?_⟩
      refine ⟨.non, rfl, rfl, _, rfl, iteT ?_⟩
      refine iteT ⟨.non, rfl, .non, rfl, rfl, true, rfl, iteT ⟨.non, rfl, .non, .ty "bool", _, _, false, rfl, .ty "bool", .base .non, kit_ty (by decide +kernel), .non, rfl, .non, .ty "bool", _, _, false, rfl, .ty "bool", .base .non, kit_ty (by decide +kernel), rfl, true, rfl, iteT ⟨.non, rfl, rfl, .non, rfl, rfl, rfl, ?_⟩⟩⟩
      exact q _ (same_new nt)
    · refine ⟨.bl bb, rfl, (by show 2 ≤ sizeLine; decide), fun t nt => ?_⟩
      refine ⟨.bl bb, t, _, .type "bool", _, false, rfl, upd_same, .cons (.ty "list") (.cons (.ty "tuple") .nil), .base (.bl bb), ka2 (r1 := false) (r2 := false) (by decide +kernel) (by decide +kernel), _, rfl, iteF ?_⟩
      refine ⟨.bl bb, rfl, rfl, _, rfl, iteF ?_⟩
      refine ⟨.bl bb, rfl, (by show 2 ≤ sizeLine; decide), fun t2 nt2 => ?_⟩
      refine ⟨.bl bb, t2, _, .type "bool", _, true, rfl, upd_same, .cons (.ty "str") (.cons (.ty "bool") .nil), .base (.bl bb), ka2 (r1 := false) (r2 := true) (by decide +kernel) (by decide +kernel), _, rfl, iteT ?_⟩
      refine ⟨.bl bb, rfl, .bl bb, rfl, rfl, true, (by rw [decide_eq_true rfl]), iteT ⟨.bl bb, rfl, .bl bb, .ty "bool", _, _, true, rfl, .ty "bool", .base (.bl bb), kit_ty (by decide +kernel), .bl bb, rfl, .bl bb, .ty "bool", _, _, true, rfl, .ty "bool", .base (.bl bb), kit_ty (by decide +kernel), rfl, true, rfl, iteT ⟨.bl bb, rfl, rfl, .bl bb, rfl, rfl, rfl, ?_⟩⟩⟩
      exact q _ ((same_new nt).trans (same_new nt2))
    · refine ⟨.int i, rfl, (by show 2 ≤ sizeLine; decide), fun t nt => ?_⟩
      refine ⟨.int i, t, _, .type "int", _, false, rfl, upd_same, .cons (.ty "list") (.cons (.ty "tuple") .nil), .base (.int i), ka2 (r1 := false) (r2 := false) (by decide +kernel) (by decide +kernel), _, rfl, iteF ?_⟩
      refine ⟨.int i, rfl, rfl, _, rfl, iteF ?_⟩
      refine ⟨.int i, rfl, (by show 2 ≤ sizeLine; decide), fun t2 nt2 => ?_⟩
      refine ⟨.int i, t2, _, .type "int", _, false, rfl, upd_same, .cons (.ty "str") (.cons (.ty "bool") .nil), .base (.int i), ka2 (r1 := false) (r2 := false) (by decide +kernel) (by decide +kernel), _, rfl, iteF ?_⟩
      refine ⟨.int i, rfl, .int i, .ty "int", _, _, true, rfl, .ty "int", .base (.int i), kit_ty (by decide +kernel), true, rfl, iteT ⟨.int i, rfl, .int i, .ty "bool", _, _, false, rfl, .ty "bool", .base (.int i), kit_ty (by decide +kernel), false, rfl, true, rfl, iteT ⟨.int i, rfl, .int i, rfl, rfl, ?_⟩⟩⟩
      rw [decide_eq_true rfl]
      exact q _ ((same_new nt).trans (same_new nt2))
    · refine ⟨.str z, rfl, (by show 2 ≤ sizeLine; decide), fun t nt => ?_⟩
      refine ⟨.str z, t, _, .type "str", _, false, rfl, upd_same, .cons (.ty "list") (.cons (.ty "tuple") .nil), .base (.str z), ka2 (r1 := false) (r2 := false) (by decide +kernel) (by decide +kernel), _, rfl, iteF ?_⟩
      refine ⟨.str z, rfl, rfl, _, rfl, iteF ?_⟩
      refine ⟨.str z, rfl, (by show 2 ≤ sizeLine; decide), fun t2 nt2 => ?_⟩
      refine ⟨.str z, t2, _, .type "str", _, true, rfl, upd_same, .cons (.ty "str") (.cons (.ty "bool") .nil), .base (.str z), ka2 (r1 := true) (r2 := false) (by decide +kernel) (by decide +kernel), _, rfl, iteT ?_⟩
      refine ⟨.str z, rfl, .str z, rfl, rfl, true, (by rw [decide_eq_true rfl]), iteT ⟨.str z, rfl, .str z, .ty "bool", _, _, false, rfl, .ty "bool", .base (.str z), kit_ty (by decide +kernel), .str z, rfl, .str z, .ty "bool", _, _, false, rfl, .ty "bool", .base (.str z), kit_ty (by decide +kernel), rfl, true, rfl, iteT ⟨.str z, rfl, rfl, .str z, rfl, rfl, rfl, ?_⟩⟩⟩
      exact q _ ((same_new nt).trans (same_new nt2))
    · exact fl.elim
    · exact fl.elim
    · exact fl.elim
    · exact fl.elim
def spSeq (n : Nat) : Sp := fun vs H Q _ => ∃ a b xs ys, vs = [.ref a, .ref b] ∧ xs.length = ys.length ∧ xs.length ≤ 10000 ∧ ((H a = some (.lst xs) ∧ H b = some (.lst ys)) ∨ (H a = some (.tup xs) ∧ H b = some (.tup ys))) ∧
  (∀ (i : Nat) (u v : V), xs[i]? = some u → ys[i]? = some v → Eqd H n u v) ∧ ∀ H', Same H H' → Q (.bl true) H'
theorem ok_seq {f : Addr} {fd : FuncData} (F : Fun K "_law_same" "_law_same" sSame f fd) (B : Bi mg) (g : mg "_law_same" = some (.ref f)) (bd : Binds K fd psSame []) {n k : Nat} (G : FnOk P w K mg base CX0 (k + 1) f fd psSame (spSame n)) : FnOk P w K mg base CX0 (k + 2) f fd psSame (spSeq n) := by
  refine F.ok scSame (fun vs H Q E h => ?_) (fun cdv A outer s H vs Q E hr h => ?_)
  · obtain ⟨a, b, xs, ys, rfl, _⟩ := h
    rfl
  · obtain ⟨a, b, xs, ys, rfl, el, lz, hab, hd, q⟩ := h
    refine ⟨_, pss_cons (ps_if (pt_val (pe_callB call_isiT (by rfl) B.isinstance (by decide +kernel) (pa_cons (pv 1) (pa_cons (pe_tup (pa_cons (pe_bltn (v := .ty "list") (by rfl) B.list (by decide +kernel) rfl) (pa_cons (pe_bltn (v := .ty "tuple") (by rfl) B.tuple (by decide +kernel) rfl) pa_nil))) pa_nil))))
        (pss_cons (ps_if (PW.pt (pw_or (pt_cmpR op_ne (pe_callB call_isi (by rfl) B.isinstance (by decide +kernel) (pa_cons (pv 0) (pa_cons (pe_bltn (v := .ty "list") (by rfl) B.list (by decide +kernel) rfl) pa_nil))) (pe_callB call_isi (by rfl) B.isinstance (by decide +kernel) (pa_cons (pv 1) (pa_cons (pe_bltn (v := .ty "list") (by rfl) B.list (by decide +kernel) rfl) pa_nil))) (nomark _))
            (pw_or1 (pt_cmpR op_ne (pe_callB call_isi (by rfl) B.isinstance (by decide +kernel) (pa_cons (pv 0) (pa_cons (pe_bltn (v := .ty "tuple") (by rfl) B.tuple (by decide +kernel) rfl) pa_nil))) (pe_callB call_isi (by rfl) B.isinstance (by decide +kernel) (pa_cons (pv 1) (pa_cons (pe_bltn (v := .ty "tuple") (by rfl) B.tuple (by decide +kernel) rfl) pa_nil))) (nomark _))))) pss_never pss_nil)
        (pss_one (ps_ret (pe_and (pe_cmpR op_eq (pe_callB call_len_seq (by rfl) B.len PySem.boot_len (pa_cons (pv 0) pa_nil)) (pe_callB call_len_seq (by rfl) B.len PySem.boot_len (pa_cons (pv 1) pa_nil)) (nomark _))
          (pe_one (pe_callB (cr_all rfl) (by rfl) B.all (by decide +kernel) (pa_cons (pe_lc (own := [("_law_one", 2), ("_law_two", 3)]) (g := gTup K 2 (gCons (gName 2) (gCons (gName 3) gNil))) (tt := tYes) (by rfl) scSame.nd (RZ.pi_zipA (by rfl) B.zip (pa_cons (pv 0) (pa_cons (pv 1) pa_nil))) (blkOk_by (own := [("_law_one", 2), ("_law_two", 3)]) (N := nSame) (sc := defScope sSame) (by decide +kernel))
            (fun _ _ _ _ _ => pgtup_K (K := K) rfl (pg_tup rfl (pgs_cons (pg_name (i := 2) scSame.nd rfl (Or.inl rfl)) (pgs_cons (pg_name (i := 3) scSame.nd rfl (Or.inl rfl)) pgs_nil)))) (fun _ _ _ _ _ => pts_nil) (fun _ _ _ _ _ => pe_call G hr (by rfl) g F.kp bd .nil pass0 (pa_cons (pv 2) (pa_cons (pv 3) pa_nil)))) pa_nil))))))) pss_nil)
      pss_never, ?_⟩
    have go : ∀ (T : String) (r1 r2 : Bool) (H2 : Hp), Same H H2 → (∀ H3, Same H H3 → TyX K H3 (.ref a) (.type T) ∧ TyX K H3 (.ref b) (.type T)) → True := fun _ _ _ _ _ _ => trivial
    have lens : ∀ H2, Same H H2 → (SqL K H2 a xs ∨ SqT K H2 a xs) ∧ (SqL K H2 b ys ∨ SqT K H2 b ys) := fun H2 sm => by
      rcases hab with ⟨h1, h2⟩ | ⟨h1, h2⟩
      · exact ⟨.inl (SqL.of (sm _ _ h1)), .inl (SqL.of (sm _ _ h2))⟩
      · exact ⟨.inr (SqT.of (sm _ _ h1)), .inr (SqT.of (sm _ _ h2))⟩
    have turn : ∀ (D : Addr) (t : Addr) (H1 : Hp), True := fun _ _ _ => trivial
    have tail : ∀ H2 : Hp, Same H H2 → tRet (tAndV (tOp rEq (tCB (fun xs H Q => ∃ p ys, xs = [.ref p] ∧ (SqL K H p ys ∨ SqT K H p ys) ∧ Q (.int ys.length) H) (tCons (tVar 0) tNil)) (tCB (fun xs H Q => ∃ p ys, xs = [.ref p] ∧ (SqL K H p ys ∨ SqT K H p ys) ∧ Q (.int ys.length) H) (tCons (tVar 1) tNil)))
        (tCB (rAll K) (tCons (tLc (RZ.iZipA K (tCons (tVar 0) (tCons (tVar 1) tNil))) (gTup K 2 (gCons (gName 2) (gCons (gName 3) gNil))) tYes (tCall (spSame n) [] E0 (tCons (tVar 2) (tCons (tVar 3) tNil))) [2, 3]) tNil))) { nx := fun _ H' => Q .non H', rt := Q } [some (.ref a), some (.ref b), none, none] H2 := by
      intro H2 sm
      obtain ⟨l1, l2⟩ := lens H2 sm
      refine ⟨.ref a, rfl, a, xs, rfl, l1, .ref b, rfl, b, ys, rfl, l2, rfl, true, (by rw [el, decide_eq_true rfl]), iteT ?_⟩
      have hs : ∀ (D : Addr), H2 D = none → ∀ (i : Nat) (x : V) (H3 H4 : Hp), i < xs.length → (Same H2 H3 ∧ H3 D = some (.lst (List.replicate i (.bl true)))) → YPair (fun i => xs[i]?) (fun i => ys[i]?) i H3 x H4 →
          (gTup K 2 (gCons (gName 2) (gCons (gName 3) gNil))) x (wipe [some (.ref a), some (.ref b), none, none] [2, 3]) H4 fun σ2 H5 => wipe σ2 [2, 3] = wipe [some (.ref a), some (.ref b), none, none] [2, 3] ∧ tYes σ2 H5 fun b H6 =>
            if b = true then (tCall (spSame n) [] E0 (tCons (tVar 2) (tCons (tVar 3) tNil))) σ2 H6 fun y H7 => ∃ acc, H7 D = some (.lst acc) ∧ acc.length < sizeLine ∧ (Same H2 (upd H7 D (.lst (acc ++ [y]))) ∧ (upd H7 D (.lst (acc ++ [y]))) D = some (.lst (List.replicate (i + 1) (.bl true)))) else (Same H2 H6 ∧ H6 D = some (.lst (List.replicate (i + 1) (.bl true)))) := by
        rintro D nD i x H3 H4 hi ⟨sm3, hD⟩ ⟨T, x1, x2, rfl, nT, rfl, hx1, hx2⟩
        refine ⟨T, _, rfl, SqT.of upd_same, rfl, _, _, rfl, _, _, rfl, rfl, ?_⟩
        refine ⟨rfl, yes_ok ⟨x1, rfl, x2, rfl, x1, x2, rfl, ?_, fun H7 sm7 => ?_⟩⟩
        · exact ((hd i x1 x2 hx1 hx2).mono (sm.trans sm3)).mono (same_new nT)
        · have hD7 := sm7 _ _ (upd_keep hD nT)
          refine ⟨_, hD7, ?_, ?_, ?_⟩
          · rw [List.length_replicate]; exact szl (by omega)
          · exact same_mut (sm3.trans ((same_new nT).trans sm7)) nD
          · rw [upd_same, rep_app]
      have fin : ∀ (D : Addr) (H3 : Hp), (Same H2 H3 ∧ H3 D = some (.lst (List.replicate xs.length (.bl true)))) → rAll K [.ref D] H3 Q := by
        rintro D H3 ⟨sm3, hD⟩
        refine ⟨D, List.replicate xs.length true, rfl, ?_, ?_⟩
        · rw [rep_bl]; exact SqL.of hD
        · rw [all_true]; exact q H3 (sm.trans sm3)
      rcases hab with ⟨h1, h2⟩ | ⟨h1, h2⟩
      · refine ⟨.ref a, rfl, .ref b, rfl, a, b, xs, ys, rfl, .inl ⟨SqL.of (sm _ _ h1), SqL.of (sm _ _ h2), fun D nD => ?_⟩⟩
        refine lc_it (walk_zip (K := K) (a := a) (b := b) (xs := xs) (ys := ys) (n := xs.length) (by omega)) (fun i H3 => Same H2 H3 ∧ H3 D = some (.lst (List.replicate i (.bl true)))) ⟨same_new nD, upd_same⟩ ?_ (hs D nD) (fin D)
        rintro i H3 _ ⟨sm3, _⟩
        exact ⟨SqL.of (sm3 _ _ (sm _ _ h1)), SqL.of (sm3 _ _ (sm _ _ h2))⟩
      · refine ⟨.ref a, rfl, .ref b, rfl, a, b, xs, ys, rfl, .inr ⟨SqT.of (sm _ _ h1), SqT.of (sm _ _ h2), fun D nD => ?_⟩⟩
        refine lc_it (walk_zipT (K := K) (a := a) (b := b) (xs := xs) (ys := ys) (n := xs.length) (by omega)) (fun i H3 => Same H2 H3 ∧ H3 D = some (.lst (List.replicate i (.bl true)))) ⟨same_new nD, upd_same⟩ ?_ (hs D nD) (fin D)
        rintro i H3 _ ⟨sm3, _⟩
        exact ⟨SqT.of (sm3 _ _ (sm _ _ h1)), SqT.of (sm3 _ _ (sm _ _ h2))⟩
    rcases hab with ⟨h1, h2⟩ | ⟨h1, h2⟩
    · refine ⟨.ref b, rfl, (by show 2 ≤ sizeLine; decide), fun t nt => ?_⟩
      have h1' := upd_keep (u := .tup [.ty "list", .ty "tuple"]) h1 nt
      have h2' := upd_keep (u := .tup [.ty "list", .ty "tuple"]) h2 nt
      refine ⟨.ref b, t, _, .type "list", _, true, rfl, upd_same, .cons (.ty "list") (.cons (.ty "tuple") .nil), .base (.lst h2'), ka2 (r1 := true) (r2 := false) (by decide +kernel) (by decide +kernel), _, rfl, iteT ?_⟩
      refine ⟨.ref a, rfl, .ref a, .ty "list", _, _, true, rfl, .ty "list", .base (.lst h1'), kit_ty (by decide +kernel), .ref b, rfl, .ref b, .ty "list", _, _, true, rfl, .ty "list", .base (.lst h2'), kit_ty (by decide +kernel), rfl, false, rfl, iteF ?_⟩
      refine ⟨.ref a, rfl, .ref a, .ty "tuple", _, _, false, rfl, .ty "tuple", .base (.lst h1'), kit_ty (by decide +kernel), .ref b, rfl, .ref b, .ty "tuple", _, _, false, rfl, .ty "tuple", .base (.lst h2'), kit_ty (by decide +kernel), rfl, false, rfl, iteF ?_⟩
      exact tail _ (same_new nt)
    · refine ⟨.ref b, rfl, (by show 2 ≤ sizeLine; decide), fun t nt => ?_⟩
      have h1' := upd_keep (u := .tup [.ty "list", .ty "tuple"]) h1 nt
      have h2' := upd_keep (u := .tup [.ty "list", .ty "tuple"]) h2 nt
      refine ⟨.ref b, t, _, .type "tuple", _, true, rfl, upd_same, .cons (.ty "list") (.cons (.ty "tuple") .nil), .base (.tup h2'), ka2 (r1 := false) (r2 := true) (by decide +kernel) (by decide +kernel), _, rfl, iteT ?_⟩
      refine ⟨.ref a, rfl, .ref a, .ty "list", _, _, false, rfl, .ty "list", .base (.tup h1'), kit_ty (by decide +kernel), .ref b, rfl, .ref b, .ty "list", _, _, false, rfl, .ty "list", .base (.tup h2'), kit_ty (by decide +kernel), rfl, false, rfl, iteF ?_⟩
      refine ⟨.ref a, rfl, .ref a, .ty "tuple", _, _, true, rfl, .ty "tuple", .base (.tup h1'), kit_ty (by decide +kernel), .ref b, rfl, .ref b, .ty "tuple", _, _, true, rfl, .ty "tuple", .base (.tup h2'), kit_ty (by decide +kernel), rfl, false, rfl, iteF ?_⟩
      exact tail _ (same_new nt)
theorem ok_same {f : Addr} {fd : FuncData} (F : Fun K "_law_same" "_law_same" sSame f fd) (B : Bi mg) (g : mg "_law_same" = some (.ref f)) (bd : Binds K fd psSame []) : ∀ n, FnOk P w K mg base CX0 (n + 1) f fd psSame (spSame n)
  | 0 => ok_same0 F B
  | n + 1 => FnOk.imp (fn_or (ok_same0 F B) (ok_seq F B g bd (ok_same F B g bd n))) fun vs H Q E h => by
    obtain ⟨x, y, rfl, h, q⟩ := h
    rcases h with h | ⟨a, b, xs, ys, rfl, rfl, e3, e4, e5, e6⟩
    · exact .inl ⟨x, y, rfl, h, q⟩
    · exact .inr ⟨a, b, xs, ys, rfl, e3, e4, e5, e6, q⟩
end
end Lp

namespace Lp
open PySem PySem.Spec PyProof.Rows L2
/-! ### calls, as functions of lists -/
def gt (ns : List Int) (i : Int) : Int := ns.getD i.toNat 0
def call1 (ns : List Int) (w : Int) : List Int := ns.set w.toNat (gt ns (gt ns w))
def callAll (ns ws : List Int) : List Int := ws.foldl call1 ns
theorem call1_len (ns : List Int) (w : Int) : (call1 ns w).length = ns.length := by unfold call1; rw [List.length_set]
theorem callAll_len : ∀ (ws ns : List Int), (callAll ns ws).length = ns.length
  | [], _ => rfl
  | w :: ws, ns => by
    show (callAll (call1 ns w) ws).length = ns.length
    rw [callAll_len ws, call1_len]
theorem gt_get {ns : List Int} {i : Int} (h0 : 0 ≤ i) (h1 : i < (ns.length : Int)) : ns[i.toNat]? = some (gt ns i) := by
  unfold gt
  have hl : i.toNat < ns.length := by omega
  rw [List.getD_eq_getElem?_getD, List.getElem?_eq_getElem hl]; rfl
theorem gt_at {ns : List Int} {i : Int} (h0 : 0 ≤ i) (h1 : i < (ns.length : Int)) : atI (IL ns) i = some (.int (gt ns i)) :=
  at_of (j := i.toNat) (by omega) (IL_get (gt_get h0 h1))
theorem gt_low {n : Nat} {ns : List Int} {i : Int} (h : Low n ns) (h0 : 0 ≤ i) (h1 : i < (ns.length : Int)) : 0 ≤ gt ns i ∧ gt ns i < (n : Int) := h.at (gt_get h0 h1)
theorem call1_low {n : Nat} {ns : List Int} {w : Int} (h : Low n ns) (hn : ns.length = n) (h0 : 0 ≤ w) (h1 : w < (n : Int)) : Low n (call1 ns w) := by
  have a := gt_low h h0 (by omega)
  have b := gt_low h a.1 (by omega)
  exact h.set b.1 b.2
theorem callAll_low {n : Nat} : ∀ (ws ns : List Int), Low n ns → ns.length = n → Low n ws → Low n (callAll ns ws)
  | [], _, h, _, _ => h
  | w :: ws, ns, h, hn, hw => by
    have q := hw w (List.mem_cons_self)
    exact callAll_low ws (call1 ns w) (call1_low h hn q.1 q.2) (by rw [call1_len]; exact hn) fun z hz => hw z (List.mem_cons_of_mem _ hz)
theorem callAll_snoc (ns ws : List Int) (w : Int) : callAll ns (ws ++ [w]) = call1 (callAll ns ws) w := by
  unfold callAll; rw [List.foldl_append]; rfl
theorem take_snoc {ws : List Int} {i : Nat} (h : i < ws.length) : ws.take (i + 1) = ws.take i ++ [ws[i]] := by
  rw [List.take_add_one, List.getElem?_eq_getElem h]; rfl
theorem callAll_step (ns : List Int) {ws : List Int} {i : Nat} (h : i < ws.length) : callAll ns (ws.take (i + 1)) = call1 (callAll ns (ws.take i)) ws[i] := by
  rw [take_snoc h, callAll_snoc]
theorem Low.take {n : Nat} {ws : List Int} (h : Low n ws) (i : Nat) : Low n (ws.take i) := fun z hz => h z (List.mem_of_mem_take hz)
/-- a list or a tuple that stands in H -/
def Sq (H : Hp) (a : Addr) (xs : List V) : Prop := H a = some (.lst xs) ∨ H a = some (.tup xs)
theorem Sq.s {K : PySem.W.Frag} {H : Hp} {a : Addr} {xs : List V} (h : Sq H a xs) : SqL K H a xs ∨ SqT K H a xs := h.elim (fun h => .inl (SqL.of h)) (fun h => .inr (SqT.of h))
theorem Sq.mono {H H' : Hp} {a : Addr} {xs : List V} (h : Sq H a xs) (s : Same H H') : Sq H' a xs := h.elim (fun h => .inl (s _ _ h)) (fun h => .inr (s _ _ h))
section
variable {P : Program} {w : World} {K : PySem.W.Frag} {mg : Str → Option Value} {base : Heap}
/-! ### check_person -/
abbrev sCheckP : Stmt := topS 3
theorem scCheckP : FnScope ["state", "person"] ["state", "person"] (defScope sCheckP) := ⟨rfl, rfl, rfl, by decide +kernel, rfl, by decide +kernel, by decide +kernel⟩
def spCheckP : Sp := fun vs H Q _ => ∃ (a : Addr) (p : Int) (xs : List V), vs = [.ref a, .int p] ∧ Sq H a xs ∧ 0 ≤ p ∧ p < (xs.length : Int) ∧ Q .non H
theorem ok_checkP {f : Addr} {fd : FuncData} {k : Nat} (F : Fun K "check_person" "check_person" sCheckP f fd) (B : Bi mg) : FnOk P w K mg base CX0 (k + 1) f fd ["state", "person"] spCheckP := by
  refine F.ok scCheckP (fun vs H Q E h => ?_) (fun cdv A outer s H vs Q E hr h => ?_)
  · obtain ⟨a, p, xs, rfl, _⟩ := h
    rfl
  · obtain ⟨a, p, xs, rfl, hS, p0, p1, q⟩ := h
    refine ⟨_, pss_one (ps_if (pt_not (pt_chain op_le op_lt pe_int (pv 1) (pe_callB call_len_seq (by rfl) B.len PySem.boot_len (pa_cons (pv 0) pa_nil)))) pss_never pss_nil), ?_⟩
    refine ⟨.int p, rfl, 0, p, rfl, rfl, _, rfl, ?_⟩
    rw [decide_eq_true p0]
    refine iteT ⟨.ref a, rfl, a, xs, rfl, hS.s, p, _, rfl, rfl, _, rfl, ?_⟩
    rw [decide_eq_true p1]
    exact iteF q
end
end Lp

namespace Lp
open PySem PySem.Spec PyProof.Rows L2
/-! ### idle calls -/
def idleB (ns ws : List Int) (i : Nat) : Bool := decide (callAll ns (ws.take i) = callAll ns (ws.take (i + 1)))
def idleN (ns ws : List Int) (m : Nat) : List Int := ((List.range m).filter (idleB ns ws)).map Int.ofNat
def idleL (ns ws : List Int) : List Int := idleN ns ws ws.length
theorem idleN_succ (ns ws : List Int) (m : Nat) : idleN ns ws (m + 1) = if idleB ns ws m then idleN ns ws m ++ [(m : Int)] else idleN ns ws m := by
  unfold idleN
  rw [List.range_succ, List.filter_append]
  by_cases h : idleB ns ws m = true
  · rw [if_pos h, List.filter_cons_of_pos h, List.map_append]; rfl
  · rw [if_neg h, List.filter_cons_of_neg h, List.filter_nil, List.append_nil]
theorem idleN_len (ns ws : List Int) (m : Nat) : (idleN ns ws m).length ≤ m := by
  unfold idleN
  rw [List.length_map]
  exact Nat.le_trans (List.length_filter_le _ _) (by rw [List.length_range]; exact Nat.le_refl m)
theorem idleN_mem {ns ws : List Int} {m i : Nat} : (i : Int) ∈ idleN ns ws m ↔ i < m ∧ idleB ns ws i = true := by
  unfold idleN
  constructor
  · intro h
    obtain ⟨j, hj, e⟩ := List.mem_map.mp h
    have : j = i := Int.ofNat.inj e
    subst this
    have := List.mem_filter.mp hj
    exact ⟨List.mem_range.mp this.1, this.2⟩
  · rintro ⟨h1, h2⟩
    exact List.mem_map.mpr ⟨i, List.mem_filter.mpr ⟨List.mem_range.mpr h1, h2⟩, rfl⟩
/-- a call changes nothing exactly if the person points at a root -/
theorem call1_idle {ns : List Int} {w : Int} (h0 : 0 ≤ w) (h1 : w < (ns.length : Int)) : call1 ns w = ns ↔ gt ns (gt ns w) = gt ns w := by
  have g := gt_get h0 h1
  have hl : w.toNat < ns.length := by omega
  unfold call1
  constructor
  · intro e
    have e2 : (ns.set w.toNat (gt ns (gt ns w)))[w.toNat]? = some (gt ns (gt ns w)) := List.getElem?_set_self hl
    rw [e, g] at e2
    exact (Option.some.inj e2).symm
  · intro e
    rw [e]
    apply List.ext_getElem?
    intro i
    by_cases hi : w.toNat = i
    · subst hi
      rw [List.getElem?_set_self hl, g]
    · rw [List.getElem?_set_ne hi]
theorem idleB_step {ns ws : List Int} {i : Nat} (h : i < ws.length) (lo : Low ns.length ns) (lw : Low ns.length ws) :
    idleB ns ws i = decide (gt (callAll ns (ws.take i)) (gt (callAll ns (ws.take i)) ws[i]) = gt (callAll ns (ws.take i)) ws[i]) := by
  unfold idleB
  have z := lw.at (List.getElem?_eq_getElem h)
  have len : (callAll ns (ws.take i)).length = ns.length := callAll_len _ _
  have := call1_idle (ns := callAll ns (ws.take i)) (w := ws[i]) z.1 (by omega)
  rw [callAll_step ns h]
  by_cases q : call1 (callAll ns (ws.take i)) ws[i] = callAll ns (ws.take i)
  · rw [decide_eq_true q.symm, decide_eq_true (this.mp q)]
  · rw [decide_eq_false fun e => q e.symm, decide_eq_false fun e => q (this.mpr e)]
/-- the word without its idle calls -/
def restN (ns ws : List Int) : Nat → List Int
  | 0 => []
  | m + 1 => if idleB ns ws m then restN ns ws m else restN ns ws m ++ [ws.getD m 0]
theorem getD_at {ws : List Int} {m : Nat} (h : m < ws.length) : ws.getD m 0 = ws[m] := by
  rw [List.getD_eq_getElem?_getD, List.getElem?_eq_getElem h]; rfl
theorem rest_low {n : Nat} {ns ws : List Int} (lw : Low n ws) : ∀ m, m ≤ ws.length → Low n (restN ns ws m)
  | 0, _ => fun z h => nomatch h
  | m + 1, h => by
    unfold restN
    split
    · exact rest_low lw m (by omega)
    · have z := lw.at (List.getElem?_eq_getElem (show m < ws.length by omega))
      rw [getD_at (by omega)]
      exact (rest_low lw m (by omega)).app z.1 z.2
theorem rest_len (ns ws : List Int) : ∀ m, (restN ns ws m).length ≤ m
  | 0 => Nat.le_refl 0
  | m + 1 => by
    have := rest_len ns ws m
    unfold restN
    split
    · omega
    · rw [List.length_append]; show _ + 1 ≤ _; omega
theorem rest_all (ns ws : List Int) : ∀ m, m ≤ ws.length → callAll ns (restN ns ws m) = callAll ns (ws.take m)
  | 0, _ => by rw [List.take_zero]; rfl
  | m + 1, h => by
    have ih := rest_all ns ws m (by omega)
    unfold restN
    by_cases q : idleB ns ws m = true
    · rw [if_pos q, ih]
      exact of_decide_eq_true q
    · rw [if_neg q, callAll_snoc, ih, callAll_step ns (show m < ws.length by omega), getD_at (by omega)]
theorem rest_busy (ns ws : List Int) : ∀ m, m ≤ ws.length → ∀ j, j < (restN ns ws m).length → callAll ns ((restN ns ws m).take j) ≠ callAll ns ((restN ns ws m).take (j + 1))
  | 0, _, j, h => by simp [restN] at h
  | m + 1, h, j, hj => by
    have ih := rest_busy ns ws m (by omega)
    unfold restN at hj ⊢
    by_cases q : idleB ns ws m = true
    · rw [if_pos q] at hj ⊢
      exact ih j hj
    · rw [if_neg q] at hj ⊢
      rw [List.length_append] at hj
      have hj' : j < (restN ns ws m).length + 1 := hj
      by_cases hlt : j < (restN ns ws m).length
      · rw [List.take_append_of_le_length (by omega), List.take_append_of_le_length (by omega)]
        exact ih j hlt
      · have e : j = (restN ns ws m).length := by omega
        subst e
        rw [List.take_append_of_le_length (Nat.le_refl _), List.take_length]
        have e2 : (restN ns ws m ++ [ws.getD m 0]).take ((restN ns ws m).length + 1) = restN ns ws m ++ [ws.getD m 0] := List.take_of_length_le (by rw [List.length_append]; exact Nat.le_refl _)
        rw [e2, callAll_snoc, rest_all ns ws m (by omega), getD_at (by omega), ← callAll_step ns (show m < ws.length by omega)]
        intro z
        exact q (decide_eq_true z)
theorem rest_idle (ns ws : List Int) : idleL ns (restN ns ws ws.length) = [] := by
  unfold idleL idleN
  rw [List.filter_eq_nil_iff.mpr]
  · rfl
  · intro j hj
    have := rest_busy ns ws ws.length (Nat.le_refl _) j (List.mem_range.mp hj)
    intro z
    exact this (of_decide_eq_true z)
section
variable {P : Program} {w : World} {K : PySem.W.Frag} {mg : Str → Option Value} {base : Heap}
end
end Lp

namespace Lp
open PySem PySem.Spec PyProof.Rows L2
/-! ### a call whose arguments are all named, in the reverse order -/
def KbR (fd : FuncData) (ps : List Str) : Prop := ∀ (s : Shared) (ws : List Value), ws.length = ps.length → BindsTo s fd ⟨[], ps.reverse.zip ws⟩ (ps.zip ws.reverse)
theorem Fun.kbr {K : PySem.W.Frag} {x qual : Str} {st : Stmt} {f : Addr} {fd : FuncData} {ps : List Str} (F : Fun K x qual st f fd)
    (h : ∀ (kV doc pm : Value) (an : Option Addr) (cdv ct : Value) (ws : List Value), ws.length = ps.length → bindArgs (PySem.W.fnOf x qual (defArgs st) (defBody st) (defScope st) .none kV doc pm an cdv ct) ⟨[], ps.reverse.zip ws⟩ = pure (ps.zip ws.reverse)) : KbR fd ps := by
  obtain ⟨oc, od, kV, doc, pm, an, cdv, ct, osl, rfl, lk, hcd⟩ := F.ex
  exact fun s ws hl => .of_eq (h kV doc pm an cdv ct ws hl)
def tCallR (sp : Sp) (E : XK) (tk : TA) : TE := fun σ H Q => tk σ H fun zs H2 => sp zs.reverse H2 Q E
theorem pe_callR {X : Cx} {CX : CXT} {k : Nat} {f : Addr} {fd : FuncData} {ps : List Str} {sp : Sp} {E : XK} {x : Str} {p pos : Pos} {kws : List Keyword} {tk : TA} (F : FnOk X.prog X.w X.K X.mg X.base CX k f fd ps sp) (hr : Room k X.A) (hg : Gl X x) (hm : X.mg x = some (.ref f)) (hk : PySem.W.keepIn X.K (.ref f) = true) (hb : KbR fd ps) (hx : Passes CX X E)
    (hkw : PK X kws tk) (hall : (backToKw pos (keywordEach kws X.env)).all (·.1.isSome) = true := by rfl) (hks : (backToKw pos (keywordEach kws X.env)).filterMap (·.1) = ps.reverse := by rfl) (hdb : (x == ("__debug__" : Str)) = false := by decide)
    (hpl : ((backTo pos (starEach [] X.env)).any (·.1) || (backToKw pos (keywordEach kws X.env)).any (·.1.isNone)) = false := by rfl) :
    PE X (.Call (.Name x p) [] kws pos) (tCallR sp E tk) := by
  refine ⟨fun pins s σ H Q I h => ?_⟩
  refine wpAny_Call_Name_kw (ld_glob I hg hm ?_ hdb)
  refine PySem.W.callWith_KW0 (h₀ := X.base) I.ok.mod.kin hk hall ?_ hpl
  refine thn (hkw.run pos pins s σ H _ I h) fun ws s2 ⟨zs, H2, I2, rz, q2⟩ => ⟨I2.kIn, ?_⟩
  rw [hks]
  have hl : ws.length = ps.length := by
    rw [← rz.length, ← List.length_reverse]; exact F.len _ _ _ _ q2
  refine wpAny_call (codeAny_mono (F.run X.A X.stack s2 H2 ⟨[], ps.reverse.zip ws⟩ ws.reverse zs.reverse Q E hr I2.env0 (hb s2 ws hl) rz.reverse q2) fun r s' hq => ?_)
  cases r with
  | error e => exact hx pins σ H2 s2 e s' I2 hq
  | ok fl =>
    cases fl with
    | ret u => exact I2.after hq
    | next => exact False.elim hq
    | brk => exact False.elim hq
    | cont => exact False.elim hq
theorem inV_ints (z : Int) : ∀ ns : List Int, inV (.int z) (IL ns) = decide (z ∈ ns)
  | [] => by simp [inV]
  | x :: r => by
    have ih := inV_ints z r
    unfold inV at ih ⊢
    show (eqV (.int x) (.int z) || (IL r).any fun y => eqV y (V.int z)) = _
    rw [ih]
    simp only [eqV]
    by_cases h : x = z
    · subst h; simp
    · have h2 : ¬ z = x := fun e => h e.symm
      simp [h, h2]
theorem flat_ints (ns : List Int) : (IL ns).all flatV = true := by
  rw [List.all_eq_true]
  intro x hx
  obtain ⟨z, _, rfl⟩ := List.mem_map.mp hx
  rfl
end Lp

namespace Lp
open PySem PySem.Spec PyProof.Rows L2
/-! ### promises that hold where no repr is under way -/
structure FnG (P : Program) (w : World) (K : PySem.W.Frag) (mg : Str → Option Value) (base : Heap) (k : Nat) (f : Addr) (fd : FuncData) (ps : List Str) (sp : Sp) : Prop where
  len : ∀ vs H Q E, sp vs H Q E → vs.length = ps.length
  go : ∀ (A : Around) (outer : List Env) (s : Shared) (H : Hp) (args : Args) (us : List Value) (vs : List V) (Q : VK) (E : XK), A.guards = some [] → Room k A → Env0 P w K mg base A outer s H →
    BindsTo s fd args (ps.zip us) → Vals vs us → sp vs H Q E → codeAny (model P w) A (.call (.ref f) args) (CR CX0 outer P w H s Q E) s
section
variable {P : Program} {w : World} {K : PySem.W.Frag} {mg : Str → Option Value} {base : Heap}
theorem okG {x qual : Str} {st : Stmt} {f : Addr} {fd : FuncData} {N ps : List Str} {k : Nat} {sp : Sp} (F : Fun K x qual st f fd) (S : FnScope N ps (defScope st)) (len : ∀ vs H Q E, sp vs H Q E → vs.length = ps.length)
    (body : ∀ (cdv : Value) (A : Around) (outer : List Env) (s : Shared) (H : Hp) (vs : List V) (Q : VK) (E : XK), A.guards = some [] → Room k (A.deeper (envOfC qual (defScope st) s.heap.objs.size f cdv)) → sp vs H Q E →
      ∃ t, PSs (cxOf CX0 P w K mg base N qual (defScope st) f cdv A outer s H E).nox (defBody st) t ∧ t { nx := fun _ H' => Q .non H', rt := Q } (start N vs) H) : FnG P w K mg base (k + 1) f fd ps sp := by
  obtain ⟨oc, od, kV, doc, pm, an, cdv, ct, osl, rfl, look, code⟩ := F.ex
  constructor
  · exact len
  · intro A outer s H args us vs Q E gA room env bind rel want
    have stays : ∀ b o, base.get? b = some o → s.heap.get? b = some o := fun b o e => (env.bs b o e).1
    have inK := env.mod.kin.keeps stays
    obtain ⟨t, hT, hWant⟩ := body cdv A outer s H vs Q E gA (room.deeper _) want
    have places : ∀ y ∈ ps.zip us, (defScope st).names.lookup y.1 = some .local ∨ ((defScope st).names.lookup y.1 = some .cell ∧ ((cellsFrom (s.heap.objs.size + 1) (defScope st).names []).lookup y.1).isSome = true) := by
      rintro ⟨n, v⟩ hy
      exact (S.par n (List.of_mem_zip hy).1).imp id fun q => ⟨q, PySem.W.cellsFrom_some _ _ _ (.inl q)⟩
    refine codeAny_call_function room.depth (inK _ _ look) rfl S.co S.gen rfl (PySem.W.codeRec_of inK code) (bind _ _ _ _ (wpAny_newFunctionEnv_cells S.kind places ?_))
    intro env' e' s1 made
    subst e'
    have I0 : Inv (cxOf CX0 P w K mg base N qual (defScope st) f cdv A outer s H E) [] (start N vs) H s1 := inv_start S room.hd env (len _ _ _ _ want) rel made
    have done : ∀ (σ' : L2.St) (H' : Hp) (v : V) (u : Value) (s' : Shared), Inv (cxOf CX0 P w K mg base N qual (defScope st) f cdv A outer s H E) [] σ' H' s' → RelV v u → Q v H' → CE outer P w H s Q u s' :=
      fun _ H' v _ _ J ru qv => ⟨v, H', J.os, J.bare, J.base, J.hok, ru, qv⟩
    refine ⟨(env.mod.nolimit.keeps stays).keeps made.toInCall.keep, codeAny_func (wpAny_mono ((PSs.nox hT).run [] s1 _ H _ I0 hWant) ?_ fun _ _ z => z)⟩
    intro fl s' ends
    match fl, ends with
    | .ret u, ends =>
      obtain ⟨v, σ', H', J, ru, qv⟩ := ends
      exact done σ' H' v u s' J ru qv
    | .next, ends =>
      obtain ⟨σ', H', J, qv⟩ := ends
      exact done σ' H' .non Value.none s' J rfl qv
    | .brk, ends => exact (ends.elim fun _ z => z.elim fun _ y => y.2).elim
    | .cont, ends => exact (ends.elim fun _ z => z.elim fun _ y => y.2).elim
end
/-- a call of such a def -/
theorem pe_callG {X : Cx} {k : Nat} {f : Addr} {fd : FuncData} {ps : List Str} {sp : Sp} {x : Str} {p pos : Pos} {e : Expr} {es : List Expr} {t : TA} (F : FnG X.prog X.w X.K X.mg X.base k f fd ps sp) (gA : X.A.guards = some []) (hr : Room k X.A) (hg : Gl X x) (hm : X.mg x = some (.ref f)) (hk : PySem.W.keepIn X.K (.ref f) = true) (hb : Binds X.K fd ps [])
    (ha : PA X (e :: es) t) (hdb : (x == ("__debug__" : Str)) = false := by decide) (he : starEach (e :: es) X.env = (false, eval e X.env) :: starEach es X.env := by rfl) (hpl : (backTo pos (starEach es X.env)).any (·.1) = false := by rfl) :
    PE X (.Call (.Name x p) (e :: es) [] pos) (tCall sp [] E0 t) := by
  constructor
  intro pins s σ H Q I h
  refine wpAny_Call_Name_kw (ld_glob I hg hm (PySem.W.callWith_K (h₀ := X.base) I.ok.mod.kin hk (thn (ha.run pos pins s σ H _ I h) ?_) he hpl) hdb)
  rintro us s1 ⟨vs, H1, J, rel, want⟩
  rw [List.append_nil] at want
  refine ⟨J.kIn, ?_⟩
  have hl : (us ++ []).length = ps.length := by rw [List.append_nil, ← rel.length]; exact F.len _ _ _ _ want
  have b := hb s1 us J.kIn hl
  rw [List.append_nil] at b
  refine wpAny_call (codeAny_mono (F.go X.A X.stack s1 H1 ⟨us, []⟩ us vs Q E0 gA hr J.env0 b rel want) fun r s' ends => ?_)
  match r, ends with
  | .ok (.ret u), ends => exact J.after ends
  | .ok .next, ends => exact ends.elim
  | .ok .brk, ends => exact ends.elim
  | .ok .cont, ends => exact ends.elim
  | .error _, ends => exact ends.elim
/-- the law's own call -/
theorem law_callG {P : Program} {w : World} {K : PySem.W.Frag} {mg mb : Str → Option Value} {k : Nat} {fa a : Addr} {fd : FuncData} {x : Str} {sp : Sp} {s₁ : Shared} {vs : List Value} {ns : List Int}
    (KX : K.In s₁.heap) (n1 : s₁.heap.Ns mainGlobals mg) (n2 : s₁.heap.Ns builtinsNs mb) (n3 : ∀ x : Str, x ≠ "__name__" → mb x = bootBuiltins x) (n4 : s₁.heap.NoLimit) (n5 : s₁.gens = #[])
    (n6 : s₁.heap.get? a = some { cls := .type "list", data := .seq vs.toArray }) (n7 : IntsAre vs ns) (n8 : ns.length ≤ sizeLine) (n9 : Room k callerA)
    (F : ∀ base : Heap, K.In base → base.Ns mainGlobals mg → FnG P w K mg base k fa fd [x] sp) (bind : ∀ (s : Shared) (u : Value), BindsTo s fd ⟨[u], []⟩ [(x, u)])
    (want : ∀ H : Hp, SqL K H a (ns.map V.int) → sp [.ref a] H (fun v _ => v = .bl true) fun _ _ _ => False) :
    codeAny (model P w) callerA (.call (.ref fa) ⟨[.ref a], []⟩) (fun r s' => r = .ok (.ret (.bool true)) ∧ OldK s₁.heap s'.heap ∧ s'.os = s₁.os ∧ AllBare s'.gens) s₁ := by
  have vals : Vals (ns.map V.int) vs := vals_of_ints n7
  have main : ∀ H : Hp, SqL K H a (ns.map V.int) → HOk P w H s₁.heap → (∀ b u, H b = some u → b = a ∧ K.lookup a = none ∧ ∃ o xs, u = .frz o (.lst xs)) →
      codeAny (model P w) callerA (.call (.ref fa) ⟨[.ref a], []⟩) (fun r s' => r = .ok (.ret (.bool true)) ∧ OldK s₁.heap s'.heap ∧ s'.os = s₁.os ∧ AllBare s'.gens) s₁ := by
    intro H list good lone
    have shown : ∀ {b : Addr} {o : Obj}, s₁.heap.get? b = some o → (∀ es ep, o.data = .dict es ep → H b = none) → (∃ es ep, o.data = .dict es ep) → (hidT s₁.heap H).get? b = some o := fun e n ⟨es, ep, d⟩ => hidT_get e (n es ep d)
    have dicts : ∀ {b : Addr} {o : Obj}, s₁.heap.get? b = some o → ∀ es ep, o.data = .dict es ep → H b = none := by
      intro b o e es ep d
      cases q : H b with
      | none => rfl
      | some u =>
        have eb := (lone b u q).1
        rw [eb, n6] at e
        cases e
        exact nomatch d
    have ns_ : ∀ {b : Addr} {m : Str → Option Value}, s₁.heap.Ns b m → (hidT s₁.heap H).Ns b m := by
      rintro b m ⟨o, es, ep, e, d, r⟩
      exact ⟨o, es, ep, shown e (dicts e) ⟨es, ep, d⟩, d, r⟩
    have kin : K.In (hidT s₁.heap H) := by
      intro b o e
      refine hidT_get (KX b o e) ?_
      cases q : H b with
      | none => rfl
      | some u =>
        obtain ⟨eb, n, _⟩ := lone b u q
        rw [eb, n] at e
        cases e
    have lim : (hidT s₁.heap H).NoLimit := by
      obtain ⟨mc, h1, h2⟩ := n4
      exact ⟨mc, ns_ h1, h2⟩
    have env : Env0 P w K mg (hidT s₁.heap H) callerA [] s₁ H := by
      refine ⟨rfl, ⟨kin, ns_ n1, ⟨mb, ns_ n2, n3⟩, lim⟩, fun _ _ e => of_hidT e, ?_, trivial, ?_, good, AllBare.of_eq n5⟩
      · rw [hidT_size]; exact Nat.le_refl _
      · intro b hb; exact nomatch hb
    refine codeAny_mono ((F _ kin (ns_ n1)).go callerA [] s₁ H ⟨[.ref a], []⟩ [.ref a] [.ref a] (fun v _ => v = .bl true) (fun _ _ _ => False) rfl n9 env (bind s₁ (.ref a)) (.cons rfl .nil) (want H list)) fun r s' ends => ?_
    match r, ends with
    | .error _, ends => exact ends.elim
    | .ok .next, ends => exact ends.elim
    | .ok .brk, ends => exact ends.elim
    | .ok .cont, ends => exact ends.elim
    | .ok (.ret u), ends =>
      obtain ⟨v, H', e1, e2, un, good', ru, rfl⟩ := ends
      cases ru
      refine ⟨rfl, OldK.of_keep fun b o e => ?_, e1, e2⟩
      cases q : H b with
      | none => exact un.keep b o e q (fun z => nomatch z) (fun z => nomatch z)
      | some u =>
        obtain ⟨_, _, ob, xs, rfl⟩ := lone b u q
        have h1 := (good b _ q).1
        have h2 := (good' b _ (un.frzs b ob _ q)).1
        exact h2.trans (h1.symm.trans e)
  cases hk : K.lookup a with
  | some o =>
    have e := KX a o hk
    rw [n6] at e
    cases e
    refine main (fun _ => none) (Or.inr ⟨_, vs.toArray, _, hk, rfl, rfl, rfl, ?_, ?_⟩) (fun _ _ z => nomatch z) (fun _ _ z => nomatch z)
    · rw [List.size_toArray, n7.length]; exact n8
    · rw [List.toList_toArray]; exact vals
  | none =>
    have at_a : (fun b => if b = a then some (HO.frz { cls := .type "list", data := .seq vs.toArray } (.lst (ns.map V.int))) else none) a = some (HO.frz { cls := .type "list", data := .seq vs.toArray } (.lst (ns.map V.int))) := if_pos rfl
    refine main (fun b => if b = a then some (HO.frz { cls := .type "list", data := .seq vs.toArray } (.lst (ns.map V.int))) else none) (Or.inl (Or.inr ⟨_, at_a⟩)) (fun b u z => ?_) (fun b u z => ?_)
    · by_cases hb : b = a
      · subst hb
        cases at_a.symm.trans z
        refine ⟨n6, ?_, vs, _, vals, n6⟩
        rw [List.length_map]; exact n8
      · exact nomatch (if_neg hb).symm.trans z
    · by_cases hb : b = a
      · subst hb
        cases at_a.symm.trans z
        exact ⟨rfl, hk, _, _, rfl⟩
      · exact nomatch (if_neg hb).symm.trans z
theorem walk_ofG {l : PySem.W.OpenLaw} {n k : Nat} {q : Program} {loose : List Str} {XP : (Str → Option Value) → Heap → Prop} {YP : World → Heap → Prop} {d : DefRec} {K : Params → PySem.W.Frag} {sp : World → Sp} {x : Str}
    (hn : l.most = some n) (hn2 : n ≤ sizeLine) (hdf : d.params.defaults = []) (hr : Room k callerA) (hY : ∀ (w : World) (h : Heap), YP w h → (K w.params).In h)
    (F : ∀ (w : World) (mg : Str → Option Value) (fa : Addr) (h : Heap), (K w.params).In h → h.Ns mainGlobals mg → mg d.name = some (.ref fa) → ∃ fd : FuncData, (∀ (s : Shared) (u : Value), BindsTo s fd ⟨[u], []⟩ [(x, u)]) ∧
        ∀ base : Heap, (K w.params).In base → base.Ns mainGlobals mg → FnG l.prog w (K w.params) mg base k fa fd [x] (sp w))
    (hsp : ∀ (w : World) (H : Hp) (a : Addr) (ns : List Int), ns.length ≤ n → SqL (K w.params) H a (ns.map V.int) → sp w [.ref a] H (fun v _ => v = .bl true) fun _ _ _ => False) :
    PySem.W.WalkO q loose XP YP l.row.toRowW d [] (fun f vs => PySem.call f vs) := by
  refine Att.attach_call hn hdf ?_
  intro w s₀ s₁ mg mb fa o pm cd doc a vs ns G Y ho hd hcd hmg hobj hints hlen hg
  obtain ⟨fd, hb, hF⟩ := F w mg fa _ (hY w _ Y) G.T.g hmg
  exact law_callG (hY w _ Y) G.T.g G.T.b G.T.builtins G.T.nolimit hg hobj hints (Nat.le_trans hlen hn2) hr hF hb (fun H hS => hsp w H a ns hlen hS)
/-! ### repr of a tuple or a list of ints -/
def rRepr (K : PySem.W.Frag) : List V → Hp → VK → Prop := fun xs H Q => ∃ (p : Addr) (d : PyData), xs = [.ref p] ∧ Dp K H (.ref p) d ∧ d.showable = true ∧ d.hasDict = false ∧ d.depth ≤ 100 ∧ d.shown.length ≤ sizeLine ∧ Q (.str d.shown) H
theorem call_repr {X : Cx} (gA : X.A.guards = some []) (hu : X.A.units + 101 < cLine) : CallR X (.builtin "repr") (rRepr X.K) := by
  intro pins s σ H xs us Q I r h
  obtain ⟨p, d, rfl, hd, h1, h2, h3, h4, q⟩ := h
  obtain ⟨u, rfl, ru⟩ := vals1 r
  cases ru
  obtain ⟨as, rd⟩ := Dp.reads I d _ _ hd rfl
  refine repr_of_reads' rd h1 (fun z => by rw [h2] at z; cases z) gA (by omega) (fun _ _ e => e) (fun h' u tk keep => ?_) h4
  exact ⟨.str _, H, I.kept keep, ⟨_, rfl⟩, q⟩
end Lp

namespace Lp
open PySem PySem.Spec PyProof.Rows L2
theorem deeper_calm {A : Around} {env : Env} (h : A.guards = some []) : (A.deeper env).guards = some [] := h
def Small (ns : List Int) : Prop := ∀ z ∈ ns, z.natAbs < 1000000
theorem Low.small {n : Nat} {ns : List Int} (h : Low n ns) (hn : n ≤ 1000000) : Small ns := fun z hz => by
  have := h z hz
  omega
theorem small_log {z : Int} (h : z.natAbs < 1000000) : z.natAbs.log2 < 20 := by
  by_cases h0 : z.natAbs = 0
  · rw [h0]; decide
  · exact (Nat.log2_lt h0).mpr (Nat.lt_trans h (by decide))
theorem ints_facts : ∀ ns : List Int, Small ns → PyData.showableAll (dI ns) = true ∧ PyData.hasDictAll (dI ns) = false ∧ PyData.weightAll (dI ns) ≤ 30 * ns.length ∧ PyData.intsShortAll 13 (dI ns) = true
  | [], _ => by simp [PyData.showableAll, PyData.hasDictAll, PyData.weightAll, PyData.intsShortAll]
  | z :: r, h => by
    obtain ⟨h1, h2, h3, h4⟩ := ints_facts r fun y hy => h y (List.mem_cons_of_mem _ hy)
    have hz := h z List.mem_cons_self
    have lg := small_log hz
    refine ⟨?_, ?_, ?_, ?_⟩
    · simp only [List.map_cons, PyData.showableAll, PyData.showable, h1, Bool.and_true, decide_eq_true_eq]
      omega
    · simp only [List.map_cons, PyData.hasDictAll, PyData.hasDict, h2, Bool.or_false]
    · simp only [List.map_cons, PyData.weightAll, PyData.weight, List.length_cons]
      have h3' : PyData.weightAll (List.map PyData.int r) ≤ 30 * r.length := h3
      split <;> omega
    · simp only [List.map_cons, PyData.intsShortAll, PyData.intsShort, h4, Bool.and_true, decide_eq_true_eq]
      have e : (PyData.shown (.int z)) = Str.ofString (toString z) := by simp only [PyData.shown]
      rw [e, PySem.ofString_length]
      have := int_text_length_le10 (a := z) (k := 6) (by decide) hz
      omega
theorem shownT {ns : List Int} (h : Small ns) (hl : ns.length ≤ 10000) : (PyData.shown (.tuple (dI ns))).length ≤ sizeLine := by
  obtain ⟨h1, h2, h3, h4⟩ := ints_facts ns h
  refine Nat.le_trans (shown_le13 (d := .tuple (dI ns)) ?_ ?_) (by decide)
  · unfold PyData.layable0
    simp only [PyData.canLay0, PyData.depth, PyData.weight, lay_ints, depth_ints, Bool.true_and, Bool.and_eq_true, decide_eq_true_eq]
    have h5 : PyData.weightAll (dI ns) ≤ 1048576 := by omega
    exact ⟨by decide, decide_eq_true h5⟩
  · simp only [PyData.intsShort]; exact h4
theorem shownL {ns : List Int} (h : Small ns) (hl : ns.length ≤ 10000) : (PyData.shown (.list (dI ns))).length ≤ sizeLine := by
  obtain ⟨h1, h2, h3, h4⟩ := ints_facts ns h
  refine Nat.le_trans (shown_le13 (d := .list (dI ns)) ?_ ?_) (by decide)
  · unfold PyData.layable0
    simp only [PyData.canLay0, PyData.depth, PyData.weight, lay_ints, depth_ints, Bool.true_and, Bool.and_eq_true, decide_eq_true_eq]
    have h5 : PyData.weightAll (dI ns) ≤ 1048576 := by omega
    exact ⟨by decide, decide_eq_true h5⟩
  · simp only [PyData.intsShort]; exact h4
theorem factsT {ns : List Int} (h : Small ns) (hl : ns.length ≤ 10000) : (PyData.tuple (dI ns)).showable = true ∧ (PyData.tuple (dI ns)).hasDict = false ∧ (PyData.tuple (dI ns)).depth ≤ 100 ∧ (PyData.tuple (dI ns)).shown.length ≤ sizeLine := by
  obtain ⟨h1, h2, h3, h4⟩ := ints_facts ns h
  refine ⟨?_, ?_, ?_, shownT h hl⟩
  · simp only [PyData.showable]; exact h1
  · simp only [PyData.hasDict]; exact h2
  · simp only [PyData.depth, depth_ints]; decide
theorem factsL {ns : List Int} (h : Small ns) (hl : ns.length ≤ 10000) : (PyData.list (dI ns)).showable = true ∧ (PyData.list (dI ns)).hasDict = false ∧ (PyData.list (dI ns)).depth ≤ 100 ∧ (PyData.list (dI ns)).shown.length ≤ sizeLine := by
  obtain ⟨h1, h2, h3, h4⟩ := ints_facts ns h
  refine ⟨?_, ?_, ?_, shownL h hl⟩
  · simp only [PyData.showable]; exact h1
  · simp only [PyData.hasDict]; exact h2
  · simp only [PyData.depth, depth_ints]; decide
end Lp

namespace Lp
open PySem PySem.Spec PyProof.Rows L2
/-! ### slices and sums of tuples -/
theorem cutV_whole {xs : List V} {lo hi : Option Int} (h : HT.sIx xs.length 0 lo = 0 ∧ HT.sIx xs.length xs.length hi = xs.length) : cutV xs lo hi = xs := by
  unfold cutV
  rw [h.1, h.2, List.drop_zero, Nat.sub_zero, List.take_length]
theorem slA_of {K : PySem.W.Frag} {H : Hp} {a : Addr} {xs : List V} {lo hi : Option Int} {Q : VK} (ha : H a = some (.tup xs)) (q : ∀ p H', Same H H' → H' p = some (.tup (cutV xs lo hi)) → Q (.ref p) H') : rSlA K (.ref a) lo hi H Q :=
  ⟨a, xs, rfl, SqT.of ha, fun h => q a H (Same.refl H) (by rw [cutV_whole h]; exact ha), fun _ p np => q p _ (same_new np) upd_same⟩
theorem slA_np {K : PySem.W.Frag} {σ : L2.St} {H : Hp} {a : Addr} {xs : List V} {lo : Option Int} {Q : VK} (ha : H a = some (.tup xs)) (q : ∀ p H', Same H H' → H' p = some (.tup (cutV xs lo none)) → Q (.ref p) H') : tNoPart σ H fun u H3 => rSlA K (.ref a) lo u H3 Q :=
  slA_of (hi := none) ha q
theorem catA_of {K : PySem.W.Frag} {H : Hp} {a b : Addr} {xs ys : List V} {Q : VK} (ha : H a = some (.tup xs)) (hb : H b = some (.tup ys)) (hz : xs.length + ys.length ≤ sizeLine) (q : ∀ p H', Same H H' → H' p = some (.tup (xs ++ ys)) → Q (.ref p) H') : rCatA K (.ref a) (.ref b) H Q :=
  ⟨a, b, xs, ys, rfl, rfl, SqT.of ha, SqT.of hb, hz, fun e => q b H (Same.refl H) (by rw [e, List.nil_append]; exact hb), fun _ e => q a H (Same.refl H) (by rw [e, List.append_nil]; exact ha), fun _ _ p np => q p _ (same_new np) upd_same⟩
theorem due_eq (ns : List Int) (i : Nat) (z : Int) (h : i < ns.length) : (cutV (IL ns) none (some (i : Int)) ++ [V.int z]) ++ cutV (IL ns) (some ((i : Int) + 1)) none = IL (ns.set i z) := by
  rw [cut_IL, cut_IL, HT.sIx_none, HT.sIx_none, sIx_int _ _ _ (by omega), sIx_int _ _ _ (by omega)]
  rw [List.set_eq_take_append_cons_drop, if_pos h]
  show (List.map V.int _ ++ [V.int z]) ++ List.map V.int _ = List.map V.int _
  rw [List.map_append, List.map_cons, List.append_assoc]
  have e1 : min (i : Int).toNat ns.length - 0 = i := by omega
  have e2 : min ((i : Int) + 1).toNat ns.length = i + 1 := by omega
  rw [e1, e2, List.drop_zero, List.take_of_length_le (l := ns.drop (i + 1)) (by rw [List.length_drop]; omega)]
  rfl
theorem cutV_len (ns : List Int) (lo hi : Option Int) : (cutV (IL ns) lo hi).length ≤ ns.length := by
  have := cutV_length (IL ns) lo hi
  rw [List.length_map] at this; exact this
end Lp

namespace Lp
open PySem PySem.Spec PyProof.Rows L2
/-! ### what the top has written -/
def Dx (K : PySem.W.Frag) (x : Str) (st : Stmt) : Prop := ∃ (f : Addr) (oc : Value) (od an : Option Addr) (sl : Array (Option Value)) (kV dc pm cd ct : Value), PySem.W.nsIn K mainGlobals x = some (some (.ref f)) ∧
  K.lookup f = some ⟨oc, od, .func (PySem.W.fnOf x x (defArgs st) (defBody st) (defScope st) .none kV dc pm an cd ct), sl⟩ ∧ PySem.W.codeIn K cd x = true ∧ PySem.W.keepIn K (.ref f) = true
theorem dx_mk {K : PySem.W.Frag} {x : Str} {st : Stmt} {f : Addr} {oc : Value} {od an : Option Addr} {sl : Array (Option Value)} {kV dc pm cd ct : Value} (a : PySem.W.nsIn K mainGlobals x = some (some (.ref f)))
    (l : K.lookup f = some ⟨oc, od, .func (PySem.W.fnOf x x (defArgs st) (defBody st) (defScope st) .none kV dc pm an cd ct), sl⟩) (c : PySem.W.codeIn K cd x = true) (k : PySem.W.keepIn K (.ref f) = true) : Dx K x st := ⟨f, oc, od, an, sl, kV, dc, pm, cd, ct, a, l, c, k⟩
theorem Dx.fn {K : PySem.W.Frag} {x : Str} {st : Stmt} {h : Heap} {mg : Str → Option Value} (d : Dx K x st) (X : K.In h) (G : h.Ns mainGlobals mg) : ∃ f fd, Fun K x x st f fd ∧ mg x = some (.ref f) := by
  obtain ⟨f, oc, od, an, sl, kV, dc, pm, cd, ct, a, l, c, k⟩ := d
  exact ⟨f, _, fun_mk l c k, PySem.W.mg_of X G a⟩
structure Zs (K : PySem.W.Frag) : Prop where
  len : PySem.W.nsIn K mainGlobals "len" = some none
  list : PySem.W.nsIn K mainGlobals "list" = some none
  tuple : PySem.W.nsIn K mainGlobals "tuple" = some none
  range : PySem.W.nsIn K mainGlobals "range" = some none
  enumerate : PySem.W.nsIn K mainGlobals "enumerate" = some none
  all : PySem.W.nsIn K mainGlobals "all" = some none
  isinstance : PySem.W.nsIn K mainGlobals "isinstance" = some none
  zip : PySem.W.nsIn K mainGlobals "zip" = some none
  abs : PySem.W.nsIn K mainGlobals "abs" = some none
  int : PySem.W.nsIn K mainGlobals "int" = some none
  str : PySem.W.nsIn K mainGlobals "str" = some none
  bool : PySem.W.nsIn K mainGlobals "bool" = some none
  repr : PySem.W.nsIn K mainGlobals "repr" = some none
  set : PySem.W.nsIn K mainGlobals "set" = some none
  min : PySem.W.nsIn K mainGlobals "min" = some none
  max : PySem.W.nsIn K mainGlobals "max" = some none
  sorted : PySem.W.nsIn K mainGlobals "sorted" = some none
  sum : PySem.W.nsIn K mainGlobals "sum" = some none
theorem Zs.bi {K : PySem.W.Frag} {h : Heap} {mg : Str → Option Value} (z : Zs K) (X : K.In h) (G : h.Ns mainGlobals mg) : Bi mg := by
  constructor
  · exact PySem.W.mg_none_of X G z.len
  · exact PySem.W.mg_none_of X G z.list
  · exact PySem.W.mg_none_of X G z.tuple
  · exact PySem.W.mg_none_of X G z.range
  · exact PySem.W.mg_none_of X G z.enumerate
  · exact PySem.W.mg_none_of X G z.all
  · exact PySem.W.mg_none_of X G z.isinstance
  · exact PySem.W.mg_none_of X G z.zip
  · exact PySem.W.mg_none_of X G z.abs
  · exact PySem.W.mg_none_of X G z.int
  · exact PySem.W.mg_none_of X G z.str
  · exact PySem.W.mg_none_of X G z.bool
  · exact PySem.W.mg_none_of X G z.repr
  · exact PySem.W.mg_none_of X G z.set
  · exact PySem.W.mg_none_of X G z.min
  · exact PySem.W.mg_none_of X G z.max
  · exact PySem.W.mg_none_of X G z.sorted
  · exact PySem.W.mg_none_of X G z.sum
abbrev FnT (x : Str) (st : Stmt) (kV doc pm : Value) (an : Option Addr) (cdv ct : Value) : FuncData := PySem.W.fnOf x x (defArgs st) (defBody st) (defScope st) .none kV doc pm an cdv ct
section
variable {K : PySem.W.Frag} {x : Str} {st : Stmt} {f : Addr} {fd : FuncData} {p p' p'' : Str} (F : Fun K x x st f fd)
include F
theorem b1 (h : ∀ kV doc pm an cdv ct u, bindArgs (FnT x st kV doc pm an cdv ct) ⟨[u], []⟩ = pure [(p, u)]) : Binds K fd [p] [] :=
  F.binds fun kV doc pm an cdv ct us hl => match us, hl with | [u], _ => h kV doc pm an cdv ct u
theorem b2 (h : ∀ kV doc pm an cdv ct u v, bindArgs (FnT x st kV doc pm an cdv ct) ⟨[u, v], []⟩ = pure [(p, u), (p', v)]) : Binds K fd [p, p'] [] :=
  F.binds fun kV doc pm an cdv ct us hl => match us, hl with | [u, v], _ => h kV doc pm an cdv ct u v
theorem b3 (h : ∀ kV doc pm an cdv ct u v t, bindArgs (FnT x st kV doc pm an cdv ct) ⟨[u, v, t], []⟩ = pure [(p, u), (p', v), (p'', t)]) : Binds K fd [p, p', p''] [] :=
  F.binds fun kV doc pm an cdv ct us hl => match us, hl with | [u, v, t], _ => h kV doc pm an cdv ct u v t
theorem r1 (h : ∀ kV doc pm an cdv ct u, bindArgs (FnT x st kV doc pm an cdv ct) ⟨[], [(p, u)]⟩ = pure [(p, u)]) : KbR fd [p] :=
  Fun.kbr F fun kV doc pm an cdv ct us hl => match us, hl with | [u], _ => h kV doc pm an cdv ct u
theorem r2 (h : ∀ kV doc pm an cdv ct u v, bindArgs (FnT x st kV doc pm an cdv ct) ⟨[], [(p', u), (p, v)]⟩ = pure [(p, v), (p', u)]) : KbR fd [p, p'] :=
  Fun.kbr F fun kV doc pm an cdv ct us hl => match us, hl with | [u, v], _ => h kV doc pm an cdv ct u v
theorem r3 (h : ∀ kV doc pm an cdv ct u v t, bindArgs (FnT x st kV doc pm an cdv ct) ⟨[], [(p'', u), (p', v), (p, t)]⟩ = pure [(p, t), (p', v), (p'', u)]) : KbR fd [p, p', p''] :=
  Fun.kbr F fun kV doc pm an cdv ct us hl => match us, hl with | [u, v, t], _ => h kV doc pm an cdv ct u v t
end
structure CalG (P : Program) (w : World) (K : PySem.W.Frag) (mg : Str → Option Value) (base : Heap) (x : Str) (k : Nat) (ps : List Str) (sp : Sp) (f : Addr) (fd : FuncData) : Prop where
  ok : FnG P w K mg base k f fd ps sp
  g : mg x = some (.ref f)
  kp : PySem.W.keepIn K (.ref f) = true
  bd : Binds K fd ps []
theorem Cal.up {P : Program} {w : World} {K : PySem.W.Frag} {mg : Str → Option Value} {base : Heap} {x : Str} {j k : Nat} {ps : List Str} {sp : Sp} {f : Addr} {fd : FuncData} (c : Cal P w K mg base x j ps sp f fd) (h : j ≤ k) : Cal P w K mg base x k ps sp f fd := ⟨c.ok.mono h, c.g, c.kp, c.bd⟩
end Lp


namespace Lp
open PySem PySem.Spec PyProof.Rows L2
/-! ### following pointers -/
def itr (ns : List Int) (p : Int) : Nat → Int
  | 0 => p
  | k + 1 => gt ns (itr ns p k)
theorem itr_succ (ns : List Int) (p : Int) : ∀ k, itr ns p (k + 1) = itr ns (gt ns p) k
  | 0 => rfl
  | k + 1 => by
    show gt ns (itr ns p (k + 1)) = gt ns (itr ns (gt ns p) k)
    rw [itr_succ ns p k]
theorem itr_low {ns : List Int} (lo : Low ns.length ns) {p : Int} (h0 : 0 ≤ p) (h1 : p < (ns.length : Int)) : ∀ k, 0 ≤ itr ns p k ∧ itr ns p k < (ns.length : Int)
  | 0 => ⟨h0, h1⟩
  | k + 1 => by
    have ih := itr_low lo h0 h1 k
    exact gt_low lo ih.1 ih.2
def itrs (ns : List Int) (p : Int) (m : Nat) : List Int := (List.range m).map (itr ns p)
theorem itrs_len (ns : List Int) (p : Int) (m : Nat) : (itrs ns p m).length = m := by unfold itrs; rw [List.length_map, List.length_range]
theorem itrs_succ (ns : List Int) (p : Int) (m : Nat) : itrs ns p (m + 1) = itrs ns p m ++ [itr ns p m] := by
  unfold itrs; rw [List.range_succ, List.map_append]; rfl
theorem itrs_get {ns : List Int} {p : Int} {m i : Nat} (h : i < m) : (itrs ns p m)[i]? = some (itr ns p i) := by
  unfold itrs
  rw [List.getElem?_map, List.getElem?_range h]; rfl
theorem itrs_mem {ns : List Int} {p z : Int} {m : Nat} : z ∈ itrs ns p m ↔ ∃ i, i < m ∧ itr ns p i = z := by
  unfold itrs
  rw [List.mem_map]
  constructor
  · rintro ⟨i, hi, e⟩; exact ⟨i, List.mem_range.mp hi, e⟩
  · rintro ⟨i, hi, e⟩; exact ⟨i, List.mem_range.mpr hi, e⟩
/-- rs: the people met from p on, each once -/
def Route (ns : List Int) (p : Int) (rs : List Int) : Prop := ∃ L, rs = itrs ns p L ∧ rs.Nodup ∧ itr ns p L ∈ rs
theorem itrs_apart {ns : List Int} {p : Int} {m i j : Nat} (nd : (itrs ns p m).Nodup) (hi : i < m) (hj : j < m) (e : itr ns p i = itr ns p j) : i = j := by
  have h1 := itrs_get (ns := ns) (p := p) hi
  have h2 := itrs_get (ns := ns) (p := p) hj
  rw [e] at h1
  exact nd_ix nd h1 h2
theorem Route.eq {ns : List Int} {p : Int} {rs rs' : List Int} (a : Route ns p rs) (b : Route ns p rs') : rs = rs' := by
  obtain ⟨L, rfl, n1, m1⟩ := a
  obtain ⟨M, rfl, n2, m2⟩ := b
  obtain ⟨i, hi, ei⟩ := itrs_mem.mp m1
  obtain ⟨j, hj, ej⟩ := itrs_mem.mp m2
  rcases Nat.lt_trichotomy L M with h | h | h
  · exact absurd (itrs_apart n2 (show i < M by omega) h ei) (by omega)
  · rw [h]
  · exact absurd (itrs_apart n1 (show j < L by omega) h ej) (by omega)
theorem Nodup.snoc {l : List Int} {z : Int} (h : l.Nodup) (n : z ∉ l) : (l ++ [z]).Nodup := by
  rw [List.nodup_append]
  refine ⟨h, List.nodup_cons.mpr ⟨List.not_mem_nil, List.nodup_nil⟩, fun a ha b hb => ?_⟩
  rw [List.mem_singleton] at hb
  subst hb
  exact fun e => n (e ▸ ha)
theorem low_len : ∀ (n : Nat) (l : List Int), l.Nodup → Low n l → l.length ≤ n
  | 0, l, _, h => by
    cases l with
    | nil => exact Nat.le_refl 0
    | cons x r => have := h x List.mem_cons_self; omega
  | n + 1, l, nd, h => by
    have h2 := low_len n (l.filter (fun z => decide (z ≠ (n : Int)))) (nd.filter _) fun z hz => by
      have q := List.mem_filter.mp hz
      have := h z q.1
      have := of_decide_eq_true q.2
      omega
    have h3 : l.length ≤ (l.filter (fun z => decide (z ≠ (n : Int)))).length + 1 := by
      clear h h2
      induction l with
      | nil => simp
      | cons x r ih =>
        have nd' := List.nodup_cons.mp nd
        by_cases hx : x = (n : Int)
        · have e : r.filter (fun z => decide (z ≠ (n : Int))) = r := List.filter_eq_self.mpr fun z hz => decide_eq_true fun e => nd'.1 (by rw [hx, ← e]; exact hz)
          rw [List.filter_cons_of_neg (by simp [hx]), e]; exact Nat.le_refl _
        · rw [List.filter_cons_of_pos (by simp [hx]), List.length_cons, List.length_cons]
          have := ih nd'.2
          omega
    omega
/-- behind the first return the pointers go round -/
theorem itr_round {ns : List Int} {p : Int} {b d : Nat} (h : itr ns p (b + d) = itr ns p b) : ∀ t, itr ns p (b + d + t) = itr ns p (b + t)
  | 0 => h
  | t + 1 => by
    show gt ns (itr ns p (b + d + t)) = gt ns (itr ns p (b + t))
    rw [itr_round h t]
theorem itr_mod {ns : List Int} {p : Int} {b d : Nat} (hd : 0 < d) (h : itr ns p (b + d) = itr ns p b) (t : Nat) : itr ns p (b + t) = itr ns p (b + t % d) := by
  induction t using Nat.strongRecOn with
  | ind t ih =>
    by_cases ht : t < d
    · rw [Nat.mod_eq_of_lt ht]
    · have e : t = d + (t - d) := by omega
      have := ih (t - d) (by omega)
      rw [e, ← Nat.add_assoc, itr_round h, this, Nat.add_mod_left]
theorem itrs_flat (ns : List Int) (p : Int) (m : Nat) : (IL (itrs ns p m)).all flatV = true := flat_ints _
theorem eqV_int (a b : Int) : eqV (.int a) (.int b) = decide (a = b) := by
  simp only [eqV]
  by_cases h : a = b
  · subst h; simp
  · simp [h]
section
variable {P : Program} {w : World} {K : PySem.W.Frag} {mg : Str → Option Value} {base : Heap}
/-! ### route_from -/
abbrev sRoute : Stmt := topS 4
theorem scRoute : FnScope ["pointers", "person", "route", "seen", "at"] ["pointers", "person"] (defScope sRoute) := ⟨rfl, rfl, rfl, by decide +kernel, rfl, by decide +kernel, by decide +kernel⟩
def spRoute : Sp := fun vs H Q _ => ∃ (a : Addr) (p : Int) (ns : List Int), vs = [.ref a, .int p] ∧ Sq H a (IL ns) ∧ Low ns.length ns ∧ ns.length ≤ 1000 ∧ 0 ≤ p ∧ p < (ns.length : Int) ∧
  ∀ H' r rs, Same H H' → H r = none → H' r = some (.lst (IL rs)) → Route ns p rs → rs.length ≤ ns.length → Q (.ref r) H'
theorem ok_route {f : Addr} {fd : FuncData} {k : Nat} (F : Fun K "route_from" "route_from" sRoute f fd) (B : Bi mg) : FnOk P w K mg base CX0 (k + 1) f fd ["pointers", "person"] spRoute := by
  refine F.ok scRoute (fun vs H Q E h => ?_) (fun cdv A outer s H vs Q E hr h => ?_)
  · obtain ⟨a, p, ns, rfl, _⟩ := h
    rfl
  · obtain ⟨a, p, ns, rfl, hS, lo, ln, p0, p1, q⟩ := h
    refine ⟨_, pss_cons (ps_set (i := 2) scRoute.nd rfl (.inl rfl) (pe_lst pa_nil))
      (pss_cons (ps_set (i := 3) scRoute.nd rfl (.inl rfl) (pe_callTy0 cr_set0 (by rfl) B.set (by decide +kernel)))
      (pss_cons (ps_set (i := 4) scRoute.nd rfl (.inl rfl) (pv 1))
      (pss_cons (ps_while PassesOwn.never (PW.pt (pw_and (pt_cmpR op_notN (pv 4) pe_non (nomark _)) (pw_and1 (pt_cmpR or_snotin (pv 4) (pv 3) (by rfl)))))
        (pss_cons (ps_expr (pe_sadd (pv 3) (pa_cons (pv 4) pa_nil)))
        (pss_cons (ps_expr (pe_bm PySem.F.plainAttrs_list PySem.F.slot_list_append PySem.F.type_list_append mt_append (pv 2) (pa_cons (pv 4) pa_nil)))
        (pss_one (ps_set (i := 4) scRoute.nd rfl (.inl rfl) (pe_ix ix_seq (pv 0) (pv 4) (fun _ _ => rfl)))))))
      (pss_one (ps_ret (pv 2)))))), ?_⟩
    refine ⟨Nat.zero_le _, fun r nr => ⟨rfl, fun e ne => ⟨.int p, rfl, ?_⟩⟩⟩
    have n0 : H e = none := (same_new nr).free ne
    have re : r ≠ e := fun z => by
      rw [← z, upd_same] at ne
      cases ne
    refine ⟨fun m σ H3 => ∃ L S c, σ = [some (.ref a), some (.int p), some (.ref r), some (.ref e), some (.int (itr ns p L))] ∧ Same H H3 ∧ H3 r = some (.lst (IL (itrs ns p L))) ∧ H3 e = some (SetO w e S c) ∧ c ≤ L ∧ (∀ z, S z = decide (z ∈ itrs ns p L)) ∧ (itrs ns p L).Nodup ∧ m + L = ns.length, ⟨ns.length, 0, fun _ => false, 0, rfl, (same_new nr).trans (same_new ne), ?_, upd_same, Nat.le_refl 0, fun z => rfl, List.nodup_nil, rfl⟩, ?_⟩
    · rw [upd_ne re, upd_same]; rfl
    · rintro m σ H3 ⟨L, S, c, rfl, sm, hr3, he, hc, hS3, nd, em⟩
      have il := itr_low lo p0 p1 L
      refine ⟨.int (itr ns p L), rfl, rfl, _, rfl, ?_⟩
      show (if (!decide (V.int (itr ns p L) = V.non)) = true then _ else _)
      rw [if_pos (show (!decide (V.int (itr ns p L) = V.non)) = true by rw [decide_eq_false (fun z => nomatch z)]; rfl)]
      refine ⟨.int (itr ns p L), rfl, .ref e, rfl, _, e, S, c, rfl, rfl, he, _, rfl, ?_⟩
      rw [hS3]
      refine ite2 (fun hb => ?_) (fun hb => ?_)
      · have nin : itr ns p L ∉ itrs ns p L := fun z => by
          rw [decide_eq_true z] at hb; cases hb
        have nd2 : (itrs ns p (L + 1)).Nodup := by rw [itrs_succ]; exact Nodup.snoc nd nin
        have lt : L + 1 ≤ ns.length := by
          have := low_len ns.length _ nd2 fun z hz => by
            obtain ⟨i, _, ei⟩ := itrs_mem.mp hz
            have := itr_low lo p0 p1 i
            omega
          rw [itrs_len] at this; exact this
        refine ⟨fun σ' H' => ∃ m', m' < m ∧ ∃ L S c, σ' = [some (.ref a), some (.int p), some (.ref r), some (.ref e), some (.int (itr ns p L))] ∧ Same H H' ∧ H' r = some (.lst (IL (itrs ns p L))) ∧ H' e = some (SetO w e S c) ∧ c ≤ L ∧ (∀ z, S z = decide (z ∈ itrs ns p L)) ∧ (itrs ns p L).Nodup ∧ m' + L = ns.length, fun σ' H' h => h, ?_⟩
        refine ⟨.ref e, rfl, ⟨e, S, c, rfl, he⟩, .int (itr ns p L), rfl, e, _, S, c, rfl, rfl, he, (by show c + 1 < 4096; omega), ?_⟩
        have hr4 : (upd H3 e (SetO w e (fun j => S j || decide (j = itr ns p L)) (if S (itr ns p L) = true then c else c + 1))) r = some (.lst (IL (itrs ns p L))) := by rw [upd_ne re]; exact hr3
        refine ⟨.ref r, rfl, .inl ⟨rfl, _, SqL.of hr4⟩, .int (itr ns p L), rfl, r, _, _, rfl, rfl, hr4, ?_, ?_⟩
        · rw [List.length_map, itrs_len]; exact szl (by omega)
        · have s5 : Same H (upd (upd H3 e (SetO w e (fun j => S j || decide (j = itr ns p L)) (if S (itr ns p L) = true then c else c + 1))) r (.lst (IL (itrs ns p L) ++ [.int (itr ns p L)]))) := same_mut (same_mut sm n0) nr
          have fin : ∃ m', m' < m ∧ ∃ L' S' c', [some (V.ref a), some (.int p), some (.ref r), some (.ref e), some (.int (gt ns (itr ns p L)))] = [some (.ref a), some (.int p), some (.ref r), some (.ref e), some (.int (itr ns p L'))] ∧ Same H (upd (upd H3 e (SetO w e (fun j => S j || decide (j = itr ns p L)) (if S (itr ns p L) = true then c else c + 1))) r (.lst (IL (itrs ns p L) ++ [.int (itr ns p L)]))) ∧ (upd (upd H3 e (SetO w e (fun j => S j || decide (j = itr ns p L)) (if S (itr ns p L) = true then c else c + 1))) r (.lst (IL (itrs ns p L) ++ [.int (itr ns p L)]))) r = some (.lst (IL (itrs ns p L'))) ∧ (upd (upd H3 e (SetO w e (fun j => S j || decide (j = itr ns p L)) (if S (itr ns p L) = true then c else c + 1))) r (.lst (IL (itrs ns p L) ++ [.int (itr ns p L)]))) e = some (SetO w e S' c') ∧ c' ≤ L' ∧ (∀ z, S' z = decide (z ∈ itrs ns p L')) ∧ (itrs ns p L').Nodup ∧ m' + L' = ns.length := by
            refine ⟨m - 1, by omega, L + 1, (fun j => S j || decide (j = itr ns p L)), (if S (itr ns p L) = true then c else c + 1), rfl, s5, ?_, ?_, ?_, ?_, nd2, by omega⟩
            · rw [upd_same, IL_app, itrs_succ]
            · rw [upd_ne (Ne.symm re), upd_same]
            · split <;> omega
            · intro z
              show (S z || decide (z = itr ns p L)) = _
              rw [hS3, itrs_succ]
              by_cases h1 : z ∈ itrs ns p L
              · rw [decide_eq_true h1, decide_eq_true (List.mem_append_left _ h1)]; rfl
              · by_cases h2 : z = itr ns p L
                · rw [decide_eq_true h2, Bool.or_true, decide_eq_true (List.mem_append_right _ (List.mem_singleton.mpr h2))]
                · rw [decide_eq_false h1, decide_eq_false h2, decide_eq_false fun q => (List.mem_append.mp q).elim h1 fun q2 => h2 (List.mem_singleton.mp q2)]; rfl
          have ga := gt_at (ns := ns) il.1 il.2
          rcases hS with hS | hS
          · exact ⟨.ref a, rfl, .int (itr ns p L), rfl, .inl ⟨a, _, _, _, rfl, rfl, SqL.of (s5 _ _ hS), ga, fin⟩⟩
          · exact ⟨.ref a, rfl, .int (itr ns p L), rfl, .inr (.inl ⟨a, _, _, _, rfl, rfl, SqT.of (s5 _ _ hS), ga, fin⟩)⟩
      · have hin : itr ns p L ∈ itrs ns p L := by
          by_cases z : itr ns p L ∈ itrs ns p L
          · exact z
          · rw [decide_eq_false z] at hb; exact absurd rfl hb
        exact ⟨.ref r, rfl, q H3 r _ sm nr hr3 ⟨L, rfl, nd, hin⟩ (by rw [itrs_len]; omega)⟩
/-! ### ring_begin -/
abbrev sBegin : Stmt := topS 5
theorem scBegin : FnScope ["state", "route"] ["state", "route"] (defScope sBegin) := ⟨rfl, rfl, rfl, by decide +kernel, rfl, by decide +kernel, by decide +kernel⟩
def spBegin : Sp := fun vs H Q _ => ∃ (a r : Addr) (ns : List Int) (p : Int) (L : Nat), vs = [.ref a, .ref r] ∧ Sq H a (IL ns) ∧ Low ns.length ns ∧ 0 ≤ p ∧ p < (ns.length : Int) ∧ H r = some (.lst (IL (itrs ns p L))) ∧ (itrs ns p L).Nodup ∧ itr ns p L ∈ itrs ns p L ∧
  ∀ b : Nat, b < L → itr ns p b = itr ns p L → Q (.int b) H
theorem ok_begin {f : Addr} {fd : FuncData} {k : Nat} (F : Fun K "ring_begin" "ring_begin" sBegin f fd) : FnOk P w K mg base CX0 (k + 1) f fd ["state", "route"] spBegin := by
  refine F.ok scBegin (fun vs H Q E h => ?_) (fun cdv A outer s H vs Q E hr h => ?_)
  · obtain ⟨a, r, ns, p, L, rfl, _⟩ := h
    rfl
  · obtain ⟨a, r, ns, p, L, rfl, hS, lo, p0, p1, hr3, nd, hin, q⟩ := h
    refine ⟨_, pss_one (ps_ret (pe_bm PySem.F.plainAttrs_list PySem.F.slot_list_index PySem.F.type_list_index mt_index (pv 1) (pa_cons (pe_ix ix_seq (pv 0) (pe_ix ix_list (pv 1) (pe_un un_neg pe_int) (fun _ _ => rfl)) (fun _ _ => rfl)) pa_nil))), ?_⟩
    obtain ⟨b, hb, eb⟩ := itrs_mem.mp hin
    obtain ⟨M, rfl⟩ : ∃ M, L = M + 1 := ⟨L - 1, by omega⟩
    have il := itr_low lo p0 p1 M
    have ga : atI (IL ns) (itr ns p M) = some (.int (itr ns p (M + 1))) := gt_at il.1 il.2
    have last : atI (IL (itrs ns p (M + 1))) (-1) = some (.int (itr ns p M)) := at_last (i := M) (by rw [List.length_map, itrs_len]) (IL_get (itrs_get (Nat.lt_succ_self M)))
    have fin : rIndex K (.ref r) [.int (itr ns p (M + 1))] H Q := by
      refine ⟨r, _, _, b, .int (itr ns p b), rfl, rfl, SqL.of hr3, rfl, itrs_flat _ _ _, IL_get (itrs_get hb), ?_, fun m z' hm hz => ?_, q b hb eb⟩
      · rw [eqV_int, decide_eq_true eb]
      · rw [IL_get (itrs_get (show m < M + 1 by omega))] at hz
        cases hz
        rw [eqV_int]
        refine decide_eq_false fun e => ?_
        exact absurd (itrs_apart nd (show m < M + 1 by omega) hb (e.trans eb.symm)) (by omega)
    rcases hS with hS | hS
    · exact ⟨.ref r, rfl, .inl ⟨rfl, _, SqL.of hr3⟩, .ref a, rfl, .ref r, rfl, 1, rfl, r, _, -1, _, rfl, rfl, SqL.of hr3, last, .inl ⟨a, _, _, _, rfl, rfl, SqL.of hS, ga, fin⟩⟩
    · exact ⟨.ref r, rfl, .inl ⟨rfl, _, SqL.of hr3⟩, .ref a, rfl, .ref r, rfl, 1, rfl, r, _, -1, _, rfl, rfl, SqL.of hr3, last, .inr (.inl ⟨a, _, _, _, rfl, rfl, SqT.of hS, ga, fin⟩)⟩
/-! ### way -/
abbrev sWay : Stmt := topS 6
theorem scWay : FnScope ["state", "person"] ["state", "person"] (defScope sWay) := ⟨rfl, rfl, rfl, by decide +kernel, rfl, by decide +kernel, by decide +kernel⟩
def spWay : Sp := fun vs H Q _ => ∃ (a : Addr) (p : Int) (ns : List Int), vs = [.ref a, .int p] ∧ Sq H a (IL ns) ∧ Low ns.length ns ∧ ns.length ≤ 1000 ∧ 0 ≤ p ∧ p < (ns.length : Int) ∧
  ∀ H' r rs, Same H H' → H r = none → H' r = some (.lst (IL rs)) → Route ns (gt ns p) rs → rs.length ≤ ns.length → Q (.ref r) H'
theorem ok_way {f fC fR : Addr} {fd fdC fdR : FuncData} {k : Nat} (F : Fun K "way" "way" sWay f fd) (C : Cal P w K mg base "check_person" (k + 1) ["state", "person"] spCheckP fC fdC) (R : Cal P w K mg base "route_from" (k + 1) ["pointers", "person"] spRoute fR fdR) : FnOk P w K mg base CX0 (k + 2) f fd ["state", "person"] spWay := by
  refine F.ok scWay (fun vs H Q E h => ?_) (fun cdv A outer s H vs Q E hr h => ?_)
  · obtain ⟨a, p, ns, rfl, _⟩ := h
    rfl
  · obtain ⟨a, p, ns, rfl, hS, lo, ln, p0, p1, q⟩ := h
    refine ⟨_, pss_cons (ps_expr (pe_call C.ok hr (by rfl) C.g C.kp C.bd .nil pass0 (pa_cons (pv 0) (pa_cons (pv 1) pa_nil))))
      (pss_one (ps_ret (pe_call R.ok hr (by rfl) R.g R.kp R.bd .nil pass0 (pa_cons (pv 0) (pa_cons (pe_ix ix_seq (pv 0) (pv 1) (fun _ _ => rfl)) pa_nil))))), ?_⟩
    refine ⟨.ref a, rfl, .int p, rfl, a, p, _, rfl, hS, p0, by rw [List.length_map]; exact p1, ?_⟩
    have g := gt_low lo p0 p1
    have fin : spRoute [.ref a, .int (gt ns p)] H Q E0 := ⟨a, gt ns p, ns, rfl, hS, lo, ln, g.1, g.2, q⟩
    have ga := gt_at (ns := ns) p0 p1
    rcases id hS with hS | hS
    · exact ⟨.ref a, rfl, .ref a, rfl, .int p, rfl, .inl ⟨a, _, _, _, rfl, rfl, SqL.of hS, ga, fin⟩⟩
    · exact ⟨.ref a, rfl, .ref a, rfl, .int p, rfl, .inr (.inl ⟨a, _, _, _, rfl, rfl, SqT.of hS, ga, fin⟩)⟩
/-! ### person_after -/
abbrev sAfterP : Stmt := topS 7
theorem scAfterP : FnScope ["state", "person", "steps", "route", "begin"] ["state", "person", "steps"] (defScope sAfterP) := ⟨rfl, rfl, rfl, by decide +kernel, rfl, by decide +kernel, by decide +kernel⟩
def spAfterP : Sp := fun vs H Q _ => ∃ (a : Addr) (p t : Int) (ns : List Int), vs = [.ref a, .int p, .int t] ∧ Sq H a (IL ns) ∧ Low ns.length ns ∧ ns.length ≤ 1000 ∧ 0 ≤ p ∧ p < (ns.length : Int) ∧ 0 ≤ t ∧
  ∀ H', Same H H' → Q (.int (itr ns p t.toNat)) H'
theorem ok_afterP {f fC fR fB : Addr} {fd fdC fdR fdB : FuncData} {k : Nat} (F : Fun K "person_after" "person_after" sAfterP f fd) (B : Bi mg) (C : Cal P w K mg base "check_person" (k + 1) ["state", "person"] spCheckP fC fdC) (R : Cal P w K mg base "route_from" (k + 1) ["pointers", "person"] spRoute fR fdR) (G : Cal P w K mg base "ring_begin" (k + 1) ["state", "route"] spBegin fB fdB) : FnOk P w K mg base CX0 (k + 2) f fd ["state", "person", "steps"] spAfterP := by
  refine F.ok scAfterP (fun vs H Q E h => ?_) (fun cdv A outer s H vs Q E hr h => ?_)
  · obtain ⟨a, p, t, ns, rfl, _⟩ := h
    rfl
  · obtain ⟨a, p, t, ns, rfl, hS, lo, ln, p0, p1, t0, q⟩ := h
    refine ⟨_, pss_cons (ps_expr (pe_call C.ok hr (by rfl) C.g C.kp C.bd .nil pass0 (pa_cons (pv 0) (pa_cons (pv 1) pa_nil))))
      (pss_cons (ps_set (i := 3) scAfterP.nd rfl (.inl rfl) (pe_call R.ok hr (by rfl) R.g R.kp R.bd .nil pass0 (pa_cons (pv 0) (pa_cons (pv 1) pa_nil))))
      (pss_cons (ps_if (pt_cmpR op_lt (pv 2) (pe_callB call_len_seq (by rfl) B.len PySem.boot_len (pa_cons (pv 3) pa_nil)) (nomark _)) (pss_one (ps_ret (pe_ix ix_list (pv 3) (pv 2) (fun _ _ => rfl)))) pss_nil)
      (pss_cons (ps_set (i := 4) scAfterP.nd rfl (.inl rfl) (pe_call G.ok hr (by rfl) G.g G.kp G.bd .nil pass0 (pa_cons (pv 0) (pa_cons (pv 3) pa_nil))))
      (pss_one (ps_ret (pe_ix ix_list (pv 3) (pe_op op_add (pv 4) (pe_op op_mod (pe_op op_sub (pv 2) (pv 4)) (pe_op op_sub (pe_callB call_len_seq (by rfl) B.len PySem.boot_len (pa_cons (pv 3) pa_nil)) (pv 4)))) (fun _ _ => rfl))))))), ?_⟩
    refine ⟨.ref a, rfl, .int p, rfl, a, p, _, rfl, hS, p0, by rw [List.length_map]; exact p1, ?_⟩
    refine ⟨.ref a, rfl, .int p, rfl, a, p, ns, rfl, hS, lo, ln, p0, p1, fun H1 r rs s1 nr hr1 rt rl => ?_⟩
    obtain ⟨L, rfl, nd, hin⟩ := rt
    have hl : (IL (itrs ns p L)).length = L := by rw [List.length_map, itrs_len]
    refine ⟨.int t, rfl, .ref r, rfl, r, _, rfl, .inl (SqL.of hr1), t, _, rfl, rfl, _, rfl, ?_⟩
    rw [hl]
    refine ite2 (fun e => ?_) (fun e => ?_)
    · have e1 : t < (L : Int) := of_decide_eq_true e
      exact ⟨.ref r, rfl, .int t, rfl, r, _, t, _, rfl, rfl, SqL.of hr1, at_of (j := t.toNat) (by omega) (IL_get (itrs_get (by omega))), q H1 s1⟩
    · have e1 : ¬ t < (L : Int) := fun z => e (decide_eq_true z)
      refine ⟨.ref a, rfl, .ref r, rfl, a, r, ns, p, L, rfl, hS.mono s1, lo, p0, p1, hr1, nd, hin, fun b hb eb => ?_⟩
      have hd : (0 : Int) < (L : Int) - b := by omega
      have m0 := Int.emod_nonneg (t - b) (show ((L : Int) - b) ≠ 0 by omega)
      have m1 := Int.emod_lt_of_pos (t - b) hd
      have eN : ((b : Int) + (t - b) % ((L : Int) - b)).toNat = b + (t.toNat - b) % (L - b) := by
        have e2 : (t - (b : Int)) = ((t.toNat - b : Nat) : Int) := by omega
        have e3 : ((L : Int) - b) = ((L - b : Nat) : Int) := by omega
        rw [e2, e3, ← Int.natCast_emod, ← Int.natCast_add]; rfl
      refine ⟨.ref r, rfl, .int b, rfl, .int t, rfl, .int b, rfl, t, b, rfl, rfl, .ref r, rfl, r, _, rfl, .inl (SqL.of hr1), .int b, rfl, _, b, rfl, rfl, _, _, rfl, rfl, ?_, b, _, rfl, rfl, r, _, _, .int (itr ns p t.toNat), rfl, rfl, SqL.of hr1, ?_, q H1 s1⟩
      · rw [hl]; exact hd
      · rw [hl]
        refine at_of (j := ((b : Int) + (t - b) % ((L : Int) - b)).toNat) (by omega) ?_
        rw [IL_get (itrs_get (show ((b : Int) + (t - b) % ((L : Int) - b)).toNat < L by omega)), eN]
        have hper : itr ns p (b + (L - b)) = itr ns p b := by rw [show b + (L - b) = L by omega]; exact eb.symm
        have := itr_mod (show 0 < L - b by omega) hper (t.toNat - b)
        rw [show b + (t.toNat - b) = t.toNat by omega] at this
        rw [this]
end
end Lp


namespace Lp
open PySem PySem.Spec PyProof.Rows L2
theorem cut_from {ns : List Int} {b : Nat} (h : b ≤ ns.length) : cutV (IL ns) (some (b : Int)) none = IL (ns.drop b) := by
  rw [cut_IL, HT.sIx_none, sIx_int _ _ _ (by omega)]
  have e : min (b : Int).toNat ns.length = b := by omega
  rw [e, List.take_of_length_le (by rw [List.length_drop]; exact Nat.le_refl _)]
section
variable {P : Program} {w : World} {K : PySem.W.Frag} {mg : Str → Option Value} {base : Heap}
/-! ### draws from a wide span -/
def spTakeW : Sp := fun vs H Q _ => ∃ (b : Addr) (span : Int) (c : Nat), vs = [.ref b, .int span] ∧ Box H b c ∧ c ≤ 900000000 ∧ 1 ≤ span ∧ span ≤ 10000000000000 ∧
  ∀ H' (r : Int), Sb b H H' → Box H' b (c + 2) → 0 ≤ r → r < span → Q (.int r) H'
def spTakeB : Sp := fun vs H Q _ => ∃ (b : Addr) (span : Int) (c : Nat), vs = [.ref b, .int span] ∧ Box H b c ∧ c ≤ 900000000 ∧ 10000000 < span ∧ span ≤ 10000000000000 ∧
  ∀ H' (r : Int), Sb b H H' → Box H' b (c + 2) → 0 ≤ r → r < span → Q (.int r) H'
theorem ok_takeB {f : Addr} {fd : FuncData} {k : Nat} (F : Fun K "_law_take" "_law_take" sTake f fd) (T : Cal P w K mg base "_law_take" (k + 1) psT spTake f fd) : FnOk P w K mg base CX0 (k + 2) f fd psT spTakeB := by
  refine F.ok scTake (fun vs H Q E h => ?_) (fun cdv A outer s H vs Q E hr h => ?_)
  · obtain ⟨b, span, c, rfl, _⟩ := h
    rfl
  · obtain ⟨b, span, c, rfl, hB, hc, hs1, hs2, q⟩ := h
    obtain ⟨x0, x1, x2, hb, h0, h1, h2, h3, h4⟩ := id hB
    refine ⟨_, pss_cons (ps_if (pt_cmpR op_gt (pe_ix ix_list (pv 0) pe_int (fun _ _ => rfl)) pe_int (nomark _))
        (pss_cons (ps_set (i := 2) scTake.nd rfl (.inl rfl) (pe_op op_mod (pe_ix ix_list (pv 0) pe_int (fun _ _ => rfl)) (pv 1)))
        (pss_cons (ps_asg (pe_op op_fdivW (pe_ix ix_list (pv 0) pe_int (fun _ _ => rfl)) (pv 1)) (pg_sub (pv 0) pe_int set_list))
        (pss_one (ps_ret (pv 2))))) pss_nil)
      (pss_cons (ps_if (pt_cmpR op_gt (pv 1) (pe_op op_pow pe_int pe_int) (nomark _))
        (pss_one (ps_ret (pe_op op_mod (pe_op op_add (pe_call T.ok hr (by rfl) T.g T.kp T.bd .nil pass0 (pa_cons (pv 0) (pa_cons (pe_op op_pow pe_int pe_int) pa_nil))) (pe_op op_mul (pe_op op_pow pe_int pe_int) (pe_call T.ok hr (by rfl) T.g T.kp T.bd .nil pass0 (pa_cons (pv 0) (pa_cons (pe_op op_add (pe_op op_fdiv (pe_op op_sub (pv 1) pe_int) (pe_op op_pow pe_int pe_int)) pe_int) pa_nil))))) (pv 1)))) pss_nil)
      pss_never), ?_⟩
    have ix : SqL K H b [.int x0, .int x1, .int x2] := SqL.of hb
    refine ⟨.ref b, rfl, b, _, 0, .int x0, rfl, rfl, ix, rfl, x0, 0, rfl, rfl, _, rfl, ite2 (fun e => ?_) (fun e => ?_)⟩
    · have e0 : 0 < x0 := of_decide_eq_true e
      refine ⟨.ref b, rfl, b, _, 0, .int x0, rfl, rfl, ix, rfl, .int span, rfl, x0, span, rfl, rfl, (by show (0 : Int) < span; omega), ?_⟩
      refine ⟨.ref b, rfl, b, _, 0, .int x0, rfl, rfl, ix, rfl, .int span, rfl, x0, span, rfl, rfl, wide_div (b := 64) (by omega) (by omega) (by decide) (by decide), ?_⟩
      refine ⟨.ref b, rfl, b, _, 0, 0, rfl, rfl, hb, rfl, ?_⟩
      refine ⟨.int (x0 % span), rfl, q _ _ (Sb.upd (Sb.refl b H)) ⟨x0 / span, x1, x2, upd_same, ?_, h1, h2, h3, by omega⟩ (Int.emod_nonneg _ (by omega)) (Int.emod_lt_of_pos _ (by omega))⟩
      exact Int.ediv_nonneg h0 (by omega)
    · have p7 : (10 : Int) ^ (7 : Int).toNat = 10000000 := by decide
      refine ⟨.int span, rfl, 10, 7, rfl, rfl, ⟨by decide, by decide, by decide⟩, span, _, rfl, rfl, _, rfl, ?_⟩
      have e1 : (10 : Int) ^ (7 : Int).toNat < span := by rw [p7]; omega
      rw [decide_eq_true e1]
      refine iteT ?_
      refine ⟨.ref b, rfl, 10, 7, rfl, rfl, ⟨by decide, by decide, by decide⟩, b, _, c, rfl, hB, by omega, by decide, by decide, fun H1 r1 sb1 hB1 r10 r11 => ?_⟩
      refine ⟨10, 7, rfl, rfl, ⟨by decide, by decide, by decide⟩, .ref b, rfl, .int span, rfl, span, 1, rfl, rfl, 10, 7, rfl, rfl, ⟨by decide, by decide, by decide⟩, _, _, rfl, rfl, ⟨by decide, by decide⟩, _, 1, rfl, rfl, b, _, c + 1, rfl, hB1, by omega, ?_, ?_, fun H2 r2 sb2 hB2 r20 r21 => ?_⟩
      · show 1 ≤ (span - 1) / (10 : Int) ^ (7 : Int).toNat + 1
        rw [p7]; omega
      · show (span - 1) / (10 : Int) ^ (7 : Int).toNat + 1 ≤ 10000000
        rw [p7]; omega
      · refine ⟨_, r2, rfl, rfl, .inl ⟨by decide, by decide⟩, r1, _, rfl, rfl, .int span, rfl, _, span, rfl, rfl, (by show (0 : Int) < span; omega), ?_⟩
        exact q H2 _ (sb1.trans sb2) (hB2.le (by omega)) (Int.emod_nonneg _ (by omega)) (Int.emod_lt_of_pos _ (by omega))
theorem ok_takeW {f : Addr} {fd : FuncData} {k : Nat} (F : Fun K "_law_take" "_law_take" sTake f fd) (T : Cal P w K mg base "_law_take" (k + 1) psT spTake f fd) : FnOk P w K mg base CX0 (k + 2) f fd psT spTakeW :=
  FnOk.imp (fn_or (ok_take F) (ok_takeB F T)) fun vs H Q E h => by
    obtain ⟨b, span, c, rfl, hB, hc, h1, h2, q⟩ := h
    by_cases hs : span ≤ 10000000
    · exact .inl ⟨b, span, c, rfl, hB, by omega, h1, hs, fun H' r sb hB' => q H' r sb (hB'.le (by omega))⟩
    · exact .inr ⟨b, span, c, rfl, hB, hc, by omega, h2, q⟩
/-! ### _law_met -/
abbrev sMet : Stmt := topS 18
theorem scMet : FnScope ["_law_here", "_law_who", "_law_found"] ["_law_here", "_law_who"] (defScope sMet) := ⟨rfl, rfl, rfl, by decide +kernel, rfl, by decide +kernel, by decide +kernel⟩
def spMet : Sp := fun vs H Q _ => ∃ (a : Addr) (p : Int) (ns : List Int), vs = [.ref a, .int p] ∧ H a = some (.tup (IL ns)) ∧ Low ns.length ns ∧ ns.length ≤ 1000 ∧ 0 ≤ p ∧ p < (ns.length : Int) ∧
  ∀ H' r rs, Same H H' → H r = none → H' r = some (.lst (IL rs)) → Route ns (gt ns p) rs → rs.length ≤ ns.length → Q (.ref r) H'
theorem ok_met {f : Addr} {fd : FuncData} {k : Nat} (F : Fun K "_law_met" "_law_met" sMet f fd) (B : Bi mg) : FnOk P w K mg base CX0 (k + 1) f fd ["_law_here", "_law_who"] spMet := by
  refine F.ok scMet (fun vs H Q E h => ?_) (fun cdv A outer s H vs Q E hr h => ?_)
  · obtain ⟨a, p, ns, rfl, _⟩ := h
    rfl
  · obtain ⟨a, p, ns, rfl, hS, lo, ln, p0, p1, q⟩ := h
    refine ⟨_, pss_cons (ps_set (i := 2) scMet.nd rfl (.inl rfl) (pe_lst pa_nil))
      (pss_cons (ps_while PassesOwn.never (pt_cmpR op_notIn_seq (pe_ix ix_tup (pv 0) (pv 1) (fun _ _ => rfl)) (pv 2) (by rfl))
        (pss_cons (ps_set (i := 1) scMet.nd rfl (.inl rfl) (pe_ix ix_tup (pv 0) (pv 1) (fun _ _ => rfl)))
        (pss_one (ps_expr (pe_bm PySem.F.plainAttrs_list PySem.F.slot_list_append PySem.F.type_list_append mt_append (pv 2) (pa_cons (pv 1) pa_nil))))))
      (pss_one (ps_ret (pv 2)))), ?_⟩
    have g0 := gt_low lo p0 p1
    refine ⟨Nat.zero_le _, fun r nr => ?_⟩
    refine ⟨fun m σ H3 => ∃ L, σ = [some (.ref a), some (.int (itr ns p L)), some (.ref r)] ∧ Same H H3 ∧ H3 r = some (.lst (IL (itrs ns (gt ns p) L))) ∧ (itrs ns (gt ns p) L).Nodup ∧ m + L = ns.length, ⟨ns.length, 0, rfl, same_new nr, upd_same, List.nodup_nil, rfl⟩, ?_⟩
    rintro m σ H3 ⟨L, rfl, sm, hr3, nd, em⟩
    have il := itr_low lo p0 p1 L
    have ga : atI (IL ns) (itr ns p L) = some (.int (itr ns (gt ns p) L)) := by
      rw [gt_at il.1 il.2, ← itr_succ]; rfl
    have hS3 := sm _ _ hS
    refine ⟨.ref a, rfl, .int (itr ns p L), rfl, a, _, _, _, rfl, rfl, SqT.of hS3, ga, .ref r, rfl, r, _, rfl, .inl (SqL.of hr3), rfl, itrs_flat _ _ _, _, rfl, ?_⟩
    rw [if_pos rfl, inV_ints]
    refine ite2 (fun hb => ?_) (fun hb => ?_)
    · have nin : itr ns (gt ns p) L ∉ itrs ns (gt ns p) L := fun z => by
        rw [decide_eq_true z] at hb; cases hb
      have nd2 : (itrs ns (gt ns p) (L + 1)).Nodup := by rw [itrs_succ]; exact Nodup.snoc nd nin
      have lt : L + 1 ≤ ns.length := by
        have := low_len ns.length _ nd2 fun z hz => by
          obtain ⟨i, _, ei⟩ := itrs_mem.mp hz
          have := itr_low lo g0.1 g0.2 i
          omega
        rw [itrs_len] at this; exact this
      refine ⟨fun σ' H' => ∃ m', m' < m ∧ ∃ L, σ' = [some (.ref a), some (.int (itr ns p L)), some (.ref r)] ∧ Same H H' ∧ H' r = some (.lst (IL (itrs ns (gt ns p) L))) ∧ (itrs ns (gt ns p) L).Nodup ∧ m' + L = ns.length, fun σ' H' h => h, ?_⟩
      refine ⟨.ref a, rfl, .int (itr ns p L), rfl, a, _, _, _, rfl, rfl, SqT.of hS3, ga, ?_⟩
      refine ⟨.ref r, rfl, .inl ⟨rfl, _, SqL.of hr3⟩, .int (itr ns (gt ns p) L), rfl, r, _, _, rfl, rfl, hr3, ?_, m - 1, by omega, L + 1, ?_, same_mut sm nr, ?_, nd2, by omega⟩
      · rw [List.length_map, itrs_len]; exact szl (by omega)
      · rw [itr_succ]; rfl
      · rw [upd_same, IL_app, itrs_succ]
    · have hin : itr ns (gt ns p) L ∈ itrs ns (gt ns p) L := by
        by_cases z : itr ns (gt ns p) L ∈ itrs ns (gt ns p) L
        · exact z
        · rw [decide_eq_false z] at hb; exact absurd rfl hb
      exact ⟨.ref r, rfl, q H3 r _ sm nr hr3 ⟨L, rfl, nd, hin⟩ (by rw [itrs_len]; omega)⟩
/-! ### _law_after -/
abbrev sAfterL : Stmt := topS 19
theorem scAfterL : FnScope ["_law_here", "_law_who", "_law_far", "_law_found", "_law_lap"] ["_law_here", "_law_who", "_law_far"] (defScope sAfterL) := ⟨rfl, rfl, rfl, by decide +kernel, rfl, by decide +kernel, by decide +kernel⟩
def spAfterL : Sp := fun vs H Q _ => ∃ (a : Addr) (p t : Int) (ns : List Int), vs = [.ref a, .int p, .int t] ∧ H a = some (.tup (IL ns)) ∧ Low ns.length ns ∧ ns.length ≤ 1000 ∧ 0 ≤ p ∧ p < (ns.length : Int) ∧ 1 ≤ t ∧
  ∀ H', Same H H' → Q (.int (itr ns p t.toNat)) H'
theorem ok_afterL {f fM : Addr} {fd fdM : FuncData} {k : Nat} (F : Fun K "_law_after" "_law_after" sAfterL f fd) (B : Bi mg) (M : Cal P w K mg base "_law_met" (k + 1) ["_law_here", "_law_who"] spMet fM fdM) : FnOk P w K mg base CX0 (k + 2) f fd ["_law_here", "_law_who", "_law_far"] spAfterL := by
  refine F.ok scAfterL (fun vs H Q E h => ?_) (fun cdv A outer s H vs Q E hr h => ?_)
  · obtain ⟨a, p, t, ns, rfl, _⟩ := h
    rfl
  · obtain ⟨a, p, t, ns, rfl, hS, lo, ln, p0, p1, t1, q⟩ := h
    refine ⟨_, pss_cons (ps_set (i := 3) scAfterL.nd rfl (.inl rfl) (pe_call M.ok hr (by rfl) M.g M.kp M.bd .nil pass0 (pa_cons (pv 0) (pa_cons (pv 1) pa_nil))))
      (pss_cons (ps_if (pt_cmpR op_eq (pv 2) pe_int (nomark _)) pss_never pss_nil)
      (pss_cons (ps_if (pt_cmpR op_le (pv 2) (pe_callB call_len_seq (by rfl) B.len PySem.boot_len (pa_cons (pv 3) pa_nil)) (nomark _)) (pss_one (ps_ret (pe_ix ix_list (pv 3) (pe_op op_sub (pv 2) pe_int) (fun _ _ => rfl)))) pss_nil)
      (pss_cons (ps_set (i := 4) scAfterL.nd rfl (.inl rfl) (pe_slice sl_list (pv 3) (po_some (pe_bm PySem.F.plainAttrs_list PySem.F.slot_list_index PySem.F.type_list_index mt_index (pv 3) (pa_cons (pe_ix ix_tup (pv 0) (pe_ix ix_list (pv 3) (pe_un un_neg pe_int) (fun _ _ => rfl)) (fun _ _ => rfl)) pa_nil))) po_none))
      (pss_one (ps_ret (pe_ix ix_list (pv 4) (pe_op op_mod (pe_op op_sub (pe_op op_sub (pv 2) pe_int) (pe_op op_sub (pe_callB call_len_seq (by rfl) B.len PySem.boot_len (pa_cons (pv 3) pa_nil)) (pe_callB call_len_seq (by rfl) B.len PySem.boot_len (pa_cons (pv 4) pa_nil)))) (pe_callB call_len_seq (by rfl) B.len PySem.boot_len (pa_cons (pv 4) pa_nil))) (fun _ _ => rfl))))))), ?_⟩
    have g0 := gt_low lo p0 p1
    refine ⟨.ref a, rfl, .int p, rfl, a, p, ns, rfl, hS, lo, ln, p0, p1, fun H1 r rs s1 nr hr1 rt rl => ?_⟩
    obtain ⟨L, rfl, nd, hin⟩ := rt
    have hl : (IL (itrs ns (gt ns p) L)).length = L := by rw [List.length_map, itrs_len]
    refine ⟨.int t, rfl, rfl, _, rfl, ?_⟩
    rw [decide_eq_false (fun z : V.int t = V.int 0 => by have := V.int.inj z; omega)]
    refine iteF ?_
    refine ⟨.int t, rfl, .ref r, rfl, r, _, rfl, .inl (SqL.of hr1), t, _, rfl, rfl, _, rfl, ?_⟩
    rw [hl]
    have et : itr ns p t.toNat = itr ns (gt ns p) (t - 1).toNat := by
      rw [← itr_succ]; congr 1; omega
    refine ite2 (fun e => ?_) (fun e => ?_)
    · have e1 : t ≤ (L : Int) := of_decide_eq_true e
      refine ⟨.ref r, rfl, .int t, rfl, t, 1, rfl, rfl, r, _, _, .int (itr ns (gt ns p) (t - 1).toNat), rfl, rfl, SqL.of hr1, at_of (j := (t - 1).toNat) (by omega) (IL_get (itrs_get (by omega))), ?_⟩
      rw [← et]; exact q H1 s1
    · have e1 : ¬ t ≤ (L : Int) := fun z => e (decide_eq_true z)
      obtain ⟨b, hb, eb⟩ := itrs_mem.mp hin
      obtain ⟨M', rfl⟩ : ∃ M', L = M' + 1 := ⟨L - 1, by omega⟩
      have il := itr_low lo g0.1 g0.2 M'
      have ga : atI (IL ns) (itr ns (gt ns p) M') = some (.int (itr ns (gt ns p) (M' + 1))) := gt_at il.1 il.2
      have last : atI (IL (itrs ns (gt ns p) (M' + 1))) (-1) = some (.int (itr ns (gt ns p) M')) := at_last (i := M') (by rw [List.length_map, itrs_len]) (IL_get (itrs_get (Nat.lt_succ_self M')))
      refine ⟨.ref r, rfl, .ref r, rfl, .inl ⟨rfl, _, SqL.of hr1⟩, .ref a, rfl, .ref r, rfl, 1, rfl, r, _, -1, _, rfl, rfl, SqL.of hr1, last, a, _, _, _, rfl, rfl, SqT.of (s1 _ _ hS), ga, r, _, _, b, .int (itr ns (gt ns p) b), rfl, rfl, SqL.of hr1, rfl, itrs_flat _ _ _, IL_get (itrs_get hb), ?_, fun m z' hm hz => ?_, _, rfl, r, _, rfl, SqL.of hr1, fun l nl => ?_⟩
      · rw [eqV_int, decide_eq_true eb]
      · rw [IL_get (itrs_get (show m < M' + 1 by omega))] at hz
        cases hz
        rw [eqV_int]
        refine decide_eq_false fun e => ?_
        exact absurd (itrs_apart nd (show m < M' + 1 by omega) hb (e.trans eb.symm)) (by omega)
      · rw [cut_from (by rw [itrs_len]; omega)]
        have hr2 := upd_keep (u := .lst (IL ((itrs ns (gt ns p) (M' + 1)).drop b))) hr1 nl
        have hl2 : (IL ((itrs ns (gt ns p) (M' + 1)).drop b)).length = M' + 1 - b := by rw [List.length_map, List.length_drop, itrs_len]
        have hd : (0 : Int) < ((M' + 1 - b : Nat) : Int) := by omega
        have m0 := Int.emod_nonneg (t - 1 - (((M' + 1 : Nat) : Int) - ((M' + 1 - b : Nat) : Int))) (show ((M' + 1 - b : Nat) : Int) ≠ 0 by omega)
        have m1 := Int.emod_lt_of_pos (t - 1 - (((M' + 1 : Nat) : Int) - ((M' + 1 - b : Nat) : Int))) hd
        have eN : ((t - 1 - (((M' + 1 : Nat) : Int) - ((M' + 1 - b : Nat) : Int))) % ((M' + 1 - b : Nat) : Int)).toNat = ((t - 1).toNat - b) % (M' + 1 - b) := by
          have e2 : t - 1 - (((M' + 1 : Nat) : Int) - ((M' + 1 - b : Nat) : Int)) = (((t - 1).toNat - b : Nat) : Int) := by omega
          rw [e2, ← Int.natCast_emod]; rfl
        refine ⟨.ref l, rfl, .int t, rfl, t, 1, rfl, rfl, .ref r, rfl, r, _, rfl, .inl (SqL.of hr2), .ref l, rfl, l, _, rfl, .inl (SqL.of upd_same), _, _, rfl, rfl, _, _, rfl, rfl, .ref l, rfl, l, _, rfl, .inl (SqL.of upd_same), _, _, rfl, rfl, ?_, l, _, _, .int (itr ns p t.toNat), rfl, rfl, SqL.of upd_same, ?_, q _ (s1.trans (same_new nl))⟩
        · rw [hl2]; exact hd
        · rw [hl2, hl]
          refine at_of (j := ((t - 1 - (((M' + 1 : Nat) : Int) - ((M' + 1 - b : Nat) : Int))) % ((M' + 1 - b : Nat) : Int)).toNat) (by omega) ?_
          rw [List.getElem?_map, List.getElem?_drop, eN, itrs_get (by have := Nat.mod_lt ((t - 1).toNat - b) (show 0 < M' + 1 - b by omega); omega)]
          have hper : itr ns (gt ns p) (b + (M' + 1 - b)) = itr ns (gt ns p) b := by rw [show b + (M' + 1 - b) = M' + 1 by omega]; exact eb.symm
          have := itr_mod (show 0 < M' + 1 - b by omega) hper ((t - 1).toNat - b)
          rw [show b + ((t - 1).toNat - b) = (t - 1).toNat by omega] at this
          rw [et, this]; rfl
end
end Lp


namespace Lp
open PySem PySem.Spec PyProof.Rows L2
theorem Box.mono {H H' : Hp} {b : Addr} {c : Nat} (h : Box H b c) (s : Same H H') : Box H' b c := by
  obtain ⟨x0, x1, x2, e, rr⟩ := h
  exact ⟨x0, x1, x2, s _ _ e, rr⟩
/-- what stands through a turn -/
structure R1 (G H : Hp) (b h lA dA : Addr) (ns fs ds : List Int) (c : Nat) : Prop where
  sb : Sb b G H
  box : Box H b c
  hh : H h = some (.tup (IL ns))
  hl : H lA = some (.lst (IL fs))
  hd : H dA = some (.lst (IL ds))
theorem R1.mono {G H H' : Hp} {b h lA dA : Addr} {ns fs ds : List Int} {c : Nat} (r : R1 G H b h lA dA ns fs ds c) (s : Same H H') : R1 G H' b h lA dA ns fs ds c :=
  ⟨r.sb.trans (Same.sb s), r.box.mono s, s _ _ r.hh, s _ _ r.hl, s _ _ r.hd⟩
theorem R1.put {G H : Hp} {b h lA dA p : Addr} {ns fs ds : List Int} {c : Nat} {o : HO} (r : R1 G H b h lA dA ns fs ds c) (n : G p = none) (n1 : b ≠ p) (n2 : h ≠ p) (n3 : lA ≠ p) (n4 : dA ≠ p) : R1 G (upd H p o) b h lA dA ns fs ds c :=
  ⟨r.sb.mut n, r.box.put n1, by rw [upd_ne n2]; exact r.hh, by rw [upd_ne n3]; exact r.hl, by rw [upd_ne n4]; exact r.hd⟩
theorem R1.draw {G H H' : Hp} {b h lA dA : Addr} {ns fs ds : List Int} {c c' : Nat} (r : R1 G H b h lA dA ns fs ds c) (n2 : h ≠ b) (n3 : lA ≠ b) (n4 : dA ≠ b) (s : Sb b H H') (bx : Box H' b c') : R1 G H' b h lA dA ns fs ds c' :=
  ⟨r.sb.trans s, bx, s _ _ n2 r.hh, s _ _ n3 r.hl, s _ _ n4 r.hd⟩
section
variable {P : Program} {w : World} {K : PySem.W.Frag} {mg : Str → Option Value} {base : Heap}
abbrev sRight : Stmt := topS 20
abbrev nRight : List Str := ["_law_box_here", "_law_here", "_law_kept", "_law_size", "_law_who", "_law_due", "_law_heard", "_law_at", "_law_far", "_law_turn"]
theorem scRight : FnScope nRight ["_law_box_here"] (defScope sRight) := ⟨rfl, rfl, rfl, by decide +kernel, rfl, by decide +kernel, by decide +kernel⟩
def spRight : Sp := fun vs H Q _ => ∃ (b : Addr) (c : Nat), vs = [.ref b] ∧ Box H b c ∧ c + 100000 ≤ 900000000 ∧ ∀ H', Sb b H H' → Box H' b (c + 100000) → Q (.bl true) H'
theorem ok_right {f fD fO fT fS fW fA fM fL fE : Addr} {fd fdD fdO fdT fdS fdW fdA fdM fdL fdE : FuncData} (F : Fun K "_law_right" "_law_right" sRight f fd) (B : Bi mg)
    (D : Cal P w K mg base "_law_drawn" 9 ["_law_box_here", "_law_most"] spDrawn fD fdD) (O : Cal P w K mg base "_law_of" 9 ["_law_box_here", "_law_some"] spOf fO fdO) (T : Cal P w K mg base "_law_take" 9 psT spTakeW fT fdT) (S : Cal P w K mg base "_law_strewn" 9 ["_law_box_here", "_law_some"] spStrewn fS fdS)
    (W : Cal P w K mg base "way" 9 ["state", "person"] spWay fW fdW) (kW : KbR fdW ["state", "person"]) (A' : Cal P w K mg base "person_after" 9 ["state", "person", "steps"] spAfterP fA fdA) (kA : KbR fdA ["state", "person", "steps"])
    (M : Cal P w K mg base "_law_met" 9 ["_law_here", "_law_who"] spMet fM fdM) (L : Cal P w K mg base "_law_after" 9 ["_law_here", "_law_who", "_law_far"] spAfterL fL fdL) (Z : Cal P w K mg base "_law_same" 9 psSame (spSame 3) fE fdE) : FnG P w K mg base 10 f fd ["_law_box_here"] spRight := by
  refine okG F scRight (fun vs H Q E h => ?_) (fun cdv A outer s H vs Q E gA hr h => ?_)
  · obtain ⟨b, c, rfl, _⟩ := h
    rfl
  · obtain ⟨b, c, rfl, hB, hc, q⟩ := h
    have gX : (cxOf CX0 P w K mg base nRight "_law_right" (defScope sRight) f cdv A outer s H E).nox.A.guards = some [] := gA
    have hu : (cxOf CX0 P w K mg base nRight "_law_right" (defScope sRight) f cdv A outer s H E).nox.A.units + 101 < cLine := Nat.lt_of_le_of_lt (Nat.add_le_add_left (by decide) _) hr.un
    refine ⟨_, pss_cons (ps_set (i := 1) scRight.nd rfl (.inl rfl) (pe_call D.ok hr (by rfl) D.g D.kp D.bd .nil pass0 (pa_cons (pv 0) (pa_cons pe_int pa_nil))))
      (pss_cons (ps_par (i := 2) (j := 3) (by rfl) scRight.nd rfl rfl (by decide) rfl rfl (pa_cons (pe_callB (call_repr gX hu) (by rfl) B.repr (by decide +kernel) (pa_cons (pv 1) pa_nil)) (pa_cons (pe_callB call_len_seq (by rfl) B.len PySem.boot_len (pa_cons (pv 1) pa_nil)) pa_nil)) (by rfl))
      (pss_cons (ps_for PassesOwn.never rfl (pi_list (pe_slice sl_list (pe_call S.ok hr (by rfl) S.g S.kp S.bd .nil pass0 (pa_cons (pv 0) (pa_cons (pe_listRg rfl (by rfl) B.list (prg_1 (by rfl) B.range (pv 3))) pa_nil))) po_none (po_some pe_int))) (pg_name (i := 4) scRight.nd rfl (.inl rfl))
        (C8.pss_cut (ps_set (i := 5) scRight.nd rfl (.inl rfl) (pe_call M.ok hr (by rfl) M.g M.kp M.bd .nil pass0 (pa_cons (pv 1) (pa_cons (pv 4) pa_nil))))
        (C8.pss_cut (ps_set (i := 6) scRight.nd rfl (.inl rfl) (pe_lst (pa_cons (pe_call W.ok hr (by rfl) W.g W.kp W.bd .nil pass0 (pa_cons (pv 1) (pa_cons (pv 4) pa_nil))) (pa_cons (pe_callR W.ok hr (by rfl) W.g W.kp kW pass0 (pk_cons (pv 4) (pk_cons (pe_callTy call_list_of (by rfl) B.list (by decide +kernel) (pa_cons (pv 1) pa_nil)) pk_nil))) pa_nil))))
        (C8.pss_cut (ps_if (pt_not (pt_val (pe_call Z.ok hr (by rfl) Z.g Z.kp Z.bd .nil pass0 (pa_cons (pv 6) (pa_cons (pe_lst (pa_cons (pv 5) (pa_cons (pv 5) pa_nil))) pa_nil))))) pss_never pss_nil)
        (pss_cons (ps_expr (pe_bm PySem.F.plainAttrs_list PySem.F.slot_list_append PySem.F.type_list_append mt_append (pe_ix ix_list (pv 6) pe_int (fun _ _ => rfl)) (pa_cons pe_str pa_nil)))
        (pss_cons (ps_expr (pe_bm0 PySem.F.plainAttrs_list PySem.F.slot_list_reverse PySem.F.type_list_reverse mt_reverse (pe_ix ix_list (pv 6) pe_int (fun _ _ => rfl))))
        (C8.pss_cut (ps_if (pt_not (pt_val (pe_call Z.ok hr (by rfl) Z.g Z.kp Z.bd .nil pass0 (pa_cons (pe_call W.ok hr (by rfl) W.g W.kp W.bd .nil pass0 (pa_cons (pv 1) (pa_cons (pv 4) pa_nil))) (pa_cons (pv 5) pa_nil))))) pss_never pss_nil)
        (pss_cons (ps_set (i := 7) scRight.nd rfl (.inl rfl) (pv 4))
        (C8.pss_cut (ps_for PassesOwn.never rfl (pi_range1 (by rfl) B.range (pa_cons (pe_op op_add (pe_op op_mul pe_int (pv 3)) pe_int) pa_nil)) (pg_name (i := 8) scRight.nd rfl (.inl rfl))
          (pss_cons (ps_if (pt_not (pt_val (pe_call Z.ok hr (by rfl) Z.g Z.kp Z.bd .nil pass0 (pa_cons (pe_call A'.ok hr (by rfl) A'.g A'.kp A'.bd .nil pass0 (pa_cons (pv 1) (pa_cons (pv 4) (pa_cons (pv 8) pa_nil)))) (pa_cons (pv 7) pa_nil))))) pss_never pss_nil)
          (pss_one (ps_set (i := 7) scRight.nd rfl (.inl rfl) (pe_ix ix_tup (pv 1) (pv 7) (fun _ _ => rfl))))))
        (pss_one (ps_for PassesOwn.never rfl (pi_range1 (by rfl) B.range (pa_cons pe_int pa_nil)) (pg_name (i := 9) scRight.nd rfl (.inl rfl))
          (C8.pss_cut (ps_set (i := 8) scRight.nd rfl (.inl rfl) (pe_op op_add (pe_call T.ok hr (by rfl) T.g T.kp T.bd .nil pass0 (pa_cons (pv 0) (pa_cons (pe_call O.ok hr (by rfl) O.g O.kp O.bd .nil pass0 (pa_cons (pv 0) (pa_cons (pe_lst (pa_cons pe_int (pa_cons (pe_op op_pow pe_int pe_int) (pa_cons (pe_op op_pow pe_int pe_int) pa_nil)))) pa_nil))) pa_nil))) pe_int))
          (C8.pss_cut (ps_set (i := 6) scRight.nd rfl (.inl rfl) (pe_lst (pa_cons (pe_call A'.ok hr (by rfl) A'.g A'.kp A'.bd .nil pass0 (pa_cons (pv 1) (pa_cons (pv 4) (pa_cons (pv 8) pa_nil)))) (pa_cons (pe_callR A'.ok hr (by rfl) A'.g A'.kp kA pass0 (pk_cons (pv 8) (pk_cons (pv 4) (pk_cons (pe_callTy call_list_of (by rfl) B.list (by decide +kernel) (pa_cons (pv 1) pa_nil)) pk_nil)))) pa_nil))))
          (pss_one (ps_if (pt_not (pt_val (pe_call Z.ok hr (by rfl) Z.g Z.kp Z.bd .nil pass0 (pa_cons (pv 6) (pa_cons (pe_op op_rep (pe_lst (pa_cons (pe_call L.ok hr (by rfl) L.g L.kp L.bd .nil pass0 (pa_cons (pv 1) (pa_cons (pv 4) (pa_cons (pv 8) pa_nil)))) pa_nil)) pe_int) pa_nil))))) pss_never pss_nil)))))))))))))))
      (pss_one (ps_ret (pe_cmpR op_eq (pe_callB (call_repr gX hu) (by rfl) B.repr (by decide +kernel) (pa_cons (pv 1) pa_nil)) (pv 2) (nomark _)))))), ?_⟩
    -- here, kept, size
    refine ⟨.ref b, rfl, b, 20, c, rfl, by omega, by omega, hB, by omega, fun H1 h ns sb1 nh hh l1 l2 lo hB1 => ?_⟩
    have hb : h ≠ b := Ne.symm (hB.ne nh)
    have sm : Small ns := lo.small (by omega)
    have rT : ∀ H2 : Hp, H2 h = some (.tup (IL ns)) → Dp K H2 (.ref h) (.tuple (dI ns)) := fun H2 e => .tup (SqT.of e) (dp_ints ns)
    obtain ⟨t1, t2, t3, t4⟩ := factsT sm (show ns.length ≤ 10000 by omega)
    refine ⟨.ref h, rfl, h, .tuple (dI ns), rfl, rT _ hh, t1, t2, t3, t4, .ref h, rfl, h, _, rfl, .inr (SqT.of hh), _, _, rfl, ?_⟩
    rw [List.length_map]
    -- for who in strewn(..)[:6]
    refine ⟨.ref b, rfl, .int ns.length, rfl, _, rfl, RgOk.of_le (by omega) (by omega) (by omega) (by omega), fun u nu => ?_⟩
    rw [rg_upto]
    have bu : b ≠ u := hB1.ne nu
    refine ⟨b, u, c + 10000, upto (ns.length : Int).toNat, rfl, Ne.symm bu, upd_same, by rw [upto_len]; omega, hB1.new nu, by omega, fun H2 sA ms sb2 nS hS2 lS mS hB2 => ?_⟩
    have sbH2 : Sb b H H2 := (sb1.trans (Sb.new nu)).trans sb2
    have hh2 := sb2 h _ hb (upd_keep hh nu)
    refine ⟨6, rfl, sA, _, rfl, SqL.of hS2, fun lA nlA => ?_⟩
    rw [cut_IL]
    generalize hfs : (ms.drop (HT.sIx ms.length 0 none)).take (HT.sIx ms.length ms.length (some 6) - HT.sIx ms.length 0 none) = fs
    have lf : Low ns.length fs := fun z hz => by
      rw [← hfs] at hz
      have := upto_mem (mS z (List.mem_of_mem_drop (List.mem_of_mem_take hz)))
      omega
    have fl : fs.length ≤ 6 := by
      rw [← hfs, List.length_take, HT.sIx_none, sIx_int _ _ 6 (by decide)]
      omega
    have hlb : lA ≠ b := Ne.symm (hB2.ne nlA)
    refine ⟨lA, rfl, ⟨_, SqL.of upd_same⟩, ?_⟩
    refine for_list (K := K) (a := lA) (xs := IL fs) (fun j σ H3 => ∃ y4 y5 y6 y7 y8 y9, σ = [some (.ref b), some (.ref h), some (.str (PyData.shown (.tuple (dI ns)))), some (.int ns.length), y4, y5, y6, y7, y8, y9] ∧ Sb b H H3 ∧ H3 h = some (.tup (IL ns)) ∧ H3 lA = some (.lst (IL fs)) ∧ Box H3 b (c + 11000 + 20 * j)) ?_ ?_ ?_ ?_
    · exact ⟨none, none, none, none, none, none, rfl, sbH2.trans (Sb.new nlA), upd_keep hh2 nlA, upd_same, (hB2.new nlA).le (by omega)⟩
    · rintro j σ H3 _ ⟨_, _, _, _, _, _, rfl, _, _, h3, _⟩; exact SqL.of h3
    · rintro j x σ G hx ⟨y4, y5, y6, y7, y8, y9, rfl, sbG, hhG, hlG, hBG⟩
      have hj : j < fs.length := by
        have := (List.getElem?_eq_some_iff.mp hx).1
        rw [List.length_map] at this; exact this
      have e := IL_at hx hj
      subst e
      have zz := lf.at (List.getElem?_eq_getElem hj)
      generalize fs[j] = p at zz
      -- due = met(here, who)
      refine ⟨fun σ H4 => ∃ dA ds, σ = [some (.ref b), some (.ref h), some (.str (PyData.shown (.tuple (dI ns)))), some (.int ns.length), some (.int p), some (.ref dA), y6, y7, y8, y9] ∧ R1 G H4 b h lA dA ns fs ds (c + 11000 + 20 * j) ∧ G dA = none ∧ Route ns (gt ns p) ds ∧ ds.length ≤ ns.length, ?_, ?_⟩
      · refine ⟨.ref h, rfl, .int p, rfl, h, p, ns, rfl, hhG, lo, by omega, zz.1, zz.2, fun H4 dA ds s4 nd hd rt ld => ?_⟩
        exact ⟨dA, ds, rfl, ⟨Same.sb s4, hBG.mono s4, s4 _ _ hhG, s4 _ _ hlG, hd⟩, nd, rt, ld⟩
      rintro σ H4 ⟨dA, ds, rfl, R4, ndA, rt, ld⟩
      have hdb : dA ≠ b := Ne.symm (hBG.ne ndA)
      have ldd : ds.length ≤ 10000 := by omega
      -- heard = [..]
      refine ⟨fun σ H5 => ∃ p1 p2 hd, σ = [some (.ref b), some (.ref h), some (.str (PyData.shown (.tuple (dI ns)))), some (.int ns.length), some (.int p), some (.ref dA), some (.ref hd), y7, y8, y9] ∧ R1 G H5 b h lA dA ns fs ds (c + 11000 + 20 * j) ∧ H5 hd = some (.lst [.ref p1, .ref p2]) ∧ H5 p1 = some (.lst (IL ds)) ∧ H5 p2 = some (.lst (IL ds)) ∧ H4 p1 = none ∧ H4 p2 = none ∧ p1 ≠ p2 ∧ p1 ≠ hd ∧ p2 ≠ hd, ?_, ?_⟩
      · refine ⟨.ref h, rfl, .int p, rfl, h, p, ns, rfl, .inr R4.hh, lo, by omega, zz.1, zz.2, fun H5 p1 ds1 s5 np1 hp1 rt1 _ => ?_⟩
        have R5 := R4.mono s5
        refine ⟨.int p, rfl, .ref h, rfl, h, _, rfl, .inr (SqT.of R5.hh), fun v nv => ?_⟩
        have s6 := same_new (o := .lst (IL ns)) nv
        refine ⟨v, p, ns, rfl, .inl upd_same, lo, by omega, zz.1, zz.2, fun H7 p2 ds2 s7 np2 hp2 rt2 _ => ?_⟩
        have s57 : Same H5 H7 := s6.trans s7
        rw [rt1.eq rt] at hp1
        rw [rt2.eq rt] at hp2
        refine ⟨(by show 2 ≤ sizeLine; decide), fun hd nhd => ?_⟩
        have hp1' := s57 _ _ hp1
        refine ⟨p1, p2, hd, rfl, (R5.mono s57).mono (same_new nhd), upd_same, upd_keep hp1' nhd, upd_keep hp2 nhd, np1, (s5.trans s6).free np2, ?_, ne_of_none hp1' nhd, ne_of_none hp2 nhd⟩
        exact ne_of_none (s6 _ _ hp1) np2
      rintro σ H5 ⟨p1, p2, hd, rfl, R5, hhd, hp1, hp2, np1, np2, n12, n1h, n2h⟩
      -- if not same(heard, [due, due])
      refine ⟨fun σ H7 => σ = [some (.ref b), some (.ref h), some (.str (PyData.shown (.tuple (dI ns)))), some (.int ns.length), some (.int p), some (.ref dA), some (.ref hd), y7, y8, y9] ∧ Same H5 H7, ?_, ?_⟩
      · refine ⟨.ref hd, rfl, .ref dA, rfl, .ref dA, rfl, (by show 2 ≤ sizeLine; decide), fun u nu => ?_⟩
        have s7 := same_new (o := .lst [V.ref dA, V.ref dA]) nu
        exact ⟨_, _, rfl, Eqd.pair (s7 _ _ hhd) upd_same (Eqd.lstI (s7 _ _ hp1) (s7 _ _ R5.hd) ldd) (Eqd.lstI (s7 _ _ hp2) (s7 _ _ R5.hd) ldd), fun H8 s8 => ⟨true, rfl, iteF ⟨rfl, s7.trans s8⟩⟩⟩
      rintro σ H7 ⟨rfl, s7⟩
      have R7 := R5.mono s7
      have hhd7 := s7 _ _ hhd
      have hp17 := s7 _ _ hp1
      have hp27 := s7 _ _ hp2
      refine ⟨.ref hd, rfl, hd, _, 0, .ref p1, rfl, rfl, SqL.of hhd7, rfl, .inl ⟨rfl, _, SqL.of hp17⟩, p1, _, _, rfl, rfl, hp17, ?_, ?_⟩
      · rw [List.length_map]; exact szl (by omega)
      have R8 := R7.put (o := .lst (IL ds ++ [.str "more"])) (R4.sb.free R4.box np1) (R4.box.ne np1) (ne_of_none R4.hh np1) (ne_of_none R4.hl np1) (ne_of_none R4.hd np1)
      have hp28 : (upd H7 p1 (.lst (IL ds ++ [.str "more"]))) p2 = some (.lst (IL ds)) := by rw [upd_ne (Ne.symm n12)]; exact hp27
      refine ⟨.ref hd, rfl, hd, _, 1, .ref p2, rfl, rfl, SqL.of (by rw [upd_ne (Ne.symm n1h)]; exact hhd7), rfl, .inl ⟨rfl, _, SqL.of hp28⟩, p2, _, rfl, rfl, hp28, ?_⟩
      have R9 := R8.put (o := .lst (IL ds).reverse) (R4.sb.free R4.box np2) (R4.box.ne np2) (ne_of_none R4.hh np2) (ne_of_none R4.hl np2) (ne_of_none R4.hd np2)
      generalize hH9 : upd (upd H7 p1 (.lst (IL ds ++ [.str "more"]))) p2 (.lst (IL ds).reverse) = H9 at R9
      -- if not same(way(..), due)
      refine ⟨fun σ HA => σ = [some (.ref b), some (.ref h), some (.str (PyData.shown (.tuple (dI ns)))), some (.int ns.length), some (.int p), some (.ref dA), some (.ref hd), y7, y8, y9] ∧ Same H9 HA, ?_, ?_⟩
      · refine ⟨.ref h, rfl, .int p, rfl, h, p, ns, rfl, .inr R9.hh, lo, by omega, zz.1, zz.2, fun HA p3 ds3 sA np3 hp3 rt3 _ => ?_⟩
        rw [rt3.eq rt] at hp3
        exact ⟨.ref dA, rfl, _, _, rfl, Eqd.lstI hp3 (sA _ _ R9.hd) ldd, fun HB sB => ⟨true, rfl, iteF ⟨rfl, sA.trans sB⟩⟩⟩
      rintro σ HA ⟨rfl, sA⟩
      have RA := R9.mono sA
      -- at = who; for far in range(3 * size + 1)
      refine ⟨.int p, rfl, ?_⟩
      refine ⟨fun σ HB => ∃ y7 y8, σ = [some (.ref b), some (.ref h), some (.str (PyData.shown (.tuple (dI ns)))), some (.int ns.length), some (.int p), some (.ref dA), some (.ref hd), y7, y8, y9] ∧ R1 G HB b h lA dA ns fs ds (c + 11000 + 20 * j), ?_, ?_⟩
      · refine ⟨.int ns.length, rfl, 3, _, rfl, rfl, .inl ⟨by decide, by decide⟩, _, 1, rfl, rfl, _, rfl, by omega, by omega, ?_⟩
        refine for_it (walk_range (lo := 0)) (fun k' σ HB => ∃ y8, σ = [some (.ref b), some (.ref h), some (.str (PyData.shown (.tuple (dI ns)))), some (.int ns.length), some (.int p), some (.ref dA), some (.ref hd), some (.int (itr ns p k')), y8, y9] ∧ R1 G HB b h lA dA ns fs ds (c + 11000 + 20 * j)) ?_ ?_ ?_ ?_
        · exact ⟨y8, rfl, RA⟩
        · intros; trivial
        · rintro k' x σ H0 HB hk ⟨z8, rfl, RB⟩ ⟨rfl, rfl⟩
          have il := itr_low lo zz.1 zz.2 k'
          have e0 : ((0 : Int) + (k' : Int)).toNat = k' := by omega
          refine ⟨.ref h, rfl, .int p, rfl, .int (0 + k'), rfl, h, p, 0 + k', ns, rfl, .inr RB.hh, lo, by omega, zz.1, zz.2, by omega, fun HC sC => ?_⟩
          rw [e0]
          refine ⟨.int (itr ns p k'), rfl, _, _, rfl, Eqd.int HC 3 _, fun HD sD => ⟨true, rfl, iteF ?_⟩⟩
          have RD := RB.mono (sC.trans sD)
          exact ⟨.ref h, rfl, .int (itr ns p k'), rfl, h, _, _, _, rfl, rfl, SqT.of RD.hh, gt_at il.1 il.2, _, rfl, RD⟩
        · rintro σ HB ⟨z8, rfl, RB⟩
          exact ⟨_, z8, rfl, RB⟩
      rintro σ HB ⟨z7, z8, rfl, RB⟩
      -- for turn in range(3)
      refine ⟨3, rfl, by decide, by decide, ?_⟩
      refine for_it (walk_range (lo := 0) (n := 3)) (fun i σ HC => ∃ y6 y8 y9, σ = [some (.ref b), some (.ref h), some (.str (PyData.shown (.tuple (dI ns)))), some (.int ns.length), some (.int p), some (.ref dA), y6, z7, y8, y9] ∧ R1 G HC b h lA dA ns fs ds (c + 11000 + 20 * j + 4 * i)) ?_ ?_ ?_ ?_
      · exact ⟨_, _, _, rfl, RB⟩
      · intros; trivial
      · rintro i x σ H0 HC hi ⟨z6, w8, z9, rfl, RC⟩ ⟨rfl, rfl⟩
        -- far
        refine ⟨fun σ HD => ∃ t : Int, 1 ≤ t ∧ σ = [some (.ref b), some (.ref h), some (.str (PyData.shown (.tuple (dI ns)))), some (.int ns.length), some (.int p), some (.ref dA), z6, z7, some (.int t), some (.int (0 + i))] ∧ R1 G HD b h lA dA ns fs ds (c + 11000 + 20 * j + 4 * (i + 1)), ?_, ?_⟩
        · refine ⟨.ref b, rfl, .ref b, rfl, 10, 6, rfl, rfl, ⟨by decide, by decide, by decide⟩, 10, 12, rfl, rfl, ⟨by decide, by decide, by decide⟩, (by show 3 ≤ sizeLine; decide), fun u nu => ?_⟩
          have RD := RC.mono (same_new (o := .lst [V.int 100, V.int ((10 : Int) ^ (6 : Int).toNat), V.int ((10 : Int) ^ (12 : Int).toNat)]) nu)
          have bu2 : b ≠ u := RC.box.ne nu
          refine ⟨b, u, _, _, rfl, Ne.symm bu2, upd_same, (by show 1 ≤ 3; decide), (by show 3 ≤ 1000; decide), RD.box, by omega, fun HE j' v sbE hBE hj' => ?_⟩
          have hv : ∃ m : Int, v = .int m ∧ 1 ≤ m ∧ m ≤ 10000000000000 := by
            rcases j' with _ | _ | _ | j'
            · exact ⟨100, (Option.some.inj hj').symm, by decide, by decide⟩
            · exact ⟨_, (Option.some.inj hj').symm, by decide, by decide⟩
            · exact ⟨_, (Option.some.inj hj').symm, by decide, by decide⟩
            · simp at hj'
          obtain ⟨m, rfl, m1, m2⟩ := hv
          refine ⟨b, m, _, rfl, hBE, by omega, m1, m2, fun HF r sbF hBF r0 r1 => ⟨r, 1, rfl, rfl, r + 1, by omega, rfl, ?_⟩⟩
          exact ((RD.draw hb hlb hdb sbE hBE).draw hb hlb hdb sbF hBF).draw hb hlb hdb (Sb.refl b HF) (hBF.le (by omega))
        rintro σ HD ⟨t, ht, rfl, RD⟩
        -- heard
        refine ⟨fun σ HE => ∃ hd, σ = [some (.ref b), some (.ref h), some (.str (PyData.shown (.tuple (dI ns)))), some (.int ns.length), some (.int p), some (.ref dA), some (.ref hd), z7, some (.int t), some (.int (0 + i))] ∧ R1 G HE b h lA dA ns fs ds (c + 11000 + 20 * j + 4 * (i + 1)) ∧ HE hd = some (.lst [.int (itr ns p t.toNat), .int (itr ns p t.toNat)]), ?_, ?_⟩
        · refine ⟨.ref h, rfl, .int p, rfl, .int t, rfl, h, p, t, ns, rfl, .inr RD.hh, lo, by omega, zz.1, zz.2, by omega, fun HE sE => ?_⟩
          have RE := RD.mono sE
          refine ⟨.int t, rfl, .int p, rfl, .ref h, rfl, h, _, rfl, .inr (SqT.of RE.hh), fun v nv => ?_⟩
          have RF := RE.mono (same_new (o := .lst (IL ns)) nv)
          refine ⟨v, p, t, ns, rfl, .inl upd_same, lo, by omega, zz.1, zz.2, by omega, fun HG sG => ⟨(by show 2 ≤ sizeLine; decide), fun hd nhd => ?_⟩⟩
          exact ⟨hd, rfl, (RF.mono sG).mono (same_new nhd), upd_same⟩
        rintro σ HE ⟨hd2, rfl, RE, hhd2⟩
        refine ⟨.ref hd2, rfl, .ref h, rfl, .int p, rfl, .int t, rfl, h, p, t, ns, rfl, RE.hh, lo, by omega, zz.1, zz.2, ht, fun HF sF => ⟨(by show 1 ≤ sizeLine; decide), fun u nu => ?_⟩⟩
        refine ⟨u, 2, _, rfl, rfl, upd_same, by decide, by decide, (by show 1 * 2 ≤ sizeLine; decide), fun v nv => ?_⟩
        have sV := sF.trans ((same_new (o := .lst [V.int (itr ns p t.toNat)]) nu).trans (same_new (o := .lst (List.replicate (2 : Int).toNat [V.int (itr ns p t.toNat)]).flatten) nv))
        refine ⟨_, _, rfl, Eqd.pair (n := 2) (sV _ _ hhd2) upd_same (Eqd.int _ 2 _) (Eqd.int _ 2 _), fun HG sG => ⟨true, rfl, iteF ?_⟩⟩
        exact ⟨_, _, _, rfl, RE.mono (sV.trans sG)⟩
      · rintro σ HC ⟨z6, w8, z9, rfl, RC⟩
        exact ⟨_, _, _, _, _, _, rfl, sbG.trans RC.sb, RC.hh, RC.hl, RC.box.le (by omega)⟩
    · rintro σ H3 ⟨_, _, _, _, _, _, rfl, sb, hh3, _, hB3⟩
      rw [List.length_map] at hB3
      refine ⟨.ref h, rfl, h, .tuple (dI ns), rfl, rT _ hh3, t1, t2, t3, t4, .str (PyData.shown (.tuple (dI ns))), rfl, rfl, ?_⟩
      rw [decide_eq_true rfl]
      exact q H3 sb (hB3.le (by omega))
end
end Lp

namespace Lp
open PySem PySem.Spec PyProof.Rows L2
section
variable {P : Program} {w : World} {K : PySem.W.Frag} {mg : Str → Option Value} {base : Heap}
abbrev sLaw : Stmt := topS 21
abbrev nLaw : List Str := ["_law_script", "_law_cells_here", "_law_k", "_law_box_here", "_law_turn"]
theorem scLaw : FnScope nLaw ["_law_script"] (defScope sLaw) := ⟨rfl, rfl, rfl, by decide +kernel, rfl, by decide +kernel, by decide +kernel⟩
def spLaw (K : PySem.W.Frag) : Sp := fun vs H Q _ => ∃ (a : Addr) (ns : List Int), vs = [.ref a] ∧ SqL K H a (IL ns) ∧ ns.length ≤ 63 ∧ ∀ H', Q (.bl true) H'
theorem ok_law {f fC fB fR : Addr} {fd fdC fdB fdR : FuncData} (F : Fun K "law" "law" sLaw f fd) (B : Bi mg) (C : Cal P w K mg base "_law_cells" 10 ["_law_script", "_law_most"] (spCells K) fC fdC)
    (X : Cal P w K mg base "_law_box" 10 ["_law_script", "_law_k"] (spBox K) fB fdB) (R : CalG P w K mg base "_law_right" 10 ["_law_box_here"] spRight fR fdR) : FnG P w K mg base 11 f fd ["_law_script"] (spLaw K) := by
  refine okG F scLaw (fun vs H Q E h => ?_) (fun cdv A outer s H vs Q E gA hr h => ?_)
  · obtain ⟨a, ns, rfl, _⟩ := h
    rfl
  · obtain ⟨a, ns, rfl, hS, hl, q⟩ := h
    have gX : (cxOf CX0 P w K mg base nLaw "law" (defScope sLaw) f cdv A outer s H E).nox.A.guards = some [] := gA
    refine ⟨_, pss_cons (ps_set (i := 1) scLaw.nd rfl (.inl rfl) (pe_call C.ok hr (by rfl) C.g C.kp C.bd .nil pass0 (pa_cons (pv 0) (pa_cons pe_int pa_nil))))
      (pss_cons (ps_for PassesOwn.never rfl (pi_range1 (by rfl) B.range (pa_cons (pe_callB call_len_seq (by rfl) B.len PySem.boot_len (pa_cons (pv 1) pa_nil)) pa_nil)) (pg_name (i := 2) scLaw.nd rfl (.inl rfl))
        (pss_cons (ps_set (i := 3) scLaw.nd rfl (.inr rfl) (pe_call X.ok hr (by rfl) X.g X.kp X.bd .nil pass0 (pa_cons (pv 1) (pa_cons (pv 2) pa_nil))))
        (pss_one (ps_if (pt_not (pt_val (pe_callB (cr_all rfl) (by rfl) B.all (by decide +kernel) (pa_cons (pe_lc (own := [("_law_turn", 4)]) (g := gName 4) (tt := tYes) (by rfl) scLaw.nd (pi_range1 (by rfl) B.range (pa_cons pe_int pa_nil)) (blkOk_by (own := [("_law_turn", 4)]) (N := nLaw) (sc := defScope sLaw) (by decide +kernel))
          (fun _ _ _ _ _ => pg_name (i := 4) scLaw.nd rfl (Or.inl rfl)) (fun _ _ _ _ _ => pts_nil) (fun _ _ _ _ _ => pe_callG R.ok gX hr (by rfl) R.g R.kp R.bd (pa_cons (pv 3) pa_nil))) pa_nil)))) pss_never pss_nil))))
      (pss_one (ps_ret pe_bl))), ?_⟩
    refine ⟨.ref a, rfl, a, _, ns, rfl, hS, by decide, by decide, fun H1 cA ms s1 nc hc l1 l2 => ?_⟩
    refine ⟨.ref cA, rfl, cA, _, rfl, .inl (SqL.of hc), _, rfl, ?_, ?_, ?_⟩
    · rw [List.length_map]; omega
    · rw [List.length_map]; omega
    refine for_it (walk_range (lo := 0)) (fun _ σ H3 => ∃ y2 y3, σ = [some (.ref a), some (.ref cA), y2, y3, none] ∧ H3 cA = some (.lst (IL ms))) ?_ ?_ ?_ ?_
    · exact ⟨none, none, rfl, hc⟩
    · intros; trivial
    · rintro i x σ H0 G hi ⟨y2, y3, rfl, hcG⟩ ⟨rfl, rfl⟩
      rw [List.length_map] at hi
      refine ⟨.ref cA, rfl, .int (0 + i), rfl, cA, _, ms, rfl, SqL.of hcG, by omega, by omega, fun H4 b s4 nb hB => ?_⟩
      have hc4 := s4 _ _ hcG
      have cb : cA ≠ b := ne_of_none hcG nb
      refine ⟨_, rfl, by decide, by decide, fun D nD => ?_⟩
      have bD : b ≠ D := hB.ne nD
      have cD : cA ≠ D := ne_of_none hc4 nD
      refine lc_range (lo := 0) (fun j H5 => H5 D = some (.lst (List.replicate j (.bl true))) ∧ Box H5 b (100000 * j) ∧ H5 cA = some (.lst (IL ms))) ⟨upd_same, (hB.new nD).le (by omega), upd_keep hc4 nD⟩ ?_ ?_
      · rintro j H5 hj ⟨hD, hB5, hc5⟩
        have hj' : j < 100 := Nat.lt_trans hj (by decide)
        refine ⟨rfl, yes_ok ⟨.ref b, rfl, b, 100000 * j, rfl, hB5, by omega, fun H6 sb6 hB6 => ?_⟩⟩
        have hD6 := sb6 D _ (Ne.symm bD) hD
        refine ⟨_, hD6, ?_, ?_, ?_, ?_⟩
        · rw [List.length_replicate]; exact szl (by omega)
        · rw [upd_same, rep_app]
        · exact (hB6.put bD).le (by omega)
        · rw [upd_ne cD]; exact sb6 cA _ cb hc5
      · rintro H5 ⟨hD, hB5, hc5⟩
        refine ⟨D, List.replicate 3 true, rfl, ?_, true, ?_, iteF ⟨_, _, rfl, hc5⟩⟩
        · rw [rep_bl]; exact SqL.of hD
        · rw [all_true]
    · rintro σ H3 ⟨y2, y3, rfl, _⟩
      exact q _
end
theorem all_mk {l : PySem.W.OpenLaw} {w : World} {K : PySem.W.Frag} {h : Heap} {mg : Str → Option Value} {fa : Addr} (X : K.In h) (G : h.Ns mainGlobals mg) (hfa : mg "law" = some (.ref fa)) (Z : Zs K)
    (d3 : Dx K "check_person" sCheckP) (d4 : Dx K "route_from" sRoute) (d5 : Dx K "ring_begin" sBegin) (d6 : Dx K "way" sWay) (d7 : Dx K "person_after" sAfterP) (d9 : Dx K "_law_box" sBox) (d10 : Dx K "_law_take" sTake) (d11 : Dx K "_law_cells" sCells) (d12 : Dx K "_law_of" sOf) (d13 : Dx K "_law_strewn" sStrewn) (d14 : Dx K "_law_same" sSame) (d15 : Dx K "_law_part" sPart) (d16 : Dx K "_law_mixed" sMixed) (d17 : Dx K "_law_drawn" sDrawn) (d18 : Dx K "_law_met" sMet) (d19 : Dx K "_law_after" sAfterL) (d20 : Dx K "_law_right" sRight) (d21 : Dx K "law" sLaw) :
    ∃ fd : FuncData, (∀ (s : Shared) (v : Value), BindsTo s fd ⟨[v], []⟩ [("_law_script", v)]) ∧ ∀ base : Heap, K.In base → base.Ns mainGlobals mg → FnG l.prog w K mg base 11 fa fd ["_law_script"] (spLaw K) := by
  have B := Z.bi X G
  obtain ⟨f3, e3, F3, g3⟩ := d3.fn X G
  obtain ⟨f4, e4, F4, g4⟩ := d4.fn X G
  obtain ⟨f5, e5, F5, g5⟩ := d5.fn X G
  obtain ⟨f6, e6, F6, g6⟩ := d6.fn X G
  obtain ⟨f7, e7, F7, g7⟩ := d7.fn X G
  obtain ⟨f9, e9, F9, g9⟩ := d9.fn X G
  obtain ⟨f10, e10, F10, g10⟩ := d10.fn X G
  obtain ⟨f11, e11, F11, g11⟩ := d11.fn X G
  obtain ⟨f12, e12, F12, g12⟩ := d12.fn X G
  obtain ⟨f13, e13, F13, g13⟩ := d13.fn X G
  obtain ⟨f14, e14, F14, g14⟩ := d14.fn X G
  obtain ⟨f15, e15, F15, g15⟩ := d15.fn X G
  obtain ⟨f16, e16, F16, g16⟩ := d16.fn X G
  obtain ⟨f17, e17, F17, g17⟩ := d17.fn X G
  obtain ⟨f18, e18, F18, g18⟩ := d18.fn X G
  obtain ⟨f19, e19, F19, g19⟩ := d19.fn X G
  obtain ⟨f20, e20, F20, g20⟩ := d20.fn X G
  obtain ⟨f21, e21, F21, g21⟩ := d21.fn X G
  cases hfa.symm.trans g21
  refine ⟨e21, fun s v => ?_, fun base _ _ => ?_⟩
  · obtain ⟨oc, od, kV, doc, pm, an, cdv, ct, osl, rfl, lk, hcd⟩ := F21.ex
    exact .of_eq rfl
  · have bd3 : Binds K e3 ["state", "person"] [] := b2 F3 fun _ _ _ _ _ _ _ _ => rfl
    have t3 : Cal l.prog w K mg base "check_person" 1 ["state", "person"] spCheckP f3 e3 := ⟨ok_checkP F3 B, g3, F3.kp, bd3⟩
    have bd4 : Binds K e4 ["pointers", "person"] [] := b2 F4 fun _ _ _ _ _ _ _ _ => rfl
    have t4 : Cal l.prog w K mg base "route_from" 1 ["pointers", "person"] spRoute f4 e4 := ⟨ok_route F4 B, g4, F4.kp, bd4⟩
    have bd5 : Binds K e5 ["state", "route"] [] := b2 F5 fun _ _ _ _ _ _ _ _ => rfl
    have t5 : Cal l.prog w K mg base "ring_begin" 1 ["state", "route"] spBegin f5 e5 := ⟨ok_begin F5, g5, F5.kp, bd5⟩
    have bd6 : Binds K e6 ["state", "person"] [] := b2 F6 fun _ _ _ _ _ _ _ _ => rfl
    have t6 : Cal l.prog w K mg base "way" 2 ["state", "person"] spWay f6 e6 := ⟨ok_way F6 t3 t4, g6, F6.kp, bd6⟩
    have bd7 : Binds K e7 ["state", "person", "steps"] [] := b3 F7 fun _ _ _ _ _ _ _ _ _ => rfl
    have t7 : Cal l.prog w K mg base "person_after" 2 ["state", "person", "steps"] spAfterP f7 e7 := ⟨ok_afterP F7 B t3 t4 t5, g7, F7.kp, bd7⟩
    have bd9 : Binds K e9 ["_law_script", "_law_k"] [] := b2 F9 fun _ _ _ _ _ _ _ _ => rfl
    have t9 : Cal l.prog w K mg base "_law_box" 1 ["_law_script", "_law_k"] (spBox K) f9 e9 := ⟨ok_box F9 B, g9, F9.kp, bd9⟩
    have bd10 : Binds K e10 psT [] := b2 F10 fun _ _ _ _ _ _ _ _ => rfl
    have t10 : Cal l.prog w K mg base "_law_take" 1 psT spTake f10 e10 := ⟨ok_take F10, g10, F10.kp, bd10⟩
    have bd11 : Binds K e11 ["_law_script", "_law_most"] [] := b2 F11 fun _ _ _ _ _ _ _ _ => rfl
    have t11 : Cal l.prog w K mg base "_law_cells" 1 ["_law_script", "_law_most"] (spCells K) f11 e11 := ⟨ok_cells F11 B, g11, F11.kp, bd11⟩
    have bd12 : Binds K e12 ["_law_box_here", "_law_some"] [] := b2 F12 fun _ _ _ _ _ _ _ _ => rfl
    have t12 : Cal l.prog w K mg base "_law_of" 2 ["_law_box_here", "_law_some"] spOf f12 e12 := ⟨ok_of F12 B t10, g12, F12.kp, bd12⟩
    have bd13 : Binds K e13 ["_law_box_here", "_law_some"] [] := b2 F13 fun _ _ _ _ _ _ _ _ => rfl
    have t13 : Cal l.prog w K mg base "_law_strewn" 2 ["_law_box_here", "_law_some"] spStrewn f13 e13 := ⟨ok_strewn F13 B t10, g13, F13.kp, bd13⟩
    have bd14 : Binds K e14 psSame [] := b2 F14 fun _ _ _ _ _ _ _ _ => rfl
    have t14 : Cal l.prog w K mg base "_law_same" 4 psSame (spSame 3) f14 e14 := ⟨(ok_same F14 B g14 bd14 3), g14, F14.kp, bd14⟩
    have bd15 : Binds K e15 ["_law_box_here", "_law_size"] [] := b2 F15 fun _ _ _ _ _ _ _ _ => rfl
    have t15 : Cal l.prog w K mg base "_law_part" 2 ["_law_box_here", "_law_size"] spPart f15 e15 := ⟨ok_part F15 B t10, g15, F15.kp, bd15⟩
    have bd16 : Binds K e16 ["_law_box_here", "_law_found"] [] := b2 F16 fun _ _ _ _ _ _ _ _ => rfl
    have t16 : Cal l.prog w K mg base "_law_mixed" 3 ["_law_box_here", "_law_found"] spMixed f16 e16 := ⟨ok_mixed F16 B t13, g16, F16.kp, bd16⟩
    have bd17 : Binds K e17 ["_law_box_here", "_law_most"] [] := b2 F17 fun _ _ _ _ _ _ _ _ => rfl
    have t17 : Cal l.prog w K mg base "_law_drawn" 4 ["_law_box_here", "_law_most"] spDrawn f17 e17 := ⟨ok_drawn F17 B t10 t12 t15 t16, g17, F17.kp, bd17⟩
    have bd18 : Binds K e18 ["_law_here", "_law_who"] [] := b2 F18 fun _ _ _ _ _ _ _ _ => rfl
    have t18 : Cal l.prog w K mg base "_law_met" 1 ["_law_here", "_law_who"] spMet f18 e18 := ⟨ok_met F18 B, g18, F18.kp, bd18⟩
    have bd19 : Binds K e19 ["_law_here", "_law_who", "_law_far"] [] := b3 F19 fun _ _ _ _ _ _ _ _ _ => rfl
    have t19 : Cal l.prog w K mg base "_law_after" 2 ["_law_here", "_law_who", "_law_far"] spAfterL f19 e19 := ⟨ok_afterL F19 B t18, g19, F19.kp, bd19⟩
    have tR : CalG l.prog w K mg base "_law_right" 10 ["_law_box_here"] spRight f20 e20 := ⟨ok_right F20 B (t17.up (by decide)) (t12.up (by decide)) ((⟨ok_takeW F10 t10, g10, F10.kp, bd10⟩ : Cal l.prog w K mg base "_law_take" 2 psT spTakeW f10 e10).up (by decide)) (t13.up (by decide)) (t6.up (by decide)) (r2 F6 fun _ _ _ _ _ _ _ _ => rfl) (t7.up (by decide)) (r3 F7 fun _ _ _ _ _ _ _ _ _ => rfl) (t18.up (by decide)) (t19.up (by decide)) (t14.up (by decide)), g20, F20.kp, b1 F20 fun _ _ _ _ _ _ _ => rfl⟩
    exact ok_law F21 B (t11.up (by decide)) (t9.up (by decide)) tR
end Lp

open PySem PySem.W PyProof.Rows
set_option maxHeartbeats 0 in
theorem PySem.Challenge.cw_lookpast_k01_ways_and_steps_holds : PySem.Challenge.rw_lookpast_k01_ways_and_steps.Holds := by
  w_on; o_law; k_head; (case hw => w_witness2)
  k_fill
  refine Lp.walk_ofG (l := PySem.Challenge.rw_lookpast_k01_ways_and_steps) (n := 63) (k := 11) (x := "_law_script") (sp := fun w => Lp.spLaw _) rfl (by decide) rfl ⟨rfl, by decide, by decide⟩ (fun w h Y => PySem.W.kIn_of Y) ?F (fun _ _ a ns hl hS => ⟨a, ns, rfl, hS, hl, fun _ => rfl⟩)
  case F =>
    intro w mg fa h KX G hmg
    refine' Lp.all_mk KX G hmg ?z ?d3 ?d4 ?d5 ?d6 ?d7 ?d9 ?d10 ?d11 ?d12 ?d13 ?d14 ?d15 ?d16 ?d17 ?d18 ?d19 ?d20 ?d21
    (case z => refine' ⟨?_, ?_, ?_, ?_, ?_, ?_, ?_, ?_, ?_, ?_, ?_, ?_, ?_, ?_, ?_, ?_, ?_, ?_⟩ <;> k_is)
    (case d3 => refine' Lp.dx_mk ?a ?l ?c ?k; (case a => k_is); (case l => k_is); (case c => k_is); (case k => k_is))
    (case d4 => refine' Lp.dx_mk ?a ?l ?c ?k; (case a => k_is); (case l => k_is); (case c => k_is); (case k => k_is))
    (case d5 => refine' Lp.dx_mk ?a ?l ?c ?k; (case a => k_is); (case l => k_is); (case c => k_is); (case k => k_is))
    (case d6 => refine' Lp.dx_mk ?a ?l ?c ?k; (case a => k_is); (case l => k_is); (case c => k_is); (case k => k_is))
    (case d7 => refine' Lp.dx_mk ?a ?l ?c ?k; (case a => k_is); (case l => k_is); (case c => k_is); (case k => k_is))
    (case d9 => refine' Lp.dx_mk ?a ?l ?c ?k; (case a => k_is); (case l => k_is); (case c => k_is); (case k => k_is))
    (case d10 => refine' Lp.dx_mk ?a ?l ?c ?k; (case a => k_is); (case l => k_is); (case c => k_is); (case k => k_is))
    (case d11 => refine' Lp.dx_mk ?a ?l ?c ?k; (case a => k_is); (case l => k_is); (case c => k_is); (case k => k_is))
    (case d12 => refine' Lp.dx_mk ?a ?l ?c ?k; (case a => k_is); (case l => k_is); (case c => k_is); (case k => k_is))
    (case d13 => refine' Lp.dx_mk ?a ?l ?c ?k; (case a => k_is); (case l => k_is); (case c => k_is); (case k => k_is))
    (case d14 => refine' Lp.dx_mk ?a ?l ?c ?k; (case a => k_is); (case l => k_is); (case c => k_is); (case k => k_is))
    (case d15 => refine' Lp.dx_mk ?a ?l ?c ?k; (case a => k_is); (case l => k_is); (case c => k_is); (case k => k_is))
    (case d16 => refine' Lp.dx_mk ?a ?l ?c ?k; (case a => k_is); (case l => k_is); (case c => k_is); (case k => k_is))
    (case d17 => refine' Lp.dx_mk ?a ?l ?c ?k; (case a => k_is); (case l => k_is); (case c => k_is); (case k => k_is))
    (case d18 => refine' Lp.dx_mk ?a ?l ?c ?k; (case a => k_is); (case l => k_is); (case c => k_is); (case k => k_is))
    (case d19 => refine' Lp.dx_mk ?a ?l ?c ?k; (case a => k_is); (case l => k_is); (case c => k_is); (case k => k_is))
    (case d20 => refine' Lp.dx_mk ?a ?l ?c ?k; (case a => k_is); (case l => k_is); (case c => k_is); (case k => k_is))
    (case d21 => refine' Lp.dx_mk ?a ?l ?c ?k; (case a => k_is); (case l => k_is); (case c => k_is); (case k => k_is))

