import PyProof.Rows.All
import Wide.All
import OpenK.AllK
import Wide.FinOn
import HandS.ForMost
import HandS.Walk
import HandS.IsInst
import HandS.Conv
import HandS.Zip
import HandS.Style
import HandS.Flow
import HandS.Codes
import PyProof.ReprRoads
import PyProof.Rows.RegFStrParts
import HandS.TupAny
import HandS.Strs
import HandS.Wide
import HandS.TupSets
import HandS.SortOrd
import HandS.SetBool
import HandS.TupMul
import PySem.Challenge.RW_lookpast_k09_known_calls
set_option Elab.async false
set_option linter.all false
set_option maxRecDepth 100000
set_option maxHeartbeats 4000000
namespace Lp
open PySem PySem.Spec PyProof.Rows L2
def topS (i : Nat) : Stmt := PySem.Challenge.pw_lookpast_k09_known_calls.main.body.getD i (.Pass ⟨0, 0, 0, 0⟩)
/-- all but b stand as they stood -/
def Sb (b : Addr) (H H' : Hp) : Prop := ∀ a o, a ≠ b → H a = some o → H' a = some o
theorem Sb.refl (b : Addr) (H : Hp) : Sb b H H := fun _ _ _ h => h
theorem Sb.trans {b : Addr} {H H1 H2 : Hp} (x : Sb b H H1) (y : Sb b H1 H2) : Sb b H H2 := fun a o n h => y a o n (x a o n h)
theorem Sb.upd {b : Addr} {H H1 : Hp} {o : HO} (x : Sb b H H1) : Sb b H (upd H1 b o) := fun a u n h => by
  rw [upd_ne n]; exact x a u n h
theorem Sb.new {b p : Addr} {H : Hp} {o : HO} (h : H p = none) : Sb b H (L2.upd H p o) := fun a u _ e => by
  rw [upd_ne (ne_of_none e h)]; exact e
/-- the drawing box: its three numbers; c: at most so many draws so far -/
def Box (H : Hp) (b : Addr) (c : Nat) : Prop := ∃ x0 x1 x2 : Int, H b = some (.lst [.int x0, .int x1, .int x2]) ∧ 0 ≤ x0 ∧ 0 ≤ x1 ∧ x1 < 4611686018427387904 ∧ 0 ≤ x2 ∧ x2 ≤ (c : Int)
theorem Box.le {H : Hp} {b : Addr} {c d : Nat} (x : Box H b c) (h : c ≤ d) : Box H b d := by
  obtain ⟨x0, x1, x2, e, h0, h1, h2, h3, h4⟩ := x
  exact ⟨x0, x1, x2, e, h0, h1, h2, h3, by omega⟩
theorem Box.there {H : Hp} {b : Addr} {c : Nat} (x : Box H b c) : ∃ xs, H b = some (.lst xs) := by
  obtain ⟨x0, x1, x2, e, _⟩ := x
  exact ⟨_, e⟩
theorem Sb.free {b : Addr} {H H' : Hp} {c : Nat} (x : Sb b H H') (y : Box H' b c) {p : Addr} (h : H' p = none) : H p = none := by
  cases q : H p with
  | none => rfl
  | some o =>
    by_cases n : p = b
    · subst n; obtain ⟨_, e⟩ := y.there; rw [e] at h; cases h
    · rw [x p o n q] at h; cases h
section
variable {P : Program} {w : World} {K : PySem.W.Frag} {mg : Str → Option Value} {base : Heap}
abbrev psT : List Str := ["_law_box_here", "_law_span"]
/-! ### _law_take -/
def spTake : Sp := fun vs H Q _ => ∃ (b : Addr) (span : Int) (c : Nat), vs = [.ref b, .int span] ∧ Box H b c ∧ c ≤ 1000000000 ∧ 1 ≤ span ∧ span ≤ 10000000 ∧
  ∀ H' (r : Int), Sb b H H' → Box H' b (c + 1) → 0 ≤ r → r < span → Q (.int r) H'
abbrev sTake : Stmt := topS 18
theorem scTake : FnScope ["_law_box_here", "_law_span", "_law_found", "_law_once"] ["_law_box_here", "_law_span"] (defScope sTake) := ⟨rfl, rfl, rfl, by decide +kernel, rfl, by decide +kernel, by decide +kernel⟩
theorem ok_take {f : Addr} {fd : FuncData} {k : Nat} (F : Fun K "_law_take" "_law_take" sTake f fd) : FnOk P w K mg base CX0 (k + 1) f fd ["_law_box_here", "_law_span"] spTake := by
  refine F.ok scTake (fun vs H Q E h => ?_) (fun cdv A outer s H vs Q E hr h => ?_)
  · obtain ⟨b, span, c, rfl, _⟩ := h
    rfl
  · obtain ⟨b, span, c, rfl, ⟨x0, x1, x2, hb, h0, h1, h2, h3, h4⟩, hc, hs1, hs2, q⟩ := h
    refine ⟨_, pss_cons (ps_if (pt_cmpR op_gt (pe_ix ix_list (pv 0) pe_int (fun _ _ => rfl)) pe_int (nomark _))
        (pss_cons (ps_set (i := 2) scTake.nd rfl (.inl rfl) (pe_op op_mod (pe_ix ix_list (pv 0) pe_int (fun _ _ => rfl)) (pv 1)))
        (pss_cons (ps_asg (pe_op op_fdiv (pe_ix ix_list (pv 0) pe_int (fun _ _ => rfl)) (pv 1)) (pg_sub (pv 0) pe_int set_list))
        (pss_one (ps_ret (pv 2))))) pss_nil)
      (pss_cons (ps_if (pt_cmpR op_gt (pv 1) (pe_op op_pow pe_int pe_int) (nomark _)) pss_never pss_nil)
      (pss_cons (ps_asg (pe_op op_add (pe_ix ix_list (pv 0) pe_int (fun _ _ => rfl)) pe_int) (pg_sub (pv 0) pe_int set_list))
      (pss_cons (ps_set (i := 3) scTake.nd rfl (.inl rfl) (pe_op op_mod (pe_op op_pow (pe_op op_add (pe_ix ix_list (pv 0) pe_int (fun _ _ => rfl)) (pe_op op_mul pe_int (pe_ix ix_list (pv 0) pe_int (fun _ _ => rfl)))) pe_int) pe_int))
      (pss_one (ps_ret (pe_op op_mod (pe_op op_fdiv (pe_op op_mod (pe_op op_add (pe_op op_mul (pv 3) (pe_op op_add (pe_op op_mod (pv 3) pe_int) pe_int)) (pe_op op_mul (pe_ix ix_list (pv 0) pe_int (fun _ _ => rfl)) pe_int)) pe_int) pe_int) (pv 1))))))), ?_⟩
    have ix : SqL K H b [.int x0, .int x1, .int x2] := SqL.of hb
    refine ⟨.ref b, rfl, b, _, 0, .int x0, rfl, rfl, ix, rfl, x0, 0, rfl, rfl, _, rfl, ite2 (fun e => ?_) (fun e => ?_)⟩
    · have e0 : 0 < x0 := of_decide_eq_true e
      refine ⟨.ref b, rfl, b, _, 0, .int x0, rfl, rfl, ix, rfl, .int span, rfl, x0, span, rfl, rfl, (by show (0 : Int) < span; omega), ?_⟩
      refine ⟨.ref b, rfl, b, _, 0, .int x0, rfl, rfl, ix, rfl, .int span, rfl, x0, span, rfl, rfl, ⟨by omega, by omega⟩, ?_⟩
      refine ⟨.ref b, rfl, b, _, 0, 0, rfl, rfl, hb, rfl, ?_⟩
      refine ⟨.int (x0 % span), rfl, q _ _ (Sb.upd (Sb.refl b H)) ⟨x0 / span, x1, x2, upd_same, ?_, h1, h2, h3, by omega⟩ (Int.emod_nonneg _ (by omega)) (Int.emod_lt_of_pos _ (by omega))⟩
      exact Int.ediv_nonneg h0 (by omega)
    · refine ⟨.int span, rfl, 10, 7, rfl, rfl, ⟨by decide, by decide, by decide⟩, span, _, rfl, rfl, _, rfl, ?_⟩
      have e1 : ¬ ((10 : Int) ^ (7 : Int).toNat < span) := by
        show ¬ ((10000000 : Int) < span)
        omega
      rw [decide_eq_false e1]
      refine iteF ?_
      refine ⟨.ref b, rfl, b, _, 2, .int x2, rfl, rfl, ix, rfl, x2, 1, rfl, rfl, ?_⟩
      refine ⟨.ref b, rfl, b, _, 2, 2, rfl, rfl, hb, rfl, ?_⟩
      have ix2 : SqL K (upd H b (.lst [.int x0, .int x1, .int (x2 + 1)])) b [.int x0, .int x1, .int (x2 + 1)] := SqL.of upd_same
      refine ⟨.ref b, rfl, b, _, 1, .int x1, rfl, rfl, ix2, rfl, .ref b, rfl, b, _, 2, .int (x2 + 1), rfl, rfl, ix2, rfl, 39373, x2 + 1, rfl, rfl, .inl ⟨by decide, by decide⟩, x1, _, rfl, rfl, _, 5, rfl, rfl, ⟨by decide, by decide, by omega⟩, _, 2147483647, rfl, rfl, (by show (0 : Int) < 2147483647; decide), ?_⟩
      dsimp only
      generalize hg : (x1 + 39373 * (x2 + 1)) ^ (5 : Int).toNat % 2147483647 = once
      have o1 : 0 ≤ once := by rw [← hg]; exact Int.emod_nonneg _ (by decide)
      have o2 : once < 2147483647 := by rw [← hg]; exact Int.emod_lt_of_pos _ (by decide)
      refine ⟨.int once, rfl, .int once, rfl, once, 40009, rfl, rfl, (by show (0 : Int) < 40009; decide), _, 7, rfl, rfl, once, _, rfl, rfl, .inl ⟨by omega, by omega⟩, .ref b, rfl, b, _, 2, .int (x2 + 1), rfl, rfl, ix2, rfl, x2 + 1, 7919, rfl, rfl, .inl ⟨by omega, by omega⟩, _, _, rfl, rfl, _, 2147483629, rfl, rfl, (by show (0 : Int) < 2147483629; decide), _, 64, rfl, rfl, ⟨by decide, by decide⟩, .int span, rfl, _, span, rfl, rfl, (by show (0 : Int) < span; omega), ?_⟩
      exact q _ _ (Sb.upd (Sb.refl b H)) ⟨x0, x1, x2 + 1, upd_same, h0, h1, h2, by omega, by omega⟩ (Int.emod_nonneg _ (by omega)) (Int.emod_lt_of_pos _ (by omega))
end
end Lp

namespace Lp
open PySem PySem.Spec PyProof.Rows L2
/-! ### ints as data -/
abbrev IL (ns : List Int) : List V := ns.map V.int
abbrev dI (ns : List Int) : List PyData := ns.map PyData.int
theorem dp_ints {K : PySem.W.Frag} {H : Hp} : ∀ ns : List Int, DpAll K H (IL ns) (dI ns)
  | [] => .nil
  | x :: r => .cons (.int x) (dp_ints r)
theorem lay_ints : ∀ ns : List Int, PyData.canLayAll0 (dI ns) = true
  | [] => by simp [PyData.canLayAll0]
  | x :: r => by
    have := lay_ints r
    simp only [List.map_cons, PyData.canLayAll0, PyData.canLay0, this, Bool.and_self]
theorem depth_ints : ∀ ns : List Int, PyData.depthAll (dI ns) = 0
  | [] => by simp [PyData.depthAll]
  | x :: r => by
    have := depth_ints r
    simp only [List.map_cons, PyData.depthAll, PyData.depth, this]
    rfl
theorem shL (ns : List Int) : SeqAt.shaped (.list (dI ns)) = true := by
  unfold SeqAt.shaped
  simp only [PyData.canLay0, PyData.depth, lay_ints, depth_ints]
  decide
theorem shT (ns : List Int) : SeqAt.shaped (.tuple (dI ns)) = true := by
  unfold SeqAt.shaped
  simp only [PyData.canLay0, PyData.depth, lay_ints, depth_ints]
  decide
theorem eqv_ints : ∀ a b : List Int, PyData.eqvAll (dI a) (dI b) = decide (a = b)
  | [], [] => by simp [PyData.eqvAll]
  | [], _ :: _ => by simp [PyData.eqvAll]
  | _ :: _, [] => by simp [PyData.eqvAll]
  | x :: r, y :: t => by
    have ih := eqv_ints r t
    simp only [List.map_cons, PyData.eqvAll, PyData.eqv, ih]
    by_cases h : x = y
    · subst h
      by_cases h2 : r = t
      · subst h2; simp
      · simp [h2]
    · simp [h]
theorem eqvL (a b : List Int) : PyData.eqv (.list (dI a)) (.list (dI b)) = decide (a = b) := by
  simp only [PyData.eqv]; exact eqv_ints a b
theorem eqvT (a b : List Int) : PyData.eqv (.tuple (dI a)) (.tuple (dI b)) = decide (a = b) := by
  simp only [PyData.eqv]; exact eqv_ints a b
theorem sz {n : Nat} (h : n ≤ 100000) : n ≤ sizeLine := Nat.le_trans h (by decide)
theorem szl {n : Nat} (h : n < 100000) : n < sizeLine := Nat.lt_of_lt_of_le h (by decide)
theorem IL_get {ns : List Int} {i : Nat} {z : Int} (h : ns[i]? = some z) : (IL ns)[i]? = some (.int z) := by
  rw [List.getElem?_map, h]; rfl
theorem IL_set (ns : List Int) (i : Nat) (z : Int) : (IL ns).set i (.int z) = IL (ns.set i z) := by
  show (ns.map V.int).set i (V.int z) = (ns.set i z).map V.int
  rw [List.map_set]
theorem IL_app (ns : List Int) (z : Int) : (IL ns) ++ [.int z] = IL (ns ++ [z]) := by
  show ns.map V.int ++ [V.int z] = (ns ++ [z]).map V.int
  rw [List.map_append]; rfl
theorem at_lt {ns : List Int} {i : Int} (h0 : 0 ≤ i) (h1 : i < (ns.length : Int)) : ∃ z, ns[i.toNat]? = some z ∧ z ∈ ns ∧ atI (IL ns) i = some (.int z) := by
  have hl : i.toNat < ns.length := by omega
  refine ⟨ns[i.toNat], List.getElem?_eq_getElem hl, List.getElem_mem hl, ?_⟩
  exact at_of (j := i.toNat) (by omega) (IL_get (List.getElem?_eq_getElem hl))
theorem ix_ok {n : Nat} {i : Int} (h0 : 0 ≤ i) (h1 : i < (n : Int)) : ixN n i = some i.toNat := by
  unfold ixN; rw [if_pos h0, if_pos h1]
theorem IL_at {es : List Int} {i : Nat} {x : V} (h : (IL es)[i]? = some x) (hi : i < es.length) : x = .int es[i] := by
  rw [IL_get (List.getElem?_eq_getElem hi)] at h
  exact (Option.some.inj h).symm
theorem at_last {α : Type} {xs : List α} {i : Nat} {v : α} (h : xs.length = i + 1) (e : xs[i]? = some v) : atI xs (-1) = some v := by
  unfold atI ixN
  rw [if_neg (by decide), if_pos (by omega), h]
  show xs[((-1 : Int) + ((i + 1 : Nat) : Int)).toNat]? = some v
  rw [show ((-1 : Int) + ((i + 1 : Nat) : Int)).toNat = i by omega]; exact e
/-- all ints of ns lie in 0 .. n - 1 -/
def Low (n : Nat) (ns : List Int) : Prop := ∀ z ∈ ns, 0 ≤ z ∧ z < (n : Int)
theorem Low.app {n : Nat} {fs : List Int} {z : Int} (h : Low n fs) (h0 : 0 ≤ z) (h1 : z < (n : Int)) : Low n (fs ++ [z]) := fun y hy => by
  rcases List.mem_append.mp hy with h2 | h2
  · exact h y h2
  · rw [List.mem_singleton] at h2
    subst h2; exact ⟨h0, h1⟩
theorem Same.sb {b : Addr} {H H' : Hp} (h : Same H H') : Sb b H H' := fun a o _ e => h a o e
theorem same_new {H : Hp} {p : Addr} {o : HO} (h : H p = none) : Same H (upd H p o) := fun a u e => by
  rw [upd_ne (ne_of_none e h)]; exact e
theorem same_mut {H H' : Hp} {p : Addr} {o : HO} (s : Same H H') (h : H p = none) : Same H (upd H' p o) := fun a u e => by
  rw [upd_ne (ne_of_none e h)]; exact s a u e
/-- the module's names that are the built-ins' -/
structure Bi (mg : Str → Option Value) : Prop where
  len : mg "len" = none
  list : mg "list" = none
  tuple : mg "tuple" = none
  range : mg "range" = none
  enumerate : mg "enumerate" = none
  all : mg "all" = none
  isinstance : mg "isinstance" = none
  zip : mg "zip" = none
  abs : mg "abs" = none
  int : mg "int" = none
  str : mg "str" = none
  bool : mg "bool" = none
  repr : mg "repr" = none
  set : mg "set" = none
  min : mg "min" = none
  max : mg "max" = none
  sorted : mg "sorted" = none
  sum : mg "sum" = none
/-! the rules that speak of K, with K named (for use within comprehensions) -/
theorem len_K {X : Cx} {K : PySem.W.Frag} (e : X.K = K) : CallR X (.builtin "len") (fun xs H Q => ∃ p ys, xs = [.ref p] ∧ (SqL K H p ys ∨ SqT K H p ys) ∧ Q (.int ys.length) H) := e ▸ call_len_seq
theorem ixl_K {X : Cx} {K : PySem.W.Frag} (e : X.K = K) : IxR X (rIxL K) := e ▸ ix_list
theorem ixt_K {X : Cx} {K : PySem.W.Frag} (e : X.K = K) : IxR X (rIxT K) := e ▸ ix_tup
theorem eqD_K {X : Cx} {K : PySem.W.Frag} (e : X.K = K) (hu : X.A.units + 64 < cLine) : OpR X (compareOp .Eq) (rEqD K) := e ▸ op_eqD hu
theorem notIn_K {X : Cx} {K : PySem.W.Frag} (e : X.K = K) : OpR X (compareOp .NotIn) (rIn K true) := e ▸ op_notIn_seq
theorem isi_K {X : Cx} {K : PySem.W.Frag} (e : X.K = K) : CallR X (.builtin "isinstance") (rIsi K) := e ▸ call_isi
theorem pgtup_K {X : Cx} {K : PySem.W.Frag} {es : List Expr} {k : Nat} {t : TGs} {n : Nat} {pos : Pos} (e : X.K = K) (h : PG X (.Tuple es k pos) (gTup X.K n t)) : PG X (.Tuple es k pos) (gTup K n t) := e ▸ h
/-- a def that may be called -/
structure Cal (P : Program) (w : World) (K : PySem.W.Frag) (mg : Str → Option Value) (base : Heap) (x : Str) (k : Nat) (ps : List Str) (sp : Sp) (f : Addr) (fd : FuncData) : Prop where
  ok : FnOk P w K mg base CX0 k f fd ps sp
  g : mg x = some (.ref f)
  kp : PySem.W.keepIn K (.ref f) = true
  bd : Binds K fd ps []
section
variable {P : Program} {w : World} {K : PySem.W.Frag} {mg : Str → Option Value} {base : Heap}
theorem fn_or {k : Nat} {f : Addr} {fd : FuncData} {ps : List Str} {s1 s2 : Sp} (F1 : FnOk P w K mg base CX0 k f fd ps s1) (F2 : FnOk P w K mg base CX0 k f fd ps s2) : FnOk P w K mg base CX0 k f fd ps (fun vs H Q E => s1 vs H Q E ∨ s2 vs H Q E) :=
  ⟨fun vs H Q E h => h.elim (F1.len vs H Q E) (F2.len vs H Q E), fun A outer s H args us vs Q E hr he hb hv hs => hs.elim (F1.run A outer s H args us vs Q E hr he hb hv) (F2.run A outer s H args us vs Q E hr he hb hv)⟩
/-! ### _law_box -/
abbrev sBox : Stmt := topS 17
theorem scBox : FnScope ["_law_script", "_law_k", "_law_cell"] ["_law_script", "_law_k"] (defScope sBox) := ⟨rfl, rfl, rfl, by decide +kernel, rfl, by decide +kernel, by decide +kernel⟩
def spBox (K : PySem.W.Frag) : Sp := fun vs H Q _ => ∃ (a : Addr) (k : Int) (ns : List Int), vs = [.ref a, .int k] ∧ SqL K H a (IL ns) ∧ 0 ≤ k ∧ k ≤ 62 ∧
  ∀ H' p, Same H H' → H p = none → Box H' p 0 → Q (.ref p) H'
theorem ok_box {f : Addr} {fd : FuncData} {k : Nat} (F : Fun K "_law_box" "_law_box" sBox f fd) (B : Bi mg) : FnOk P w K mg base CX0 (k + 1) f fd ["_law_script", "_law_k"] (spBox K) := by
  refine F.ok scBox (fun vs H Q E h => ?_) (fun cdv A outer s H vs Q E hr h => ?_)
  · obtain ⟨a, k, ns, rfl, _⟩ := h
    rfl
  · obtain ⟨a, k, ns, rfl, hS, h0, h1, q⟩ := h
    refine ⟨_, pss_cons (ps_set (i := 2) scBox.nd rfl (.inl rfl) (pe_ifExp (pt_cmpR op_lt (pv 1) (pe_callB call_len_seq (by rfl) B.len PySem.boot_len (pa_cons (pv 0) pa_nil)) (nomark _)) (pe_ix ix_list (pv 0) (pv 1) (fun _ _ => rfl)) pe_int))
      (pss_one (ps_ret (pe_lst (pa_cons (pe_op op_mul (pe_callB call_abs (by rfl) B.abs (by decide +kernel) (pa_cons (pv 2) pa_nil)) (pe_callTy call_int1 (by rfl) B.int (by decide +kernel) (pa_cons (pe_cmpR op_ge (pe_callB call_abs (by rfl) B.abs (by decide +kernel) (pa_cons (pv 2) pa_nil)) (pe_op op_pow pe_int pe_int) (nomark _)) pa_nil)))
        (pa_cons (pe_op op_add (pe_op op_add (pe_op op_mod (pv 2) pe_int) (pe_op op_mul pe_int (pv 1))) pe_int) (pa_cons pe_int pa_nil)))))), ?_⟩
    have fin : ∀ z : Int, tRet (tLst (tCons (tOp (rI CMul fun i j => .int (i * j)) (tCB (fun xs H Q => ∃ i, xs = [.int i] ∧ Q (.int (if i < 0 then -i else i)) H) (tCons (tVar 2) tNil)) (tCB (fun xs H Q => (∃ i, xs = [.int i] ∧ Q (.int i) H) ∨ ∃ k, xs = [.bl k] ∧ Q (.int (if k then 1 else 0)) H) (tCons (tOp (rI0 fun i j => .bl (decide (j ≤ i))) (tCB (fun xs H Q => ∃ i, xs = [.int i] ∧ Q (.int (if i < 0 then -i else i)) H) (tCons (tVar 2) tNil)) (tOp (rI CPow fun i j => .int (i ^ j.toNat)) (tC (.int 10)) (tC (.int 18)))) tNil)))
        (tCons (tOp (rI0 fun i j => .int (i + j)) (tOp (rI0 fun i j => .int (i + j)) (tOp (rI (fun _ j => 0 < j) fun i j => .int (i % j)) (tVar 2) (tC (.int 2305843009213693951))) (tOp (rI CMul fun i j => .int (i * j)) (tC (.int 7919)) (tVar 1))) (tC (.int 23))) (tCons (tC (.int 0)) tNil)))) { nx := fun _ H' => Q .non H', rt := Q } [some (.ref a), some (.int k), some (.int z)] H := by
      intro z
      refine ⟨.int z, rfl, z, rfl, .int z, rfl, z, rfl, 10, 18, rfl, rfl, ⟨by decide, by decide, by decide⟩, _, _, rfl, rfl, .inr ⟨_, rfl, _, _, rfl, rfl, .inr ?_, ?_⟩⟩
      · split <;> (split <;> exact ⟨by decide, by decide⟩)
      · refine ⟨.int z, rfl, z, _, rfl, rfl, (by show (0 : Int) < 2305843009213693951; decide), .int k, rfl, 7919, k, rfl, rfl, .inl ⟨by decide, by decide⟩, _, _, rfl, rfl, _, 23, rfl, rfl, (by show 3 ≤ sizeLine; decide), fun p hp => ?_⟩
        refine q _ p (same_new hp) hp ⟨_, _, _, upd_same, ?_, ?_, ?_, by decide, by decide⟩
        · have h1 : (0 : Int) ≤ (if z < 0 then -z else z) := by split <;> omega
          refine Int.mul_nonneg h1 ?_
          split <;> (split <;> decide)
        · have := Int.emod_nonneg z (show (2305843009213693951 : Int) ≠ 0 by decide)
          omega
        · have := Int.emod_lt_of_pos z (show (0 : Int) < 2305843009213693951 by decide)
          omega
    refine ⟨.int k, rfl, .ref a, rfl, a, _, rfl, .inl hS, k, _, rfl, rfl, _, rfl, ite2 (fun e => ?_) (fun e => ?_)⟩
    · have e1 : k < ((IL ns).length : Int) := of_decide_eq_true e
      rw [List.length_map] at e1
      obtain ⟨z, _, _, hz⟩ := at_lt h0 e1
      refine ⟨.ref a, rfl, .int k, rfl, a, _, k, .int z, rfl, rfl, hS, hz, ?_⟩
      exact fin z
    · exact fin 0
end
end Lp

namespace Lp
open PySem PySem.Spec PyProof.Rows L2
theorem cut_IL (ns : List Int) (lo hi : Option Int) : cutV (IL ns) lo hi = IL ((ns.drop (HT.sIx ns.length 0 lo)).take (HT.sIx ns.length ns.length hi - HT.sIx ns.length 0 lo)) := by
  unfold cutV
  show ((ns.map V.int).drop (HT.sIx (ns.map V.int).length 0 lo)).take (HT.sIx (ns.map V.int).length (ns.map V.int).length hi - HT.sIx (ns.map V.int).length 0 lo) = List.map V.int _
  rw [List.length_map, List.map_take, List.map_drop]
theorem sIx_int (n d : Nat) (k : Int) (h : 0 ≤ k) : HT.sIx n d (some k) = min k.toNat n := by
  have e : k = ((k.toNat : Nat) : Int) := by omega
  rw [e]; rw [HT.sIx_nat]; congr 1
section
variable {P : Program} {w : World} {K : PySem.W.Frag} {mg : Str → Option Value} {base : Heap}
/-! ### _law_cells -/
abbrev sCells : Stmt := topS 19
theorem scCells : FnScope ["_law_script", "_law_most", "_law_cells_here", "_law_k", "_law_cell"] ["_law_script", "_law_most"] (defScope sCells) := ⟨rfl, rfl, rfl, by decide +kernel, rfl, by decide +kernel, by decide +kernel⟩
def spCells (K : PySem.W.Frag) : Sp := fun vs H Q _ => ∃ (a : Addr) (m : Int) (ns : List Int), vs = [.ref a, .int m] ∧ SqL K H a (IL ns) ∧ 1 ≤ m ∧ m ≤ 60 ∧
  ∀ H' p (ms : List Int), Same H H' → H p = none → H' p = some (.lst (IL ms)) → 1 ≤ ms.length → (ms.length : Int) ≤ m → Q (.ref p) H'
theorem ok_cells {f : Addr} {fd : FuncData} {k : Nat} (F : Fun K "_law_cells" "_law_cells" sCells f fd) (B : Bi mg) : FnOk P w K mg base CX0 (k + 1) f fd ["_law_script", "_law_most"] (spCells K) := by
  refine F.ok scCells (fun vs H Q E h => ?_) (fun cdv A outer s H vs Q E hr h => ?_)
  · obtain ⟨a, m, ns, rfl, _⟩ := h
    rfl
  · obtain ⟨a, m, ns, rfl, hS, m1, m2, q⟩ := h
    refine ⟨_, pss_cons (ps_set (i := 2) scCells.nd rfl (.inl rfl) (pe_callTy call_list_of (by rfl) B.list (by decide +kernel) (pa_cons (pe_slice sl_list (pv 0) po_none (po_some (pv 1))) pa_nil)))
      (pss_cons (ps_for PassesOwn.never rfl (pi_enum (by rfl) B.enumerate (pa_cons (pe_slice sl_list (pv 0) (po_some (pv 1)) (po_some pe_int)) pa_nil))
          (pg_tup rfl (pgs_cons (pg_name (i := 3) scCells.nd rfl (.inl rfl)) (pgs_cons (pg_name (i := 4) scCells.nd rfl (.inl rfl)) pgs_nil)))
        (pss_one (ps_asg (pe_op op_add (pe_ix ix_list (pv 2) (pe_op op_mod (pv 3) (pv 1)) (fun _ _ => rfl)) (pe_op op_mul (pv 4) (pe_op op_add (pv 3) pe_int))) (pg_sub (pv 2) (pe_op op_mod (pv 3) (pv 1)) set_list))))
      (pss_one (ps_ret (pe_ifExp (pt_cmpR (op_neD hr.units) (pv 2) (pe_lst pa_nil) (nomark _)) (pv 2) (pe_lst (pa_cons pe_int pa_nil)))))), ?_⟩
    refine ⟨.ref a, rfl, .int m, rfl, m, rfl, a, _, rfl, hS, fun c nc => ?_⟩
    rw [cut_IL]
    refine ⟨c, _, rfl, .inl (SqL.of upd_same), fun o no => ?_⟩
    have s1 := same_new (o := HO.lst (IL ((ns.drop (HT.sIx ns.length 0 none)).take (HT.sIx ns.length ns.length (some m) - HT.sIx ns.length 0 none)))) nc
    have s2 := s1.trans (same_new (o := HO.lst (IL ((ns.drop (HT.sIx ns.length 0 none)).take (HT.sIx ns.length ns.length (some m) - HT.sIx ns.length 0 none)))) no)
    have n0 : H o = none := s1.free no
    refine ⟨.ref a, rfl, .int m, rfl, m, rfl, 63, rfl, a, _, rfl, s2.seq hS, fun e ne => ?_⟩
    rw [cut_IL]
    generalize hms : (ns.drop (HT.sIx ns.length 0 none)).take (HT.sIx ns.length ns.length (some m) - HT.sIx ns.length 0 none) = ms0
    generalize hes : (ns.drop (HT.sIx ns.length 0 (some m))).take (HT.sIx ns.length ns.length (some 63) - HT.sIx ns.length 0 (some m)) = es
    have hl0 : ms0.length = min m.toNat ns.length := by
      rw [← hms, List.length_take, List.length_drop, HT.sIx_none, sIx_int _ _ _ (by omega)]
      omega
    have hle : 0 < es.length → m.toNat < ns.length := by
      rw [← hes, List.length_take, List.length_drop, sIx_int _ _ m (by omega), sIx_int _ _ 63 (by omega)]
      omega
    have nee : o ≠ e := fun z => by
      rw [← z, upd_same] at ne
      cases ne
    have s3 := s2.trans (same_new (o := HO.lst (IL es)) ne)
    rw [hms] at s3
    refine ⟨e, _, rfl, SqL.of upd_same, ?_⟩
    refine for_it (walk_enum (K := K) (a := e) (xs := IL es)) (fun _ σ H3 => ∃ y3 y4 ms, σ = [some (.ref a), some (.int m), some (.ref o), y3, y4] ∧ Same H H3 ∧ H3 e = some (.lst (IL es)) ∧ H3 o = some (.lst (IL ms)) ∧ ms.length = min m.toNat ns.length) ?_ ?_ ?_ ?_
    · refine ⟨none, none, ms0, rfl, s3, upd_same, ?_, hl0⟩
      rw [upd_ne nee, upd_same]
    · rintro i σ H3 _ ⟨y3, y4, ms, rfl, _, he, _⟩
      exact SqL.of he
    · rintro i x σ H3 H4 hi ⟨y3, y4, ms, rfl, sm, he, ho, hl⟩ ⟨T, x1, x2, rfl, nT, rfl, hx1, hx2⟩
      cases hx1
      have hi' : i < es.length := by rw [List.length_map] at hi; exact hi
      have hx2' : x2 = .int es[i] := IL_at hx2 hi'
      subst hx2'
      have hml : (ms.length : Int) = m := by have := hle (by omega); omega
      have ho' : (upd H3 T (.tup [.int (i : Nat), .int es[i]])) o = some (.lst (IL ms)) := by rw [upd_ne (ne_of_none ho nT)]; exact ho
      have r0 : 0 ≤ (i : Int) % m := Int.emod_nonneg _ (by omega)
      have r1 : (i : Int) % m < (ms.length : Int) := by rw [hml]; exact Int.emod_lt_of_pos _ (by omega)
      obtain ⟨z, _, _, hz⟩ := at_lt r0 r1
      refine ⟨T, _, rfl, SqT.of upd_same, rfl, _, _, rfl, _, _, rfl, rfl, ?_⟩
      refine ⟨.ref o, rfl, .int i, rfl, .int m, rfl, i, m, rfl, rfl, (by show (0 : Int) < m; omega), o, _, _, .int z, rfl, rfl, SqL.of ho', hz, .int es[i], rfl, .int i, rfl, i, 2, rfl, rfl, es[i], _, rfl, rfl, .inr ⟨by omega, ?_⟩, z, _, rfl, rfl, ?_⟩
      · show (i : Int) + 2 < 2 ^ 64
        have : (es.length : Int) ≤ 63 := by
          have : es.length ≤ 63 := by rw [← hes, List.length_take, List.length_drop, sIx_int _ _ m (by omega), sIx_int _ _ 63 (by omega)]; omega
          omega
        omega
      · refine ⟨.ref o, rfl, .int i, rfl, .int m, rfl, i, m, rfl, rfl, (by show (0 : Int) < m; omega), o, _, _, ((i : Int) % m).toNat, rfl, rfl, ho', ?_, ?_⟩
        · rw [List.length_map]; exact ix_ok r0 r1
        · rw [IL_set]
          refine ⟨_, _, _, rfl, ?_, ?_, upd_same, ?_⟩
          · exact same_mut (sm.trans (same_new nT)) n0
          · rw [upd_ne (Ne.symm nee), upd_ne (ne_of_none he nT)]; exact he
          · rw [List.length_set]; exact hl
    · rintro σ H3 ⟨y3, y4, ms, rfl, sm, he, ho, hl⟩
      refine ⟨.ref o, rfl, Nat.zero_le _, fun z nz => ?_⟩
      have ho2 : (upd H3 z (.lst [])) o = some (.lst (IL ms)) := by rw [upd_ne (ne_of_none ho nz)]; exact ho
      refine ⟨.list (dI ms), .list (dI []), .lst (SqL.of ho2) (dp_ints ms), .lst (SqL.of upd_same) (dp_ints []), shL ms, shL [], _, rfl, ?_⟩
      rw [eqvL]
      cases ms with
      | nil =>
        refine iteF ⟨by show 1 ≤ sizeLine; decide, fun p np => ?_⟩
        refine q _ p [0] ?_ ?_ upd_same (by decide) (by show (1 : Int) ≤ m; omega)
        · exact (sm.trans (same_new nz)).trans (same_new np)
        · exact (sm.trans (same_new nz)).free np
      | cons x r =>
        refine iteT ⟨.ref o, rfl, q _ o (x :: r) (sm.trans (same_new nz)) n0 ho2 ?_ ?_⟩
        · show 1 ≤ r.length + 1; omega
        · omega
end
end Lp

namespace Lp
open PySem PySem.Spec PyProof.Rows L2
theorem erase_IL : ∀ (ns : List Int) (i : Nat), (IL ns).eraseIdx i = IL (ns.eraseIdx i)
  | [], _ => rfl
  | _ :: _, 0 => rfl
  | x :: r, i + 1 => by
    show V.int x :: (IL r).eraseIdx i = V.int x :: IL (r.eraseIdx i)
    rw [erase_IL r i]
section
variable {P : Program} {w : World} {K : PySem.W.Frag} {mg : Str → Option Value} {base : Heap}
end
end Lp

namespace Lp
open PySem PySem.Spec PyProof.Rows L2
/-- the ints 0 .. n - 1 -/
def upto (n : Nat) : List Int := (List.range n).map fun i => (0 : Int) + (i : Nat)
theorem rg_upto (n : Int) : rgV 0 n = IL (upto n.toNat) := by
  unfold rgV upto
  show _ = List.map V.int _
  rw [List.map_map, Int.sub_zero]; rfl
theorem upto_len (n : Nat) : (upto n).length = n := by unfold upto; rw [List.length_map, List.length_range]
theorem upto_mem {n : Nat} {z : Int} (h : z ∈ upto n) : 0 ≤ z ∧ z < (n : Int) := by
  unfold upto at h
  obtain ⟨i, hi, e⟩ := List.mem_map.mp h
  have := List.mem_range.mp hi
  omega
theorem rep_zero (n : Nat) : (List.replicate n [V.int 0]).flatten = IL (List.replicate n 0) := by
  induction n with
  | zero => rfl
  | succ n ih =>
    rw [List.replicate_succ, List.replicate_succ, List.flatten_cons, ih]; rfl
theorem low_zero {n : Nat} (h : 1 ≤ n) : Low n (List.replicate n 0) := fun z hz => by
  have := List.eq_of_mem_replicate hz
  omega
theorem Low.set {n : Nat} {fs : List Int} {z : Int} {i : Nat} (h : Low n fs) (h0 : 0 ≤ z) (h1 : z < (n : Int)) : Low n (fs.set i z) := fun y hy => by
  rcases List.mem_or_eq_of_mem_set hy with h2 | h2
  · exact h y h2
  · subst h2; exact ⟨h0, h1⟩
theorem Low.at {n : Nat} {fs : List Int} {z : Int} {i : Nat} (h : Low n fs) (e : fs[i]? = some z) : 0 ≤ z ∧ z < (n : Int) := h z (List.mem_of_getElem? e)
theorem Box.put {H : Hp} {b p : Addr} {c : Nat} {o : HO} (h : Box H b c) (n : b ≠ p) : Box (upd H p o) b c := by
  obtain ⟨x0, x1, x2, e, rr⟩ := h
  exact ⟨x0, x1, x2, by rw [upd_ne n]; exact e, rr⟩
theorem Box.new {H : Hp} {b p : Addr} {c : Nat} {o : HO} (h : Box H b c) (n : H p = none) : Box (upd H p o) b c := by
  obtain ⟨_, e⟩ := h.there
  exact h.put (ne_of_none e n)
theorem Box.ne {H : Hp} {b p : Addr} {c : Nat} (h : Box H b c) (n : H p = none) : b ≠ p := by
  obtain ⟨_, e⟩ := h.there
  exact ne_of_none e n
theorem upd_keep {H : Hp} {a p : Addr} {o u : HO} (h : H a = some o) (n : H p = none) : upd H p u a = some o := by
  rw [upd_ne (ne_of_none h n)]; exact h
theorem Sb.mut {b p : Addr} {H H' : Hp} {o : HO} (h : Sb b H H') (n : H p = none) : Sb b H (L2.upd H' p o) := fun a u na e => by
  rw [upd_ne (ne_of_none e n)]; exact h a u na e
theorem yes_ok {te : TE} {σ : L2.St} {H : Hp} {R : V → Hp → Prop} {S : Hp → Prop} (h : te σ H R) : tYes σ H fun b H3 => if b = true then te σ H3 R else S H3 :=
  iteT (B := S H) h
section
variable {P : Program} {w : World} {K : PySem.W.Frag} {mg : Str → Option Value} {base : Heap}
end
end Lp

namespace Lp
open PySem PySem.Spec PyProof.Rows L2
def Flat : V → Prop
  | .int _ => True
  | .bl _ => True
  | .non => True
  | .str _ => True
  | _ => False
/-- x and y hold the same data, at most n deep -/
def Eqd (H : Hp) : Nat → V → V → Prop
  | 0, x, y => x = y ∧ Flat x
  | n + 1, x, y => (x = y ∧ Flat x) ∨ ∃ a b xs ys, x = .ref a ∧ y = .ref b ∧ xs.length = ys.length ∧ xs.length ≤ 10000 ∧ ((H a = some (.lst xs) ∧ H b = some (.lst ys)) ∨ (H a = some (.tup xs) ∧ H b = some (.tup ys))) ∧
      ∀ (i : Nat) (u v : V), xs[i]? = some u → ys[i]? = some v → Eqd H n u v
theorem Eqd.mono {H H' : Hp} (s : Same H H') : ∀ {n : Nat} {x y : V}, Eqd H n x y → Eqd H' n x y
  | 0, _, _, h => h
  | n + 1, _, _, h => by
    rcases h with h | ⟨a, b, xs, ys, e1, e2, e3, e4, e5, e6⟩
    · exact .inl h
    · refine .inr ⟨a, b, xs, ys, e1, e2, e3, e4, ?_, fun i u v hu hv => (e6 i u v hu hv).mono s⟩
      rcases e5 with ⟨h1, h2⟩ | ⟨h1, h2⟩
      · exact .inl ⟨s _ _ h1, s _ _ h2⟩
      · exact .inr ⟨s _ _ h1, s _ _ h2⟩
theorem Eqd.int (H : Hp) (n : Nat) (i : Int) : Eqd H n (.int i) (.int i) := by
  cases n with
  | zero => exact ⟨rfl, trivial⟩
  | succ n => exact .inl ⟨rfl, trivial⟩
theorem Eqd.lst {H : Hp} {n : Nat} {a b : Addr} {xs ys : List V} (h1 : H a = some (.lst xs)) (h2 : H b = some (.lst ys)) (l : xs.length = ys.length) (z : xs.length ≤ 10000) (h : ∀ (i : Nat) (u v : V), xs[i]? = some u → ys[i]? = some v → Eqd H n u v) : Eqd H (n + 1) (.ref a) (.ref b) :=
  .inr ⟨a, b, xs, ys, rfl, rfl, l, z, .inl ⟨h1, h2⟩, h⟩
theorem Eqd.tup {H : Hp} {n : Nat} {a b : Addr} {xs ys : List V} (h1 : H a = some (.tup xs)) (h2 : H b = some (.tup ys)) (l : xs.length = ys.length) (z : xs.length ≤ 10000) (h : ∀ (i : Nat) (u v : V), xs[i]? = some u → ys[i]? = some v → Eqd H n u v) : Eqd H (n + 1) (.ref a) (.ref b) :=
  .inr ⟨a, b, xs, ys, rfl, rfl, l, z, .inr ⟨h1, h2⟩, h⟩
theorem Eqd.ints {H : Hp} {ns : List Int} {n i : Nat} {u v : V} (hu : (IL ns)[i]? = some u) (hv : (IL ns)[i]? = some v) : Eqd H n u v := by
  have e : u = v := Option.some.inj (hu.symm.trans hv)
  subst e
  rw [List.getElem?_map] at hu
  cases q : ns[i]? with
  | none => rw [q] at hu; cases hu
  | some z => rw [q] at hu; cases hu; exact Eqd.int H n z
/-- two lists of the same ints -/
theorem Eqd.lstI {H : Hp} {n : Nat} {a b : Addr} {ns : List Int} (h1 : H a = some (.lst (IL ns))) (h2 : H b = some (.lst (IL ns))) (z : ns.length ≤ 10000) : Eqd H (n + 1) (.ref a) (.ref b) :=
  Eqd.lst h1 h2 rfl (by rw [List.length_map]; exact z) fun _ _ _ hu hv => Eqd.ints hu hv
theorem Eqd.tupI {H : Hp} {n : Nat} {a b : Addr} {ns : List Int} (h1 : H a = some (.tup (IL ns))) (h2 : H b = some (.tup (IL ns))) (z : ns.length ≤ 10000) : Eqd H (n + 1) (.ref a) (.ref b) :=
  Eqd.tup h1 h2 rfl (by rw [List.length_map]; exact z) fun _ _ _ hu hv => Eqd.ints hu hv
theorem Eqd.pair {H : Hp} {n : Nat} {a b : Addr} {x1 x2 y1 y2 : V} (h1 : H a = some (.lst [x1, x2])) (h2 : H b = some (.lst [y1, y2])) (e1 : Eqd H n x1 y1) (e2 : Eqd H n x2 y2) : Eqd H (n + 1) (.ref a) (.ref b) :=
  Eqd.lst h1 h2 rfl (by show 2 ≤ 10000; decide) fun i u v hu hv => by
    rcases i with _ | _ | i
    · cases hu; cases hv; exact e1
    · cases hu; cases hv; exact e2
    · simp at hu
theorem ka2 {K : PySem.W.Frag} {t a b : String} {r1 r2 : Bool} (h1 : kitB t a = some r1) (h2 : kitB t b = some r2) : PySem.W.kitAny K (.type t) [.type a, .type b] = some (r1 || r2) := by
  refine kitAny_cons (kit_ty h1) (fun e => ?_) (fun e => by rw [e]; rfl)
  refine kitAny_cons (kit_ty h2) (fun e2 => ?_) (fun e2 => by rw [e, e2]; rfl)
  rw [e, e2]; exact kitAny_nil
theorem walk_zipT {K : PySem.W.Frag} {a b : Addr} {xs ys : List V} {n : Nat} (hn : n = min xs.length ys.length) : Walk (RZ.ItzT K a b) n (fun H => SqT K H a xs ∧ SqT K H b ys) (YPair (fun i => xs[i]?) (fun i => ys[i]?)) := by
  subst hn
  refine ⟨fun i _ hi q => ?_, fun _ q => ⟨xs, ys, q.1, q.2, by omega⟩, fun i H v H' _ q y => ?_⟩
  · have h1 : i < xs.length := by omega
    have h2 : i < ys.length := by omega
    exact ⟨xs, ys, xs[i], ys[i], q.1, q.2, by simp [h1], by simp [h2]⟩
  · obtain ⟨T, x, z, h1, h2, h3, h4, h5⟩ := y
    exact ⟨T, x, z, h1, h2, h3, h4 xs q.1, h5 ys q.2⟩
theorem all_true (n : Nat) : (List.replicate n true).all id = true := by
  rw [List.all_replicate]; cases n <;> rfl
theorem rep_bl (n : Nat) : (List.replicate n true).map V.bl = List.replicate n (.bl true) := by rw [List.map_replicate]
theorem rep_app (n : Nat) (x : V) : List.replicate n x ++ [x] = List.replicate (n + 1) x := by
  rw [List.replicate_succ']
section
variable {P : Program} {w : World} {K : PySem.W.Frag} {mg : Str → Option Value} {base : Heap}
/-! ### _law_same -/
abbrev sSame : Stmt := topS 20
abbrev nSame : List Str := ["_law_found", "_law_due", "_law_one", "_law_two"]
theorem scSame : FnScope nSame ["_law_found", "_law_due"] (defScope sSame) := ⟨rfl, rfl, rfl, by decide +kernel, rfl, by decide +kernel, by decide +kernel⟩
def spSame (n : Nat) : Sp := fun vs H Q _ => ∃ x y, vs = [x, y] ∧ Eqd H n x y ∧ ∀ H', Same H H' → Q (.bl true) H'
abbrev psSame : List Str := ["_law_found", "_law_due"]
theorem ok_same0 {f : Addr} {fd : FuncData} (F : Fun K "_law_same" "_law_same" sSame f fd) (B : Bi mg) {k : Nat} : FnOk P w K mg base CX0 (k + 1) f fd psSame (spSame 0) := by
  refine F.ok scSame (fun vs H Q E h => ?_) (fun cdv A outer s H vs Q E hr h => ?_)
  · obtain ⟨x, y, rfl, _⟩ := h
    rfl
  · obtain ⟨x, y, rfl, ⟨rfl, fl⟩, q⟩ := h
    refine ⟨_, pss_cons (ps_if (pt_val (pe_callB call_isiT (by rfl) B.isinstance (by decide +kernel) (pa_cons (pv 1) (pa_cons (pe_tup (pa_cons (pe_bltn (v := .ty "list") (by rfl) B.list (by decide +kernel) rfl) (pa_cons (pe_bltn (v := .ty "tuple") (by rfl) B.tuple (by decide +kernel) rfl) pa_nil))) pa_nil)))) pss_never pss_nil)
      (pss_cons (ps_if (PW.pt (pw_or (pt_cmpR op_isN (pv 1) pe_non (nomark _)) (pw_or1 (pt_val (pe_callB call_isiT (by rfl) B.isinstance (by decide +kernel) (pa_cons (pv 1) (pa_cons (pe_tup (pa_cons (pe_bltn (v := .ty "str") (by rfl) B.str (by decide +kernel) rfl) (pa_cons (pe_bltn (v := .ty "bool") (by rfl) B.bool (by decide +kernel) rfl) pa_nil))) pa_nil)))))))
        (pss_one (ps_ret (pe_and (pe_cmpR op_eq (pv 0) (pv 1) (nomark _)) (pe_and (pe_cmpR op_eq (pe_callB call_isi (by rfl) B.isinstance (by decide +kernel) (pa_cons (pv 0) (pa_cons (pe_bltn (v := .ty "bool") (by rfl) B.bool (by decide +kernel) rfl) pa_nil))) (pe_callB call_isi (by rfl) B.isinstance (by decide +kernel) (pa_cons (pv 1) (pa_cons (pe_bltn (v := .ty "bool") (by rfl) B.bool (by decide +kernel) rfl) pa_nil))) (nomark _)) (pe_one (pe_cmpR op_eq (pe_cmpR op_isN (pv 0) pe_non (nomark _)) (pe_cmpR op_isN (pv 1) pe_non (nomark _)) (nomark _))))))) pss_nil)
      (pss_one (ps_ret (pe_and (pe_callB call_isi (by rfl) B.isinstance (by decide +kernel) (pa_cons (pv 0) (pa_cons (pe_bltn (v := .ty "int") (by rfl) B.int (by decide +kernel) rfl) pa_nil))) (pe_and (pe_not (pe_callB call_isi (by rfl) B.isinstance (by decide +kernel) (pa_cons (pv 0) (pa_cons (pe_bltn (v := .ty "bool") (by rfl) B.bool (by decide +kernel) rfl) pa_nil)))) (pe_one (pe_cmpR op_eq (pv 0) (pv 1) (nomark _)))))))), ?_⟩
    rcases x with _ | bb | i | z | _ | _ | _ | _
    · refine ⟨.non, rfl, (by show 2 ≤ sizeLine; decide), fun t nt => ?_⟩
      refine ⟨.non, t, _, .type "NoneType", _, false, rfl, upd_same, .cons (.ty "list") (.cons (.ty "tuple") .nil), .base .non, ka2 (r1 := false) (r2 := false) (by decide +kernel) (by decide +kernel), _, rfl, iteF ?_⟩
      refine ⟨.non, rfl, rfl, _, rfl, iteT ?_⟩
      refine iteT ⟨.non, rfl, .non, rfl, rfl, true, rfl, iteT ⟨.non, rfl, .non, .ty "bool", _, _, false, rfl, .ty "bool", .base .non, kit_ty (by decide +kernel), .non, rfl, .non, .ty "bool", _, _, false, rfl, .ty "bool", .base .non, kit_ty (by decide +kernel), rfl, true, rfl, iteT ⟨.non, rfl, rfl, .non, rfl, rfl, rfl, ?_⟩⟩⟩
      exact q _ (same_new nt)
    · refine ⟨.bl bb, rfl, (by show 2 ≤ sizeLine; decide), fun t nt => ?_⟩
      refine ⟨.bl bb, t, _, .type "bool", _, false, rfl, upd_same, .cons (.ty "list") (.cons (.ty "tuple") .nil), .base (.bl bb), ka2 (r1 := false) (r2 := false) (by decide +kernel) (by decide +kernel), _, rfl, iteF ?_⟩
      refine ⟨.bl bb, rfl, rfl, _, rfl, iteF ?_⟩
      refine ⟨.bl bb, rfl, (by show 2 ≤ sizeLine; decide), fun t2 nt2 => ?_⟩
      refine ⟨.bl bb, t2, _, .type "bool", _, true, rfl, upd_same, .cons (.ty "str") (.cons (.ty "bool") .nil), .base (.bl bb), ka2 (r1 := false) (r2 := true) (by decide +kernel) (by decide +kernel), _, rfl, iteT ?_⟩
      refine ⟨.bl bb, rfl, .bl bb, rfl, rfl, true, (by rw [decide_eq_true rfl]), iteT ⟨.bl bb, rfl, .bl bb, .ty "bool", _, _, true, rfl, .ty "bool", .base (.bl bb), kit_ty (by decide +kernel), .bl bb, rfl, .bl bb, .ty "bool", _, _, true, rfl, .ty "bool", .base (.bl bb), kit_ty (by decide +kernel), rfl, true, rfl, iteT ⟨.bl bb, rfl, rfl, .bl bb, rfl, rfl, rfl, ?_⟩⟩⟩
      exact q _ ((same_new nt).trans (same_new nt2))
    · refine ⟨.int i, rfl, (by show 2 ≤ sizeLine; decide), fun t nt => ?_⟩
      refine ⟨.int i, t, _, .type "int", _, false, rfl, upd_same, .cons (.ty "list") (.cons (.ty "tuple") .nil), .base (.int i), ka2 (r1 := false) (r2 := false) (by decide +kernel) (by decide +kernel), _, rfl, iteF ?_⟩
      refine ⟨.int i, rfl, rfl, _, rfl, iteF ?_⟩
      refine ⟨.int i, rfl, (by show 2 ≤ sizeLine; decide), fun t2 nt2 => ?_⟩
      refine ⟨.int i, t2, _, .type "int", _, false, rfl, upd_same, .cons (.ty "str") (.cons (.ty "bool") .nil), .base (.int i), ka2 (r1 := false) (r2 := false) (by decide +kernel) (by decide +kernel), _, rfl, iteF ?_⟩
      refine ⟨.int i, rfl, .int i, .ty "int", _, _, true, rfl, .ty "int", .base (.int i), kit_ty (by decide +kernel), true, rfl, iteT ⟨.int i, rfl, .int i, .ty "bool", _, _, false, rfl, .ty "bool", .base (.int i), kit_ty (by decide +kernel), false, rfl, true, rfl, iteT ⟨.int i, rfl, .int i, rfl, rfl, ?_⟩⟩⟩
      rw [decide_eq_true rfl]
      exact q _ ((same_new nt).trans (same_new nt2))
    · refine ⟨.str z, rfl, (by show 2 ≤ sizeLine; decide), fun t nt => ?_⟩
      refine ⟨.str z, t, _, .type "str", _, false, rfl, upd_same, .cons (.ty "list") (.cons (.ty "tuple") .nil), .base (.str z), ka2 (r1 := false) (r2 := false) (by decide +kernel) (by decide +kernel), _, rfl, iteF ?_⟩
      refine ⟨.str z, rfl, rfl, _, rfl, iteF ?_⟩
      refine ⟨.str z, rfl, (by show 2 ≤ sizeLine; decide), fun t2 nt2 => ?_⟩
      refine ⟨.str z, t2, _, .type "str", _, true, rfl, upd_same, .cons (.ty "str") (.cons (.ty "bool") .nil), .base (.str z), ka2 (r1 := true) (r2 := false) (by decide +kernel) (by decide +kernel), _, rfl, iteT ?_⟩
      refine ⟨.str z, rfl, .str z, rfl, rfl, true, (by rw [decide_eq_true rfl]), iteT ⟨.str z, rfl, .str z, .ty "bool", _, _, false, rfl, .ty "bool", .base (.str z), kit_ty (by decide +kernel), .str z, rfl, .str z, .ty "bool", _, _, false, rfl, .ty "bool", .base (.str z), kit_ty (by decide +kernel), rfl, true, rfl, iteT ⟨.str z, rfl, rfl, .str z, rfl, rfl, rfl, ?_⟩⟩⟩
      exact q _ ((same_new nt).trans (same_new nt2))
    · exact fl.elim
    · exact fl.elim
    · exact fl.elim
    · exact fl.elim
def spSeq (n : Nat) : Sp := fun vs H Q _ => ∃ a b xs ys, vs = [.ref a, .ref b] ∧ xs.length = ys.length ∧ xs.length ≤ 10000 ∧ ((H a = some (.lst xs) ∧ H b = some (.lst ys)) ∨ (H a = some (.tup xs) ∧ H b = some (.tup ys))) ∧
  (∀ (i : Nat) (u v : V), xs[i]? = some u → ys[i]? = some v → Eqd H n u v) ∧ ∀ H', Same H H' → Q (.bl true) H'
theorem ok_seq {f : Addr} {fd : FuncData} (F : Fun K "_law_same" "_law_same" sSame f fd) (B : Bi mg) (g : mg "_law_same" = some (.ref f)) (bd : Binds K fd psSame []) {n k : Nat} (G : FnOk P w K mg base CX0 (k + 1) f fd psSame (spSame n)) : FnOk P w K mg base CX0 (k + 2) f fd psSame (spSeq n) := by
  refine F.ok scSame (fun vs H Q E h => ?_) (fun cdv A outer s H vs Q E hr h => ?_)
  · obtain ⟨a, b, xs, ys, rfl, _⟩ := h
    rfl
  · obtain ⟨a, b, xs, ys, rfl, el, lz, hab, hd, q⟩ := h
    refine ⟨_, pss_cons (ps_if (pt_val (pe_callB call_isiT (by rfl) B.isinstance (by decide +kernel) (pa_cons (pv 1) (pa_cons (pe_tup (pa_cons (pe_bltn (v := .ty "list") (by rfl) B.list (by decide +kernel) rfl) (pa_cons (pe_bltn (v := .ty "tuple") (by rfl) B.tuple (by decide +kernel) rfl) pa_nil))) pa_nil))))
        (pss_cons (ps_if (PW.pt (pw_or (pt_cmpR op_ne (pe_callB call_isi (by rfl) B.isinstance (by decide +kernel) (pa_cons (pv 0) (pa_cons (pe_bltn (v := .ty "list") (by rfl) B.list (by decide +kernel) rfl) pa_nil))) (pe_callB call_isi (by rfl) B.isinstance (by decide +kernel) (pa_cons (pv 1) (pa_cons (pe_bltn (v := .ty "list") (by rfl) B.list (by decide +kernel) rfl) pa_nil))) (nomark _))
            (pw_or1 (pt_cmpR op_ne (pe_callB call_isi (by rfl) B.isinstance (by decide +kernel) (pa_cons (pv 0) (pa_cons (pe_bltn (v := .ty "tuple") (by rfl) B.tuple (by decide +kernel) rfl) pa_nil))) (pe_callB call_isi (by rfl) B.isinstance (by decide +kernel) (pa_cons (pv 1) (pa_cons (pe_bltn (v := .ty "tuple") (by rfl) B.tuple (by decide +kernel) rfl) pa_nil))) (nomark _))))) pss_never pss_nil)
        (pss_one (ps_ret (pe_and (pe_cmpR op_eq (pe_callB call_len_seq (by rfl) B.len PySem.boot_len (pa_cons (pv 0) pa_nil)) (pe_callB call_len_seq (by rfl) B.len PySem.boot_len (pa_cons (pv 1) pa_nil)) (nomark _))
          (pe_one (pe_callB (cr_all rfl) (by rfl) B.all (by decide +kernel) (pa_cons (pe_lc (own := [("_law_one", 2), ("_law_two", 3)]) (g := gTup K 2 (gCons (gName 2) (gCons (gName 3) gNil))) (tt := tYes) (by rfl) scSame.nd (RZ.pi_zipA (by rfl) B.zip (pa_cons (pv 0) (pa_cons (pv 1) pa_nil))) (blkOk_by (own := [("_law_one", 2), ("_law_two", 3)]) (N := nSame) (sc := defScope sSame) (by decide +kernel))
            (fun _ _ _ _ _ => pgtup_K (K := K) rfl (pg_tup rfl (pgs_cons (pg_name (i := 2) scSame.nd rfl (Or.inl rfl)) (pgs_cons (pg_name (i := 3) scSame.nd rfl (Or.inl rfl)) pgs_nil)))) (fun _ _ _ _ _ => pts_nil) (fun _ _ _ _ _ => pe_call G hr (by rfl) g F.kp bd .nil pass0 (pa_cons (pv 2) (pa_cons (pv 3) pa_nil)))) pa_nil))))))) pss_nil)
      pss_never, ?_⟩
    have go : ∀ (T : String) (r1 r2 : Bool) (H2 : Hp), Same H H2 → (∀ H3, Same H H3 → TyX K H3 (.ref a) (.type T) ∧ TyX K H3 (.ref b) (.type T)) → True := fun _ _ _ _ _ _ => trivial
    have lens : ∀ H2, Same H H2 → (SqL K H2 a xs ∨ SqT K H2 a xs) ∧ (SqL K H2 b ys ∨ SqT K H2 b ys) := fun H2 sm => by
      rcases hab with ⟨h1, h2⟩ | ⟨h1, h2⟩
      · exact ⟨.inl (SqL.of (sm _ _ h1)), .inl (SqL.of (sm _ _ h2))⟩
      · exact ⟨.inr (SqT.of (sm _ _ h1)), .inr (SqT.of (sm _ _ h2))⟩
    have turn : ∀ (D : Addr) (t : Addr) (H1 : Hp), True := fun _ _ _ => trivial
    have tail : ∀ H2 : Hp, Same H H2 → tRet (tAndV (tOp rEq (tCB (fun xs H Q => ∃ p ys, xs = [.ref p] ∧ (SqL K H p ys ∨ SqT K H p ys) ∧ Q (.int ys.length) H) (tCons (tVar 0) tNil)) (tCB (fun xs H Q => ∃ p ys, xs = [.ref p] ∧ (SqL K H p ys ∨ SqT K H p ys) ∧ Q (.int ys.length) H) (tCons (tVar 1) tNil)))
        (tCB (rAll K) (tCons (tLc (RZ.iZipA K (tCons (tVar 0) (tCons (tVar 1) tNil))) (gTup K 2 (gCons (gName 2) (gCons (gName 3) gNil))) tYes (tCall (spSame n) [] E0 (tCons (tVar 2) (tCons (tVar 3) tNil))) [2, 3]) tNil))) { nx := fun _ H' => Q .non H', rt := Q } [some (.ref a), some (.ref b), none, none] H2 := by
      intro H2 sm
      obtain ⟨l1, l2⟩ := lens H2 sm
      refine ⟨.ref a, rfl, a, xs, rfl, l1, .ref b, rfl, b, ys, rfl, l2, rfl, true, (by rw [el, decide_eq_true rfl]), iteT ?_⟩
      have hs : ∀ (D : Addr), H2 D = none → ∀ (i : Nat) (x : V) (H3 H4 : Hp), i < xs.length → (Same H2 H3 ∧ H3 D = some (.lst (List.replicate i (.bl true)))) → YPair (fun i => xs[i]?) (fun i => ys[i]?) i H3 x H4 →
          (gTup K 2 (gCons (gName 2) (gCons (gName 3) gNil))) x (wipe [some (.ref a), some (.ref b), none, none] [2, 3]) H4 fun σ2 H5 => wipe σ2 [2, 3] = wipe [some (.ref a), some (.ref b), none, none] [2, 3] ∧ tYes σ2 H5 fun b H6 =>
            if b = true then (tCall (spSame n) [] E0 (tCons (tVar 2) (tCons (tVar 3) tNil))) σ2 H6 fun y H7 => ∃ acc, H7 D = some (.lst acc) ∧ acc.length < sizeLine ∧ (Same H2 (upd H7 D (.lst (acc ++ [y]))) ∧ (upd H7 D (.lst (acc ++ [y]))) D = some (.lst (List.replicate (i + 1) (.bl true)))) else (Same H2 H6 ∧ H6 D = some (.lst (List.replicate (i + 1) (.bl true)))) := by
        rintro D nD i x H3 H4 hi ⟨sm3, hD⟩ ⟨T, x1, x2, rfl, nT, rfl, hx1, hx2⟩
        refine ⟨T, _, rfl, SqT.of upd_same, rfl, _, _, rfl, _, _, rfl, rfl, ?_⟩
        refine ⟨rfl, yes_ok ⟨x1, rfl, x2, rfl, x1, x2, rfl, ?_, fun H7 sm7 => ?_⟩⟩
        · exact ((hd i x1 x2 hx1 hx2).mono (sm.trans sm3)).mono (same_new nT)
        · have hD7 := sm7 _ _ (upd_keep hD nT)
          refine ⟨_, hD7, ?_, ?_, ?_⟩
          · rw [List.length_replicate]; exact szl (by omega)
          · exact same_mut (sm3.trans ((same_new nT).trans sm7)) nD
          · rw [upd_same, rep_app]
      have fin : ∀ (D : Addr) (H3 : Hp), (Same H2 H3 ∧ H3 D = some (.lst (List.replicate xs.length (.bl true)))) → rAll K [.ref D] H3 Q := by
        rintro D H3 ⟨sm3, hD⟩
        refine ⟨D, List.replicate xs.length true, rfl, ?_, ?_⟩
        · rw [rep_bl]; exact SqL.of hD
        · rw [all_true]; exact q H3 (sm.trans sm3)
      rcases hab with ⟨h1, h2⟩ | ⟨h1, h2⟩
      · refine ⟨.ref a, rfl, .ref b, rfl, a, b, xs, ys, rfl, .inl ⟨SqL.of (sm _ _ h1), SqL.of (sm _ _ h2), fun D nD => ?_⟩⟩
        refine lc_it (walk_zip (K := K) (a := a) (b := b) (xs := xs) (ys := ys) (n := xs.length) (by omega)) (fun i H3 => Same H2 H3 ∧ H3 D = some (.lst (List.replicate i (.bl true)))) ⟨same_new nD, upd_same⟩ ?_ (hs D nD) (fin D)
        rintro i H3 _ ⟨sm3, _⟩
        exact ⟨SqL.of (sm3 _ _ (sm _ _ h1)), SqL.of (sm3 _ _ (sm _ _ h2))⟩
      · refine ⟨.ref a, rfl, .ref b, rfl, a, b, xs, ys, rfl, .inr ⟨SqT.of (sm _ _ h1), SqT.of (sm _ _ h2), fun D nD => ?_⟩⟩
        refine lc_it (walk_zipT (K := K) (a := a) (b := b) (xs := xs) (ys := ys) (n := xs.length) (by omega)) (fun i H3 => Same H2 H3 ∧ H3 D = some (.lst (List.replicate i (.bl true)))) ⟨same_new nD, upd_same⟩ ?_ (hs D nD) (fin D)
        rintro i H3 _ ⟨sm3, _⟩
        exact ⟨SqT.of (sm3 _ _ (sm _ _ h1)), SqT.of (sm3 _ _ (sm _ _ h2))⟩
    rcases hab with ⟨h1, h2⟩ | ⟨h1, h2⟩
    · refine ⟨.ref b, rfl, (by show 2 ≤ sizeLine; decide), fun t nt => ?_⟩
      have h1' := upd_keep (u := .tup [.ty "list", .ty "tuple"]) h1 nt
      have h2' := upd_keep (u := .tup [.ty "list", .ty "tuple"]) h2 nt
      refine ⟨.ref b, t, _, .type "list", _, true, rfl, upd_same, .cons (.ty "list") (.cons (.ty "tuple") .nil), .base (.lst h2'), ka2 (r1 := true) (r2 := false) (by decide +kernel) (by decide +kernel), _, rfl, iteT ?_⟩
      refine ⟨.ref a, rfl, .ref a, .ty "list", _, _, true, rfl, .ty "list", .base (.lst h1'), kit_ty (by decide +kernel), .ref b, rfl, .ref b, .ty "list", _, _, true, rfl, .ty "list", .base (.lst h2'), kit_ty (by decide +kernel), rfl, false, rfl, iteF ?_⟩
      refine ⟨.ref a, rfl, .ref a, .ty "tuple", _, _, false, rfl, .ty "tuple", .base (.lst h1'), kit_ty (by decide +kernel), .ref b, rfl, .ref b, .ty "tuple", _, _, false, rfl, .ty "tuple", .base (.lst h2'), kit_ty (by decide +kernel), rfl, false, rfl, iteF ?_⟩
      exact tail _ (same_new nt)
    · refine ⟨.ref b, rfl, (by show 2 ≤ sizeLine; decide), fun t nt => ?_⟩
      have h1' := upd_keep (u := .tup [.ty "list", .ty "tuple"]) h1 nt
      have h2' := upd_keep (u := .tup [.ty "list", .ty "tuple"]) h2 nt
      refine ⟨.ref b, t, _, .type "tuple", _, true, rfl, upd_same, .cons (.ty "list") (.cons (.ty "tuple") .nil), .base (.tup h2'), ka2 (r1 := false) (r2 := true) (by decide +kernel) (by decide +kernel), _, rfl, iteT ?_⟩
      refine ⟨.ref a, rfl, .ref a, .ty "list", _, _, false, rfl, .ty "list", .base (.tup h1'), kit_ty (by decide +kernel), .ref b, rfl, .ref b, .ty "list", _, _, false, rfl, .ty "list", .base (.tup h2'), kit_ty (by decide +kernel), rfl, false, rfl, iteF ?_⟩
      refine ⟨.ref a, rfl, .ref a, .ty "tuple", _, _, true, rfl, .ty "tuple", .base (.tup h1'), kit_ty (by decide +kernel), .ref b, rfl, .ref b, .ty "tuple", _, _, true, rfl, .ty "tuple", .base (.tup h2'), kit_ty (by decide +kernel), rfl, false, rfl, iteF ?_⟩
      exact tail _ (same_new nt)
theorem ok_same {f : Addr} {fd : FuncData} (F : Fun K "_law_same" "_law_same" sSame f fd) (B : Bi mg) (g : mg "_law_same" = some (.ref f)) (bd : Binds K fd psSame []) : ∀ n, FnOk P w K mg base CX0 (n + 1) f fd psSame (spSame n)
  | 0 => ok_same0 F B
  | n + 1 => FnOk.imp (fn_or (ok_same0 F B) (ok_seq F B g bd (ok_same F B g bd n))) fun vs H Q E h => by
    obtain ⟨x, y, rfl, h, q⟩ := h
    rcases h with h | ⟨a, b, xs, ys, rfl, rfl, e3, e4, e5, e6⟩
    · exact .inl ⟨x, y, rfl, h, q⟩
    · exact .inr ⟨a, b, xs, ys, rfl, e3, e4, e5, e6, q⟩
end
end Lp

namespace Lp
open PySem PySem.Spec PyProof.Rows L2
/-! ### calls, as functions of lists -/
def gt (ns : List Int) (i : Int) : Int := ns.getD i.toNat 0
def call1 (ns : List Int) (w : Int) : List Int := ns.set w.toNat (gt ns (gt ns w))
def callAll (ns ws : List Int) : List Int := ws.foldl call1 ns
theorem call1_len (ns : List Int) (w : Int) : (call1 ns w).length = ns.length := by unfold call1; rw [List.length_set]
theorem callAll_len : ∀ (ws ns : List Int), (callAll ns ws).length = ns.length
  | [], _ => rfl
  | w :: ws, ns => by
    show (callAll (call1 ns w) ws).length = ns.length
    rw [callAll_len ws, call1_len]
theorem gt_get {ns : List Int} {i : Int} (h0 : 0 ≤ i) (h1 : i < (ns.length : Int)) : ns[i.toNat]? = some (gt ns i) := by
  unfold gt
  have hl : i.toNat < ns.length := by omega
  rw [List.getD_eq_getElem?_getD, List.getElem?_eq_getElem hl]; rfl
theorem gt_at {ns : List Int} {i : Int} (h0 : 0 ≤ i) (h1 : i < (ns.length : Int)) : atI (IL ns) i = some (.int (gt ns i)) :=
  at_of (j := i.toNat) (by omega) (IL_get (gt_get h0 h1))
theorem gt_low {n : Nat} {ns : List Int} {i : Int} (h : Low n ns) (h0 : 0 ≤ i) (h1 : i < (ns.length : Int)) : 0 ≤ gt ns i ∧ gt ns i < (n : Int) := h.at (gt_get h0 h1)
theorem call1_low {n : Nat} {ns : List Int} {w : Int} (h : Low n ns) (hn : ns.length = n) (h0 : 0 ≤ w) (h1 : w < (n : Int)) : Low n (call1 ns w) := by
  have a := gt_low h h0 (by omega)
  have b := gt_low h a.1 (by omega)
  exact h.set b.1 b.2
theorem callAll_low {n : Nat} : ∀ (ws ns : List Int), Low n ns → ns.length = n → Low n ws → Low n (callAll ns ws)
  | [], _, h, _, _ => h
  | w :: ws, ns, h, hn, hw => by
    have q := hw w (List.mem_cons_self)
    exact callAll_low ws (call1 ns w) (call1_low h hn q.1 q.2) (by rw [call1_len]; exact hn) fun z hz => hw z (List.mem_cons_of_mem _ hz)
theorem callAll_snoc (ns ws : List Int) (w : Int) : callAll ns (ws ++ [w]) = call1 (callAll ns ws) w := by
  unfold callAll; rw [List.foldl_append]; rfl
theorem take_snoc {ws : List Int} {i : Nat} (h : i < ws.length) : ws.take (i + 1) = ws.take i ++ [ws[i]] := by
  rw [List.take_add_one, List.getElem?_eq_getElem h]; rfl
theorem callAll_step (ns : List Int) {ws : List Int} {i : Nat} (h : i < ws.length) : callAll ns (ws.take (i + 1)) = call1 (callAll ns (ws.take i)) ws[i] := by
  rw [take_snoc h, callAll_snoc]
theorem Low.take {n : Nat} {ws : List Int} (h : Low n ws) (i : Nat) : Low n (ws.take i) := fun z hz => h z (List.mem_of_mem_take hz)
/-- a list or a tuple that stands in H -/
def Sq (H : Hp) (a : Addr) (xs : List V) : Prop := H a = some (.lst xs) ∨ H a = some (.tup xs)
theorem Sq.s {K : PySem.W.Frag} {H : Hp} {a : Addr} {xs : List V} (h : Sq H a xs) : SqL K H a xs ∨ SqT K H a xs := h.elim (fun h => .inl (SqL.of h)) (fun h => .inr (SqT.of h))
theorem Sq.mono {H H' : Hp} {a : Addr} {xs : List V} (h : Sq H a xs) (s : Same H H') : Sq H' a xs := h.elim (fun h => .inl (s _ _ h)) (fun h => .inr (s _ _ h))
section
variable {P : Program} {w : World} {K : PySem.W.Frag} {mg : Str → Option Value} {base : Heap}
/-! ### check_person -/
abbrev sCheckP : Stmt := topS 3
theorem scCheckP : FnScope ["state", "person"] ["state", "person"] (defScope sCheckP) := ⟨rfl, rfl, rfl, by decide +kernel, rfl, by decide +kernel, by decide +kernel⟩
def spCheckP : Sp := fun vs H Q _ => ∃ (a : Addr) (p : Int) (xs : List V), vs = [.ref a, .int p] ∧ Sq H a xs ∧ 0 ≤ p ∧ p < (xs.length : Int) ∧ Q .non H
theorem ok_checkP {f : Addr} {fd : FuncData} {k : Nat} (F : Fun K "check_person" "check_person" sCheckP f fd) (B : Bi mg) : FnOk P w K mg base CX0 (k + 1) f fd ["state", "person"] spCheckP := by
  refine F.ok scCheckP (fun vs H Q E h => ?_) (fun cdv A outer s H vs Q E hr h => ?_)
  · obtain ⟨a, p, xs, rfl, _⟩ := h
    rfl
  · obtain ⟨a, p, xs, rfl, hS, p0, p1, q⟩ := h
    refine ⟨_, pss_one (ps_if (pt_not (pt_chain op_le op_lt pe_int (pv 1) (pe_callB call_len_seq (by rfl) B.len PySem.boot_len (pa_cons (pv 0) pa_nil)))) pss_never pss_nil), ?_⟩
    refine ⟨.int p, rfl, 0, p, rfl, rfl, _, rfl, ?_⟩
    rw [decide_eq_true p0]
    refine iteT ⟨.ref a, rfl, a, xs, rfl, hS.s, p, _, rfl, rfl, _, rfl, ?_⟩
    rw [decide_eq_true p1]
    exact iteF q
/-! ### check_word -/
abbrev sCheckW : Stmt := topS 11
theorem scCheckW : FnScope ["state", "word", "person"] ["state", "word"] (defScope sCheckW) := ⟨rfl, rfl, rfl, by decide +kernel, rfl, by decide +kernel, by decide +kernel⟩
def spCheckW : Sp := fun vs H Q _ => ∃ (a b : Addr) (xs : List V) (ws : List Int), vs = [.ref a, .ref b] ∧ Sq H a xs ∧ Sq H b (IL ws) ∧ Low xs.length ws ∧ Q .non H
theorem ok_checkW {f fC : Addr} {fd fdC : FuncData} {k : Nat} (F : Fun K "check_word" "check_word" sCheckW f fd) (C : Cal P w K mg base "check_person" (k + 1) ["state", "person"] spCheckP fC fdC) : FnOk P w K mg base CX0 (k + 2) f fd ["state", "word"] spCheckW := by
  refine F.ok scCheckW (fun vs H Q E h => ?_) (fun cdv A outer s H vs Q E hr h => ?_)
  · obtain ⟨a, b, xs, ws, rfl, _⟩ := h
    rfl
  · obtain ⟨a, b, xs, ws, rfl, hS, hW, lo, q⟩ := h
    have turn : ∀ (i : Nat) (x : V), (IL ws)[i]? = some x → spCheckP [.ref a, x] H (fun v H' => H' = H) E0 := fun i x hx => by
      have hi : i < ws.length := by
        have := (List.getElem?_eq_some_iff.mp hx).1
        rw [List.length_map] at this; exact this
      have e := IL_at hx hi
      have z := lo.at (List.getElem?_eq_getElem hi)
      exact ⟨a, ws[i], xs, by rw [e], hS, z.1, z.2, rfl⟩
    rcases hW with hW | hW
    · refine ⟨_, pss_one (ps_for PassesOwn.never rfl (pi_list (pv 1)) (pg_name (i := 2) scCheckW.nd rfl (.inl rfl)) (pss_one (ps_expr (pe_call C.ok hr (by rfl) C.g C.kp C.bd .nil pass0 (pa_cons (pv 0) (pa_cons (pv 2) pa_nil)))))), ?_⟩
      refine ⟨.ref b, rfl, b, rfl, ⟨_, SqL.of hW⟩, ?_⟩
      refine for_list (K := K) (a := b) (xs := IL ws) (fun _ σ H3 => ∃ y, σ = [some (.ref a), some (.ref b), y] ∧ H3 = H) ⟨none, rfl, rfl⟩ ?_ ?_ ?_
      · rintro i σ H3 _ ⟨y, rfl, rfl⟩; exact SqL.of hW
      · rintro i x σ H3 hx ⟨y, rfl, rfl⟩
        obtain ⟨a', p, xs', e, h1, h2, h3, h4⟩ := turn i x hx
        exact ⟨.ref a, rfl, x, rfl, a', p, xs', e, h1, h2, h3, _, rfl, rfl⟩
      · rintro σ H3 ⟨y, rfl, rfl⟩; exact q
    · refine ⟨_, pss_one (ps_for PassesOwn.never rfl (pi_tup (pv 1)) (pg_name (i := 2) scCheckW.nd rfl (.inl rfl)) (pss_one (ps_expr (pe_call C.ok hr (by rfl) C.g C.kp C.bd .nil pass0 (pa_cons (pv 0) (pa_cons (pv 2) pa_nil)))))), ?_⟩
      refine ⟨.ref b, rfl, b, rfl, ⟨_, SqT.of hW⟩, ?_⟩
      refine for_tup (K := K) (a := b) (xs := IL ws) (fun _ σ H3 => ∃ y, σ = [some (.ref a), some (.ref b), y] ∧ H3 = H) ⟨none, rfl, rfl⟩ ?_ ?_ ?_
      · rintro i σ H3 _ ⟨y, rfl, rfl⟩; exact SqT.of hW
      · rintro i x σ H3 hx ⟨y, rfl, rfl⟩
        obtain ⟨a', p, xs', e, h1, h2, h3, h4⟩ := turn i x hx
        exact ⟨.ref a, rfl, x, rfl, a', p, xs', e, h1, h2, h3, _, rfl, rfl⟩
      · rintro σ H3 ⟨y, rfl, rfl⟩; exact q
/-! ### called_all -/
abbrev sCalledA : Stmt := topS 13
theorem scCalledA : FnScope ["state", "word", "pointers", "person"] ["state", "word"] (defScope sCalledA) := ⟨rfl, rfl, rfl, by decide +kernel, rfl, by decide +kernel, by decide +kernel⟩
def spCalledA : Sp := fun vs H Q _ => ∃ (a b : Addr) (ns ws : List Int), vs = [.ref a, .ref b] ∧ Sq H a (IL ns) ∧ Sq H b (IL ws) ∧ Low ns.length ns ∧ Low ns.length ws ∧
  ∀ H' p, Same H H' → H p = none → H' p = some (.tup (IL (callAll ns ws))) → Q (.ref p) H'
/-- one turn of the loop that calls -/
theorem call_turn {K : PySem.W.Frag} {Q : Hp → Prop} {H3 : Hp} {o : Addr} {st : List Int} {n : Nat} {wd : Int} (ho : H3 o = some (.lst (IL st))) (hl : st.length = n) (lo : Low n st) (w0 : 0 ≤ wd) (w1 : wd < (n : Int)) (q : Q (upd H3 o (.lst (IL (call1 st wd))))) {x y : Option V} :
    tAsg (tOp (rIxL K) (tVar 2) (tOp (rIxL K) (tVar 2) (tVar 3))) (gSub (tVar 2) (tVar 3) rSetL) { nx := fun _ H => Q H, rt := fun _ _ => False } [x, y, some (.ref o), some (.int wd)] H3 := by
  have a := gt_low lo w0 (by omega)
  refine ⟨.ref o, rfl, .ref o, rfl, .int wd, rfl, o, _, wd, _, rfl, rfl, SqL.of ho, gt_at w0 (by omega), o, _, _, _, rfl, rfl, SqL.of ho, gt_at a.1 (by omega), .ref o, rfl, .int wd, rfl, o, _, wd, wd.toNat, rfl, rfl, ho, ?_, ?_⟩
  · rw [List.length_map]; exact ix_ok w0 (by omega)
  · rw [IL_set]; exact q
theorem ok_calledA {f fC : Addr} {fd fdC : FuncData} {k : Nat} (F : Fun K "called_all" "called_all" sCalledA f fd) (B : Bi mg) (C : Cal P w K mg base "check_word" (k + 1) ["state", "word"] spCheckW fC fdC) : FnOk P w K mg base CX0 (k + 2) f fd ["state", "word"] spCalledA := by
  refine F.ok scCalledA (fun vs H Q E h => ?_) (fun cdv A outer s H vs Q E hr h => ?_)
  · obtain ⟨a, b, ns, ws, rfl, _⟩ := h
    rfl
  · obtain ⟨a, b, ns, ws, rfl, hS, hW, lo, lw, q⟩ := h
    have turn : ∀ (o : Addr) (H3 : Hp) (i : Nat) (x : V) (y : Option V), H o = none → (IL ws)[i]? = some x → Same H H3 → H3 o = some (.lst (IL (callAll ns (ws.take i)))) → i < ws.length ∧ ∀ D : Ends, (∀ y H4, Same H H4 → H4 o = some (.lst (IL (callAll ns (ws.take (i + 1))))) → D.nx [some (.ref a), some (.ref b), some (.ref o), y] H4) →
        tAsg (tOp (rIxL K) (tVar 2) (tOp (rIxL K) (tVar 2) (tVar 3))) (gSub (tVar 2) (tVar 3) rSetL) D [some (.ref a), some (.ref b), some (.ref o), some x] H3 := by
      intro o H3 i x y no hx sm ho
      have hi : i < ws.length := by
        have := (List.getElem?_eq_some_iff.mp hx).1
        rw [List.length_map] at this; exact this
      have e := IL_at hx hi
      subst e
      have z := lw.at (List.getElem?_eq_getElem hi)
      refine ⟨hi, fun D hD => ?_⟩
      have l2 : Low ns.length (callAll ns (ws.take i)) := callAll_low _ _ lo rfl (lw.take i)
      have len : (callAll ns (ws.take i)).length = ns.length := callAll_len _ _
      have g := gt_low l2 z.1 (by omega)
      refine ⟨.ref o, rfl, .ref o, rfl, .int ws[i], rfl, o, _, ws[i], _, rfl, rfl, SqL.of ho, gt_at z.1 (by omega), o, _, _, _, rfl, rfl, SqL.of ho, gt_at g.1 (by omega), .ref o, rfl, .int ws[i], rfl, o, _, ws[i], ws[i].toNat, rfl, rfl, ho, ?_, ?_⟩
      · rw [List.length_map]; exact ix_ok z.1 (by omega)
      · rw [IL_set]
        refine hD _ _ (same_mut sm no) ?_
        rw [upd_same, callAll_step ns hi]; rfl
    have fin : ∀ (o : Addr) (H3 : Hp) (y : Option V), H o = none → Same H H3 → H3 o = some (.lst (IL (callAll ns ws))) → tRet (tCB (fun xs H Q => ∃ p ys, xs = [.ref p] ∧ ((SqL K H p ys ∧ ∀ l, H l = none → Q (.ref l) (upd H l (.tup ys))) ∨ (SqT K H p ys ∧ Q (.ref p) H))) (tCons (tVar 2) tNil)) { nx := fun _ H' => Q .non H', rt := Q } [some (.ref a), some (.ref b), some (.ref o), y] H3 := by
      intro o H3 y no sm ho
      refine ⟨.ref o, rfl, o, _, rfl, .inl ⟨SqL.of ho, fun l nl => ?_⟩⟩
      exact q _ l (sm.trans (same_new nl)) (sm.free nl) upd_same
    rcases hW with hW | hW
    · refine ⟨_, pss_cons (ps_expr (pe_call C.ok hr (by rfl) C.g C.kp C.bd .nil pass0 (pa_cons (pv 0) (pa_cons (pv 1) pa_nil))))
        (pss_cons (ps_set (i := 2) scCalledA.nd rfl (.inl rfl) (pe_callTy call_list_of (by rfl) B.list (by decide +kernel) (pa_cons (pv 0) pa_nil)))
        (pss_cons (ps_for PassesOwn.never rfl (pi_list (pv 1)) (pg_name (i := 3) scCalledA.nd rfl (.inl rfl)) (pss_one (ps_asg (pe_ix ix_list (pv 2) (pe_ix ix_list (pv 2) (pv 3) (fun _ _ => rfl)) (fun _ _ => rfl)) (pg_sub (pv 2) (pv 3) set_list))))
        (pss_one (ps_ret (pe_callTy call_tuple_of (by rfl) B.tuple (by decide +kernel) (pa_cons (pv 2) pa_nil)))))), ?_⟩
      refine ⟨.ref a, rfl, .ref b, rfl, a, b, _, ws, rfl, hS, .inl hW, by rw [List.length_map]; exact lw, ?_⟩
      refine ⟨.ref a, rfl, a, _, rfl, hS.s, fun o no => ?_⟩
      refine ⟨.ref b, rfl, b, rfl, ⟨_, SqL.of (upd_keep hW no)⟩, ?_⟩
      refine for_list (K := K) (a := b) (xs := IL ws) (fun i σ H3 => ∃ y, σ = [some (.ref a), some (.ref b), some (.ref o), y] ∧ Same H H3 ∧ H3 o = some (.lst (IL (callAll ns (ws.take i))))) ⟨none, rfl, same_new no, upd_same⟩ ?_ ?_ ?_
      · rintro i σ H3 _ ⟨y, rfl, sm, _⟩; exact SqL.of (sm _ _ hW)
      · rintro i x σ H3 hx ⟨y, rfl, sm, ho⟩
        exact (turn o H3 i x y no hx sm ho).2 _ fun y H4 s4 h4 => ⟨y, rfl, s4, h4⟩
      · rintro σ H3 ⟨y, rfl, sm, ho⟩
        rw [List.length_map, List.take_length] at ho
        exact fin o H3 y no sm ho
    · refine ⟨_, pss_cons (ps_expr (pe_call C.ok hr (by rfl) C.g C.kp C.bd .nil pass0 (pa_cons (pv 0) (pa_cons (pv 1) pa_nil))))
        (pss_cons (ps_set (i := 2) scCalledA.nd rfl (.inl rfl) (pe_callTy call_list_of (by rfl) B.list (by decide +kernel) (pa_cons (pv 0) pa_nil)))
        (pss_cons (ps_for PassesOwn.never rfl (pi_tup (pv 1)) (pg_name (i := 3) scCalledA.nd rfl (.inl rfl)) (pss_one (ps_asg (pe_ix ix_list (pv 2) (pe_ix ix_list (pv 2) (pv 3) (fun _ _ => rfl)) (fun _ _ => rfl)) (pg_sub (pv 2) (pv 3) set_list))))
        (pss_one (ps_ret (pe_callTy call_tuple_of (by rfl) B.tuple (by decide +kernel) (pa_cons (pv 2) pa_nil)))))), ?_⟩
      refine ⟨.ref a, rfl, .ref b, rfl, a, b, _, ws, rfl, hS, .inr hW, by rw [List.length_map]; exact lw, ?_⟩
      refine ⟨.ref a, rfl, a, _, rfl, hS.s, fun o no => ?_⟩
      refine ⟨.ref b, rfl, b, rfl, ⟨_, SqT.of (upd_keep hW no)⟩, ?_⟩
      refine for_tup (K := K) (a := b) (xs := IL ws) (fun i σ H3 => ∃ y, σ = [some (.ref a), some (.ref b), some (.ref o), y] ∧ Same H H3 ∧ H3 o = some (.lst (IL (callAll ns (ws.take i))))) ⟨none, rfl, same_new no, upd_same⟩ ?_ ?_ ?_
      · rintro i σ H3 _ ⟨y, rfl, sm, _⟩; exact SqT.of (sm _ _ hW)
      · rintro i x σ H3 hx ⟨y, rfl, sm, ho⟩
        exact (turn o H3 i x y no hx sm ho).2 _ fun y H4 s4 h4 => ⟨y, rfl, s4, h4⟩
      · rintro σ H3 ⟨y, rfl, sm, ho⟩
        rw [List.length_map, List.take_length] at ho
        exact fin o H3 y no sm ho
/-! ### called -/
abbrev sCalled : Stmt := topS 12
theorem scCalled : FnScope ["state", "person"] ["state", "person"] (defScope sCalled) := ⟨rfl, rfl, rfl, by decide +kernel, rfl, by decide +kernel, by decide +kernel⟩
def spCalled : Sp := fun vs H Q _ => ∃ (a : Addr) (p : Int) (ns : List Int), vs = [.ref a, .int p] ∧ Sq H a (IL ns) ∧ Low ns.length ns ∧ 0 ≤ p ∧ p < (ns.length : Int) ∧
  ∀ H' r, Same H H' → H r = none → H' r = some (.tup (IL (call1 ns p))) → Q (.ref r) H'
theorem ok_called {f fC : Addr} {fd fdC : FuncData} {k : Nat} (F : Fun K "called" "called" sCalled f fd) (C : Cal P w K mg base "called_all" (k + 1) ["state", "word"] spCalledA fC fdC) : FnOk P w K mg base CX0 (k + 2) f fd ["state", "person"] spCalled := by
  refine F.ok scCalled (fun vs H Q E h => ?_) (fun cdv A outer s H vs Q E hr h => ?_)
  · obtain ⟨a, p, ns, rfl, _⟩ := h
    rfl
  · obtain ⟨a, p, ns, rfl, hS, lo, p0, p1, q⟩ := h
    refine ⟨_, pss_one (ps_ret (pe_call C.ok hr (by rfl) C.g C.kp C.bd .nil pass0 (pa_cons (pv 0) (pa_cons (pe_lst (pa_cons (pv 1) pa_nil)) pa_nil)))), ?_⟩
    refine ⟨.ref a, rfl, .int p, rfl, (by show 1 ≤ sizeLine; decide), fun o no => ?_⟩
    refine ⟨a, o, ns, [p], rfl, hS.mono (same_new no), .inl upd_same, lo, ?_, fun H' r sm nr hr' => ?_⟩
    · intro z hz
      rw [List.mem_singleton] at hz
      subst hz; exact ⟨p0, p1⟩
    · exact q H' r ((same_new no).trans sm) ((same_new no).free nr) hr'
/-! ### states_along -/
abbrev sAlong : Stmt := topS 14
theorem scAlong : FnScope ["state", "word", "along", "person"] ["state", "word"] (defScope sAlong) := ⟨rfl, rfl, rfl, by decide +kernel, rfl, by decide +kernel, by decide +kernel⟩
/-- rs: the addresses of the states along the word -/
def IsAlong (H : Hp) (ns ws : List Int) (rs : List Addr) (m : Nat) : Prop := rs.length = m ∧ ∀ (i : Nat) (r : Addr), rs[i]? = some r → H r = some (.tup (IL (callAll ns (ws.take i))))
theorem IsAlong.mono {H H' : Hp} {ns ws : List Int} {rs : List Addr} {m : Nat} (h : IsAlong H ns ws rs m) (s : Same H H') : IsAlong H' ns ws rs m := ⟨h.1, fun i r e => s _ _ (h.2 i r e)⟩
def spAlong : Sp := fun vs H Q _ => ∃ (a b : Addr) (ns ws : List Int), vs = [.ref a, .ref b] ∧ Sq H a (IL ns) ∧ Sq H b (IL ws) ∧ Low ns.length ns ∧ Low ns.length ws ∧ ws.length ≤ 5000 ∧
  ∀ H' p rs, Same H H' → H p = none → H' p = some (.lst (rs.map V.ref)) → IsAlong H' ns ws rs (ws.length + 1) → Q (.ref p) H'
theorem ref_app (rs : List Addr) (r : Addr) : rs.map V.ref ++ [V.ref r] = (rs ++ [r]).map V.ref := by rw [List.map_append]; rfl
theorem IsAlong.snoc {H : Hp} {ns ws : List Int} {rs : List Addr} {m : Nat} {r : Addr} (h : IsAlong H ns ws rs m) (e : H r = some (.tup (IL (callAll ns (ws.take m))))) : IsAlong H ns ws (rs ++ [r]) (m + 1) := by
  refine ⟨by rw [List.length_append, h.1]; rfl, fun i r' e' => ?_⟩
  rw [List.getElem?_append] at e'
  split at e'
  · exact h.2 i r' e'
  · rename_i hi
    have hl := h.1
    by_cases z : i - rs.length = 0
    · rw [z] at e'
      cases e'
      have : i = m := by omega
      subst this; exact e
    · have : ([r] : List Addr)[i - rs.length]? = none := List.getElem?_eq_none_iff.mpr (by show 1 ≤ _; omega)
      rw [this] at e'; cases e'
theorem ok_along {f fC fD : Addr} {fd fdC fdD : FuncData} {k : Nat} (F : Fun K "states_along" "states_along" sAlong f fd) (B : Bi mg) (C : Cal P w K mg base "check_word" (k + 1) ["state", "word"] spCheckW fC fdC) (D : Cal P w K mg base "called" (k + 1) ["state", "person"] spCalled fD fdD) : FnOk P w K mg base CX0 (k + 2) f fd ["state", "word"] spAlong := by
  refine F.ok scAlong (fun vs H Q E h => ?_) (fun cdv A outer s H vs Q E hr h => ?_)
  · obtain ⟨a, b, ns, ws, rfl, _⟩ := h
    rfl
  · obtain ⟨a, b, ns, ws, rfl, hS, hW, lo, lw, lz, q⟩ := h
    have turn : ∀ (o : Addr) (H3 : Hp) (i : Nat) (x : V) (rs : List Addr), H o = none → (IL ws)[i]? = some x → Same H H3 → H3 o = some (.lst (rs.map V.ref)) → IsAlong H3 ns ws rs (i + 1) → ∀ E : Ends, (∀ y H4 rs, Same H H4 → H4 o = some (.lst (rs.map V.ref)) → IsAlong H4 ns ws rs (i + 2) → E.nx [some (.ref a), some (.ref b), some (.ref o), y] H4) →
        tDrop (tBM K "list" rAppend (tVar 2) (tCons (tCall spCalled [] E0 (tCons (tOp (rIxL K) (tVar 2) (tUn (rU fun i => .int (-i)) (tC (.int 1)))) (tCons (tVar 3) tNil))) tNil)) E [some (.ref a), some (.ref b), some (.ref o), some x] H3 := by
      intro o H3 i x rs no hx sm ho al E hE
      have hi : i < ws.length := by
        have := (List.getElem?_eq_some_iff.mp hx).1
        rw [List.length_map] at this; exact this
      have e := IL_at hx hi
      subst e
      have z := lw.at (List.getElem?_eq_getElem hi)
      have hl := al.1
      have hr' : rs[i]? = some rs[i] := List.getElem?_eq_getElem (by omega)
      have hst := al.2 i _ hr'
      have l2 : Low ns.length (callAll ns (ws.take i)) := callAll_low _ _ lo rfl (lw.take i)
      have len : (callAll ns (ws.take i)).length = ns.length := callAll_len _ _
      have last : atI (rs.map V.ref) (-1) = some (.ref rs[i]) := at_last (i := i) (by rw [List.length_map]; exact hl) (by rw [List.getElem?_map, hr']; rfl)
      refine ⟨.ref o, rfl, .inl ⟨rfl, _, SqL.of ho⟩, .ref o, rfl, 1, rfl, o, _, -1, _, rfl, rfl, SqL.of ho, last, .int ws[i], rfl, rs[i], ws[i], callAll ns (ws.take i), rfl, .inr hst, by rw [len]; exact l2, z.1, by omega, fun H4 r s4 nr hr4 => ?_⟩
      have ho4 := s4 _ _ ho
      refine ⟨o, _, _, rfl, rfl, ho4, ?_, ?_⟩
      · rw [List.length_map]; exact szl (by omega)
      · have or : r ≠ o := fun z => by rw [z, ho] at nr; cases nr
        refine hE _ _ (rs ++ [r]) (same_mut (sm.trans s4) no) (by rw [upd_same, ref_app]) ?_
        have al4 : IsAlong (upd H4 o (.lst (rs.map V.ref ++ [.ref r]))) ns ws rs (i + 1) := ⟨al.1, fun j r' e => by
          have := s4 _ _ (al.2 j r' e)
          rw [upd_ne (fun z => by rw [z, ho4] at this; cases this)]; exact this⟩
        refine al4.snoc ?_
        rw [upd_ne or, callAll_step ns hi]; exact hr4
    have start : ∀ (c : Addr) (H2 : Hp), H2 c = some (.tup (IL ns)) → ∀ o, H2 o = none → IsAlong (upd H2 o (.lst [.ref c])) ns ws [c] (0 + 1) := fun c H2 hc o no => by
      refine ⟨rfl, fun i r e => ?_⟩
      rcases i with _ | i
      · cases e
        exact upd_keep hc no
      · simp at e
    rcases hW with hW | hW
    · refine ⟨_, pss_cons (ps_expr (pe_call C.ok hr (by rfl) C.g C.kp C.bd .nil pass0 (pa_cons (pv 0) (pa_cons (pv 1) pa_nil))))
        (C8.pss_cut (ps_set (i := 2) scAlong.nd rfl (.inl rfl) (pe_lst (pa_cons (pe_callTy call_tuple_of (by rfl) B.tuple (by decide +kernel) (pa_cons (pv 0) pa_nil)) pa_nil)))
        (pss_cons (ps_for PassesOwn.never rfl (pi_list (pv 1)) (pg_name (i := 3) scAlong.nd rfl (.inl rfl)) (pss_one (ps_expr (pe_bm PySem.F.plainAttrs_list PySem.F.slot_list_append PySem.F.type_list_append mt_append (pv 2) (pa_cons (pe_call D.ok hr (by rfl) D.g D.kp D.bd .nil pass0 (pa_cons (pe_ix ix_list (pv 2) (pe_un un_neg pe_int) (fun _ _ => rfl)) (pa_cons (pv 3) pa_nil))) pa_nil)))))
        (pss_one (ps_ret (pv 2))))), ?_⟩
      refine ⟨.ref a, rfl, .ref b, rfl, a, b, _, ws, rfl, hS, .inl hW, by rw [List.length_map]; exact lw, ?_⟩
      refine ⟨fun σ H3 => ∃ c o H2, σ = [some (.ref a), some (.ref b), some (.ref o), none] ∧ Same H H2 ∧ H2 c = some (.tup (IL ns)) ∧ H2 o = none ∧ H3 = upd H2 o (.lst [.ref c]), ?_, ?_⟩
      · rcases hS with hS | hS
        · exact ⟨.ref a, rfl, a, _, rfl, .inl ⟨SqL.of hS, fun l nl => ⟨(by show 1 ≤ sizeLine; decide), fun o no => ⟨l, o, _, rfl, same_new nl, upd_same, no, rfl⟩⟩⟩⟩
        · exact ⟨.ref a, rfl, a, _, rfl, .inr ⟨SqT.of hS, (by show 1 ≤ sizeLine; decide), fun o no => ⟨a, o, H, rfl, Same.refl H, hS, no, rfl⟩⟩⟩
      rintro σ H' ⟨c, o, H2, rfl, s2, hc, no, rfl⟩
      have n0 : H o = none := s2.free no
      have s3 := s2.trans (same_new (o := .lst [V.ref c]) no)
      refine ⟨.ref b, rfl, b, rfl, ⟨_, SqL.of (s3 _ _ hW)⟩, ?_⟩
      refine for_list (K := K) (a := b) (xs := IL ws) (fun i σ H3 => ∃ y rs, σ = [some (.ref a), some (.ref b), some (.ref o), y] ∧ Same H H3 ∧ H3 o = some (.lst (rs.map V.ref)) ∧ IsAlong H3 ns ws rs (i + 1)) ⟨none, [c], rfl, s3, upd_same, start c H2 hc o no⟩ ?_ ?_ ?_
      · rintro i σ H3 _ ⟨y, rs, rfl, sm, _⟩; exact SqL.of (sm _ _ hW)
      · rintro i x σ H3 hx ⟨y, rs, rfl, sm, ho, al⟩
        exact turn o H3 i x rs n0 hx sm ho al _ fun y H4 rs s4 h4 al4 => ⟨y, rs, rfl, s4, h4, al4⟩
      · rintro σ H3 ⟨y, rs, rfl, sm, ho, al⟩
        rw [List.length_map] at al
        exact ⟨.ref o, rfl, q H3 o rs sm n0 ho al⟩
    · refine ⟨_, pss_cons (ps_expr (pe_call C.ok hr (by rfl) C.g C.kp C.bd .nil pass0 (pa_cons (pv 0) (pa_cons (pv 1) pa_nil))))
        (C8.pss_cut (ps_set (i := 2) scAlong.nd rfl (.inl rfl) (pe_lst (pa_cons (pe_callTy call_tuple_of (by rfl) B.tuple (by decide +kernel) (pa_cons (pv 0) pa_nil)) pa_nil)))
        (pss_cons (ps_for PassesOwn.never rfl (pi_tup (pv 1)) (pg_name (i := 3) scAlong.nd rfl (.inl rfl)) (pss_one (ps_expr (pe_bm PySem.F.plainAttrs_list PySem.F.slot_list_append PySem.F.type_list_append mt_append (pv 2) (pa_cons (pe_call D.ok hr (by rfl) D.g D.kp D.bd .nil pass0 (pa_cons (pe_ix ix_list (pv 2) (pe_un un_neg pe_int) (fun _ _ => rfl)) (pa_cons (pv 3) pa_nil))) pa_nil)))))
        (pss_one (ps_ret (pv 2))))), ?_⟩
      refine ⟨.ref a, rfl, .ref b, rfl, a, b, _, ws, rfl, hS, .inr hW, by rw [List.length_map]; exact lw, ?_⟩
      refine ⟨fun σ H3 => ∃ c o H2, σ = [some (.ref a), some (.ref b), some (.ref o), none] ∧ Same H H2 ∧ H2 c = some (.tup (IL ns)) ∧ H2 o = none ∧ H3 = upd H2 o (.lst [.ref c]), ?_, ?_⟩
      · rcases hS with hS | hS
        · exact ⟨.ref a, rfl, a, _, rfl, .inl ⟨SqL.of hS, fun l nl => ⟨(by show 1 ≤ sizeLine; decide), fun o no => ⟨l, o, _, rfl, same_new nl, upd_same, no, rfl⟩⟩⟩⟩
        · exact ⟨.ref a, rfl, a, _, rfl, .inr ⟨SqT.of hS, (by show 1 ≤ sizeLine; decide), fun o no => ⟨a, o, H, rfl, Same.refl H, hS, no, rfl⟩⟩⟩
      rintro σ H' ⟨c, o, H2, rfl, s2, hc, no, rfl⟩
      have n0 : H o = none := s2.free no
      have s3 := s2.trans (same_new (o := .lst [V.ref c]) no)
      refine ⟨.ref b, rfl, b, rfl, ⟨_, SqT.of (s3 _ _ hW)⟩, ?_⟩
      refine for_tup (K := K) (a := b) (xs := IL ws) (fun i σ H3 => ∃ y rs, σ = [some (.ref a), some (.ref b), some (.ref o), y] ∧ Same H H3 ∧ H3 o = some (.lst (rs.map V.ref)) ∧ IsAlong H3 ns ws rs (i + 1)) ⟨none, [c], rfl, s3, upd_same, start c H2 hc o no⟩ ?_ ?_ ?_
      · rintro i σ H3 _ ⟨y, rs, rfl, sm, _⟩; exact SqT.of (sm _ _ hW)
      · rintro i x σ H3 hx ⟨y, rs, rfl, sm, ho, al⟩
        exact turn o H3 i x rs n0 hx sm ho al _ fun y H4 rs s4 h4 al4 => ⟨y, rs, rfl, s4, h4, al4⟩
      · rintro σ H3 ⟨y, rs, rfl, sm, ho, al⟩
        rw [List.length_map] at al
        exact ⟨.ref o, rfl, q H3 o rs sm n0 ho al⟩
end
end Lp

namespace Lp
open PySem PySem.Spec PyProof.Rows L2
/-! ### idle calls -/
def idleB (ns ws : List Int) (i : Nat) : Bool := decide (callAll ns (ws.take i) = callAll ns (ws.take (i + 1)))
def idleN (ns ws : List Int) (m : Nat) : List Int := ((List.range m).filter (idleB ns ws)).map Int.ofNat
def idleL (ns ws : List Int) : List Int := idleN ns ws ws.length
theorem idleN_succ (ns ws : List Int) (m : Nat) : idleN ns ws (m + 1) = if idleB ns ws m then idleN ns ws m ++ [(m : Int)] else idleN ns ws m := by
  unfold idleN
  rw [List.range_succ, List.filter_append]
  by_cases h : idleB ns ws m = true
  · rw [if_pos h, List.filter_cons_of_pos h, List.map_append]; rfl
  · rw [if_neg h, List.filter_cons_of_neg h, List.filter_nil, List.append_nil]
theorem idleN_len (ns ws : List Int) (m : Nat) : (idleN ns ws m).length ≤ m := by
  unfold idleN
  rw [List.length_map]
  exact Nat.le_trans (List.length_filter_le _ _) (by rw [List.length_range]; exact Nat.le_refl m)
theorem idleN_mem {ns ws : List Int} {m i : Nat} : (i : Int) ∈ idleN ns ws m ↔ i < m ∧ idleB ns ws i = true := by
  unfold idleN
  constructor
  · intro h
    obtain ⟨j, hj, e⟩ := List.mem_map.mp h
    have : j = i := Int.ofNat.inj e
    subst this
    have := List.mem_filter.mp hj
    exact ⟨List.mem_range.mp this.1, this.2⟩
  · rintro ⟨h1, h2⟩
    exact List.mem_map.mpr ⟨i, List.mem_filter.mpr ⟨List.mem_range.mpr h1, h2⟩, rfl⟩
/-- a call changes nothing exactly if the person points at a root -/
theorem call1_idle {ns : List Int} {w : Int} (h0 : 0 ≤ w) (h1 : w < (ns.length : Int)) : call1 ns w = ns ↔ gt ns (gt ns w) = gt ns w := by
  have g := gt_get h0 h1
  have hl : w.toNat < ns.length := by omega
  unfold call1
  constructor
  · intro e
    have e2 : (ns.set w.toNat (gt ns (gt ns w)))[w.toNat]? = some (gt ns (gt ns w)) := List.getElem?_set_self hl
    rw [e, g] at e2
    exact (Option.some.inj e2).symm
  · intro e
    rw [e]
    apply List.ext_getElem?
    intro i
    by_cases hi : w.toNat = i
    · subst hi
      rw [List.getElem?_set_self hl, g]
    · rw [List.getElem?_set_ne hi]
theorem idleB_step {ns ws : List Int} {i : Nat} (h : i < ws.length) (lo : Low ns.length ns) (lw : Low ns.length ws) :
    idleB ns ws i = decide (gt (callAll ns (ws.take i)) (gt (callAll ns (ws.take i)) ws[i]) = gt (callAll ns (ws.take i)) ws[i]) := by
  unfold idleB
  have z := lw.at (List.getElem?_eq_getElem h)
  have len : (callAll ns (ws.take i)).length = ns.length := callAll_len _ _
  have := call1_idle (ns := callAll ns (ws.take i)) (w := ws[i]) z.1 (by omega)
  rw [callAll_step ns h]
  by_cases q : call1 (callAll ns (ws.take i)) ws[i] = callAll ns (ws.take i)
  · rw [decide_eq_true q.symm, decide_eq_true (this.mp q)]
  · rw [decide_eq_false fun e => q e.symm, decide_eq_false fun e => q (this.mpr e)]
/-- the word without its idle calls -/
def restN (ns ws : List Int) : Nat → List Int
  | 0 => []
  | m + 1 => if idleB ns ws m then restN ns ws m else restN ns ws m ++ [ws.getD m 0]
theorem getD_at {ws : List Int} {m : Nat} (h : m < ws.length) : ws.getD m 0 = ws[m] := by
  rw [List.getD_eq_getElem?_getD, List.getElem?_eq_getElem h]; rfl
theorem rest_low {n : Nat} {ns ws : List Int} (lw : Low n ws) : ∀ m, m ≤ ws.length → Low n (restN ns ws m)
  | 0, _ => fun z h => nomatch h
  | m + 1, h => by
    unfold restN
    split
    · exact rest_low lw m (by omega)
    · have z := lw.at (List.getElem?_eq_getElem (show m < ws.length by omega))
      rw [getD_at (by omega)]
      exact (rest_low lw m (by omega)).app z.1 z.2
theorem rest_len (ns ws : List Int) : ∀ m, (restN ns ws m).length ≤ m
  | 0 => Nat.le_refl 0
  | m + 1 => by
    have := rest_len ns ws m
    unfold restN
    split
    · omega
    · rw [List.length_append]; show _ + 1 ≤ _; omega
theorem rest_all (ns ws : List Int) : ∀ m, m ≤ ws.length → callAll ns (restN ns ws m) = callAll ns (ws.take m)
  | 0, _ => by rw [List.take_zero]; rfl
  | m + 1, h => by
    have ih := rest_all ns ws m (by omega)
    unfold restN
    by_cases q : idleB ns ws m = true
    · rw [if_pos q, ih]
      exact of_decide_eq_true q
    · rw [if_neg q, callAll_snoc, ih, callAll_step ns (show m < ws.length by omega), getD_at (by omega)]
theorem rest_busy (ns ws : List Int) : ∀ m, m ≤ ws.length → ∀ j, j < (restN ns ws m).length → callAll ns ((restN ns ws m).take j) ≠ callAll ns ((restN ns ws m).take (j + 1))
  | 0, _, j, h => by simp [restN] at h
  | m + 1, h, j, hj => by
    have ih := rest_busy ns ws m (by omega)
    unfold restN at hj ⊢
    by_cases q : idleB ns ws m = true
    · rw [if_pos q] at hj ⊢
      exact ih j hj
    · rw [if_neg q] at hj ⊢
      rw [List.length_append] at hj
      have hj' : j < (restN ns ws m).length + 1 := hj
      by_cases hlt : j < (restN ns ws m).length
      · rw [List.take_append_of_le_length (by omega), List.take_append_of_le_length (by omega)]
        exact ih j hlt
      · have e : j = (restN ns ws m).length := by omega
        subst e
        rw [List.take_append_of_le_length (Nat.le_refl _), List.take_length]
        have e2 : (restN ns ws m ++ [ws.getD m 0]).take ((restN ns ws m).length + 1) = restN ns ws m ++ [ws.getD m 0] := List.take_of_length_le (by rw [List.length_append]; exact Nat.le_refl _)
        rw [e2, callAll_snoc, rest_all ns ws m (by omega), getD_at (by omega), ← callAll_step ns (show m < ws.length by omega)]
        intro z
        exact q (decide_eq_true z)
theorem rest_idle (ns ws : List Int) : idleL ns (restN ns ws ws.length) = [] := by
  unfold idleL idleN
  rw [List.filter_eq_nil_iff.mpr]
  · rfl
  · intro j hj
    have := rest_busy ns ws ws.length (Nat.le_refl _) j (List.mem_range.mp hj)
    intro z
    exact this (of_decide_eq_true z)
section
variable {P : Program} {w : World} {K : PySem.W.Frag} {mg : Str → Option Value} {base : Heap}
/-! ### idle_calls -/
abbrev sIdle : Stmt := topS 15
abbrev nIdle : List Str := ["state", "word", "along", "at"]
theorem scIdle : FnScope nIdle ["state", "word"] (defScope sIdle) := ⟨rfl, rfl, rfl, by decide +kernel, rfl, by decide +kernel, by decide +kernel⟩
def spIdle : Sp := fun vs H Q _ => ∃ (a b : Addr) (ns ws : List Int), vs = [.ref a, .ref b] ∧ Sq H a (IL ns) ∧ Sq H b (IL ws) ∧ Low ns.length ns ∧ Low ns.length ws ∧ ws.length ≤ 5000 ∧
  ∀ H' p, Same H H' → H p = none → H' p = some (.lst (IL (idleL ns ws))) → Q (.ref p) H'
theorem ok_idle {f fC : Addr} {fd fdC : FuncData} {k : Nat} (F : Fun K "idle_calls" "idle_calls" sIdle f fd) (B : Bi mg) (C : Cal P w K mg base "states_along" (k + 1) ["state", "word"] spAlong fC fdC) : FnOk P w K mg base CX0 (k + 2) f fd ["state", "word"] spIdle := by
  refine F.ok scIdle (fun vs H Q E h => ?_) (fun cdv A outer s H vs Q E hr h => ?_)
  · obtain ⟨a, b, ns, ws, rfl, _⟩ := h
    rfl
  · obtain ⟨a, b, ns, ws, rfl, hS, hW, lo, lw, lz, q⟩ := h
    refine ⟨_, pss_cons (ps_set (i := 2) scIdle.nd rfl (.inr rfl) (pe_call C.ok hr (by rfl) C.g C.kp C.bd .nil pass0 (pa_cons (pv 0) (pa_cons (pv 1) pa_nil))))
      (pss_one (ps_ret (pe_lc (own := [("at", 3)]) (g := gName 3) (by rfl) scIdle.nd (pi_range1 (by rfl) B.range (pa_cons (pe_callB call_len_seq (by rfl) B.len PySem.boot_len (pa_cons (pv 1) pa_nil)) pa_nil)) (blkOk_by (own := [("at", 3)]) (N := nIdle) (sc := defScope sIdle) (by decide +kernel))
        (fun _ _ _ _ _ => pg_name (i := 3) scIdle.nd rfl (Or.inl rfl)) (fun _ _ _ _ _ => pts_one (pt_cmpR (eqD_K (K := K) rfl hr.units) (pe_ix (ixl_K (K := K) rfl) (pv 2) (pv 3) (fun _ _ => rfl)) (pe_ix (ixl_K (K := K) rfl) (pv 2) (pe_op op_add (pv 3) pe_int) (fun _ _ => rfl)) (nomark _))) (fun _ _ _ _ _ => pv 3)))), ?_⟩
    refine ⟨.ref a, rfl, .ref b, rfl, a, b, ns, ws, rfl, hS, hW, lo, lw, lz, fun H1 p rs s1 np hp al => ?_⟩
    refine ⟨.ref b, rfl, b, _, rfl, (hW.mono s1).s, _, rfl, ?_, ?_, fun D nD => ?_⟩
    · rw [List.length_map]; omega
    · rw [List.length_map]; omega
    · have pD : p ≠ D := ne_of_none hp nD
      have n0 : H D = none := s1.free nD
      have hn : ((IL ws).length : Int).toNat = ws.length := by rw [List.length_map]; rfl
      rw [hn]
      refine lc_range (lo := 0) (n := ws.length) (fun i H3 => Same H1 H3 ∧ H3 D = some (.lst (IL (idleN ns ws i)))) ⟨same_new nD, upd_same⟩ ?_ ?_
      · rintro i H3 hi ⟨s3, hD⟩
        have hl := al.1
        have g1 : rs[i]? = some rs[i] := List.getElem?_eq_getElem (by omega)
        have g2 : rs[i + 1]? = some rs[i + 1] := List.getElem?_eq_getElem (by omega)
        have t1 := s3 _ _ (al.2 i _ g1)
        have t2 := s3 _ _ (al.2 (i + 1) _ g2)
        have hp3 := s3 _ _ hp
        refine ⟨rfl, ?_⟩
        refine ⟨.ref p, rfl, .int (0 + i), rfl, p, _, _, .ref rs[i], rfl, rfl, SqL.of hp3, at_of (j := i) (by omega) (by rw [List.getElem?_map, g1]; rfl), .ref p, rfl, .int (0 + i), rfl, _, 1, rfl, rfl, p, _, _, .ref rs[i + 1], rfl, rfl, SqL.of hp3, at_of (j := i + 1) (by omega) (by rw [List.getElem?_map, g2]; rfl), _, _, .tup (SqT.of t1) (dp_ints _), .tup (SqT.of t2) (dp_ints _), shT _, shT _, _, rfl, ?_⟩
        rw [eqvT]
        have e : decide (callAll ns (ws.take i) = callAll ns (ws.take (i + 1))) = idleB ns ws i := rfl
        rw [e]
        refine ite2 (c := idleB ns ws i = true) (fun hb => ?_) (fun hb => ?_)
        · refine ⟨.int (0 + i), rfl, _, hD, ?_, same_mut s3 nD, ?_⟩
          · rw [List.length_map]
            exact szl (by have := idleN_len ns ws i; omega)
          · rw [upd_same, IL_app, idleN_succ, if_pos hb, Int.zero_add]
        · refine ⟨s3, ?_⟩
          rw [idleN_succ, if_neg hb]; exact hD
      · rintro H3 ⟨s3, hD⟩
        exact q H3 D (s1.trans s3) n0 hD
end
end Lp

namespace Lp
open PySem PySem.Spec PyProof.Rows L2
/-! ### a call whose arguments are all named, in the reverse order -/
def KbR (fd : FuncData) (ps : List Str) : Prop := ∀ (s : Shared) (ws : List Value), ws.length = ps.length → BindsTo s fd ⟨[], ps.reverse.zip ws⟩ (ps.zip ws.reverse)
theorem Fun.kbr {K : PySem.W.Frag} {x qual : Str} {st : Stmt} {f : Addr} {fd : FuncData} {ps : List Str} (F : Fun K x qual st f fd)
    (h : ∀ (kV doc pm : Value) (an : Option Addr) (cdv ct : Value) (ws : List Value), ws.length = ps.length → bindArgs (PySem.W.fnOf x qual (defArgs st) (defBody st) (defScope st) .none kV doc pm an cdv ct) ⟨[], ps.reverse.zip ws⟩ = pure (ps.zip ws.reverse)) : KbR fd ps := by
  obtain ⟨oc, od, kV, doc, pm, an, cdv, ct, osl, rfl, lk, hcd⟩ := F.ex
  exact fun s ws hl => .of_eq (h kV doc pm an cdv ct ws hl)
def tCallR (sp : Sp) (E : XK) (tk : TA) : TE := fun σ H Q => tk σ H fun zs H2 => sp zs.reverse H2 Q E
theorem pe_callR {X : Cx} {CX : CXT} {k : Nat} {f : Addr} {fd : FuncData} {ps : List Str} {sp : Sp} {E : XK} {x : Str} {p pos : Pos} {kws : List Keyword} {tk : TA} (F : FnOk X.prog X.w X.K X.mg X.base CX k f fd ps sp) (hr : Room k X.A) (hg : Gl X x) (hm : X.mg x = some (.ref f)) (hk : PySem.W.keepIn X.K (.ref f) = true) (hb : KbR fd ps) (hx : Passes CX X E)
    (hkw : PK X kws tk) (hall : (backToKw pos (keywordEach kws X.env)).all (·.1.isSome) = true := by rfl) (hks : (backToKw pos (keywordEach kws X.env)).filterMap (·.1) = ps.reverse := by rfl) (hdb : (x == ("__debug__" : Str)) = false := by decide)
    (hpl : ((backTo pos (starEach [] X.env)).any (·.1) || (backToKw pos (keywordEach kws X.env)).any (·.1.isNone)) = false := by rfl) :
    PE X (.Call (.Name x p) [] kws pos) (tCallR sp E tk) := by
  refine ⟨fun pins s σ H Q I h => ?_⟩
  refine wpAny_Call_Name_kw (ld_glob I hg hm ?_ hdb)
  refine PySem.W.callWith_KW0 (h₀ := X.base) I.ok.mod.kin hk hall ?_ hpl
  refine thn (hkw.run pos pins s σ H _ I h) fun ws s2 ⟨zs, H2, I2, rz, q2⟩ => ⟨I2.kIn, ?_⟩
  rw [hks]
  have hl : ws.length = ps.length := by
    rw [← rz.length, ← List.length_reverse]; exact F.len _ _ _ _ q2
  refine wpAny_call (codeAny_mono (F.run X.A X.stack s2 H2 ⟨[], ps.reverse.zip ws⟩ ws.reverse zs.reverse Q E hr I2.env0 (hb s2 ws hl) rz.reverse q2) fun r s' hq => ?_)
  cases r with
  | error e => exact hx pins σ H2 s2 e s' I2 hq
  | ok fl =>
    cases fl with
    | ret u => exact I2.after hq
    | next => exact False.elim hq
    | brk => exact False.elim hq
    | cont => exact False.elim hq
theorem inV_ints (z : Int) : ∀ ns : List Int, inV (.int z) (IL ns) = decide (z ∈ ns)
  | [] => by simp [inV]
  | x :: r => by
    have ih := inV_ints z r
    unfold inV at ih ⊢
    show (eqV (.int x) (.int z) || (IL r).any fun y => eqV y (V.int z)) = _
    rw [ih]
    simp only [eqV]
    by_cases h : x = z
    · subst h; simp
    · have h2 : ¬ z = x := fun e => h e.symm
      simp [h, h2]
theorem flat_ints (ns : List Int) : (IL ns).all flatV = true := by
  rw [List.all_eq_true]
  intro x hx
  obtain ⟨z, _, rfl⟩ := List.mem_map.mp hx
  rfl
end Lp

namespace Lp
open PySem PySem.Spec PyProof.Rows L2
/-! ### promises that hold where no repr is under way -/
structure FnG (P : Program) (w : World) (K : PySem.W.Frag) (mg : Str → Option Value) (base : Heap) (k : Nat) (f : Addr) (fd : FuncData) (ps : List Str) (sp : Sp) : Prop where
  len : ∀ vs H Q E, sp vs H Q E → vs.length = ps.length
  go : ∀ (A : Around) (outer : List Env) (s : Shared) (H : Hp) (args : Args) (us : List Value) (vs : List V) (Q : VK) (E : XK), A.guards = some [] → Room k A → Env0 P w K mg base A outer s H →
    BindsTo s fd args (ps.zip us) → Vals vs us → sp vs H Q E → codeAny (model P w) A (.call (.ref f) args) (CR CX0 outer P w H s Q E) s
section
variable {P : Program} {w : World} {K : PySem.W.Frag} {mg : Str → Option Value} {base : Heap}
theorem okG {x qual : Str} {st : Stmt} {f : Addr} {fd : FuncData} {N ps : List Str} {k : Nat} {sp : Sp} (F : Fun K x qual st f fd) (S : FnScope N ps (defScope st)) (len : ∀ vs H Q E, sp vs H Q E → vs.length = ps.length)
    (body : ∀ (cdv : Value) (A : Around) (outer : List Env) (s : Shared) (H : Hp) (vs : List V) (Q : VK) (E : XK), A.guards = some [] → Room k (A.deeper (envOfC qual (defScope st) s.heap.objs.size f cdv)) → sp vs H Q E →
      ∃ t, PSs (cxOf CX0 P w K mg base N qual (defScope st) f cdv A outer s H E).nox (defBody st) t ∧ t { nx := fun _ H' => Q .non H', rt := Q } (start N vs) H) : FnG P w K mg base (k + 1) f fd ps sp := by
  obtain ⟨oc, od, kV, doc, pm, an, cdv, ct, osl, rfl, look, code⟩ := F.ex
  constructor
  · exact len
  · intro A outer s H args us vs Q E gA room env bind rel want
    have stays : ∀ b o, base.get? b = some o → s.heap.get? b = some o := fun b o e => (env.bs b o e).1
    have inK := env.mod.kin.keeps stays
    obtain ⟨t, hT, hWant⟩ := body cdv A outer s H vs Q E gA (room.deeper _) want
    have places : ∀ y ∈ ps.zip us, (defScope st).names.lookup y.1 = some .local ∨ ((defScope st).names.lookup y.1 = some .cell ∧ ((cellsFrom (s.heap.objs.size + 1) (defScope st).names []).lookup y.1).isSome = true) := by
      rintro ⟨n, v⟩ hy
      exact (S.par n (List.of_mem_zip hy).1).imp id fun q => ⟨q, PySem.W.cellsFrom_some _ _ _ (.inl q)⟩
    refine codeAny_call_function room.depth (inK _ _ look) rfl S.co S.gen rfl (PySem.W.codeRec_of inK code) (bind _ _ _ _ (wpAny_newFunctionEnv_cells S.kind places ?_))
    intro env' e' s1 made
    subst e'
    have I0 : Inv (cxOf CX0 P w K mg base N qual (defScope st) f cdv A outer s H E) [] (start N vs) H s1 := inv_start S room.hd env (len _ _ _ _ want) rel made
    have done : ∀ (σ' : L2.St) (H' : Hp) (v : V) (u : Value) (s' : Shared), Inv (cxOf CX0 P w K mg base N qual (defScope st) f cdv A outer s H E) [] σ' H' s' → RelV v u → Q v H' → CE outer P w H s Q u s' :=
      fun _ H' v _ _ J ru qv => ⟨v, H', J.os, J.bare, J.base, J.hok, ru, qv⟩
    refine ⟨(env.mod.nolimit.keeps stays).keeps made.toInCall.keep, codeAny_func (wpAny_mono ((PSs.nox hT).run [] s1 _ H _ I0 hWant) ?_ fun _ _ z => z)⟩
    intro fl s' ends
    match fl, ends with
    | .ret u, ends =>
      obtain ⟨v, σ', H', J, ru, qv⟩ := ends
      exact done σ' H' v u s' J ru qv
    | .next, ends =>
      obtain ⟨σ', H', J, qv⟩ := ends
      exact done σ' H' .non Value.none s' J rfl qv
    | .brk, ends => exact (ends.elim fun _ z => z.elim fun _ y => y.2).elim
    | .cont, ends => exact (ends.elim fun _ z => z.elim fun _ y => y.2).elim
end
/-- a call of such a def -/
theorem pe_callG {X : Cx} {k : Nat} {f : Addr} {fd : FuncData} {ps : List Str} {sp : Sp} {x : Str} {p pos : Pos} {e : Expr} {es : List Expr} {t : TA} (F : FnG X.prog X.w X.K X.mg X.base k f fd ps sp) (gA : X.A.guards = some []) (hr : Room k X.A) (hg : Gl X x) (hm : X.mg x = some (.ref f)) (hk : PySem.W.keepIn X.K (.ref f) = true) (hb : Binds X.K fd ps [])
    (ha : PA X (e :: es) t) (hdb : (x == ("__debug__" : Str)) = false := by decide) (he : starEach (e :: es) X.env = (false, eval e X.env) :: starEach es X.env := by rfl) (hpl : (backTo pos (starEach es X.env)).any (·.1) = false := by rfl) :
    PE X (.Call (.Name x p) (e :: es) [] pos) (tCall sp [] E0 t) := by
  constructor
  intro pins s σ H Q I h
  refine wpAny_Call_Name_kw (ld_glob I hg hm (PySem.W.callWith_K (h₀ := X.base) I.ok.mod.kin hk (thn (ha.run pos pins s σ H _ I h) ?_) he hpl) hdb)
  rintro us s1 ⟨vs, H1, J, rel, want⟩
  rw [List.append_nil] at want
  refine ⟨J.kIn, ?_⟩
  have hl : (us ++ []).length = ps.length := by rw [List.append_nil, ← rel.length]; exact F.len _ _ _ _ want
  have b := hb s1 us J.kIn hl
  rw [List.append_nil] at b
  refine wpAny_call (codeAny_mono (F.go X.A X.stack s1 H1 ⟨us, []⟩ us vs Q E0 gA hr J.env0 b rel want) fun r s' ends => ?_)
  match r, ends with
  | .ok (.ret u), ends => exact J.after ends
  | .ok .next, ends => exact ends.elim
  | .ok .brk, ends => exact ends.elim
  | .ok .cont, ends => exact ends.elim
  | .error _, ends => exact ends.elim
/-- the law's own call -/
theorem law_callG {P : Program} {w : World} {K : PySem.W.Frag} {mg mb : Str → Option Value} {k : Nat} {fa a : Addr} {fd : FuncData} {x : Str} {sp : Sp} {s₁ : Shared} {vs : List Value} {ns : List Int}
    (KX : K.In s₁.heap) (n1 : s₁.heap.Ns mainGlobals mg) (n2 : s₁.heap.Ns builtinsNs mb) (n3 : ∀ x : Str, x ≠ "__name__" → mb x = bootBuiltins x) (n4 : s₁.heap.NoLimit) (n5 : s₁.gens = #[])
    (n6 : s₁.heap.get? a = some { cls := .type "list", data := .seq vs.toArray }) (n7 : IntsAre vs ns) (n8 : ns.length ≤ sizeLine) (n9 : Room k callerA)
    (F : ∀ base : Heap, K.In base → base.Ns mainGlobals mg → FnG P w K mg base k fa fd [x] sp) (bind : ∀ (s : Shared) (u : Value), BindsTo s fd ⟨[u], []⟩ [(x, u)])
    (want : ∀ H : Hp, SqL K H a (ns.map V.int) → sp [.ref a] H (fun v _ => v = .bl true) fun _ _ _ => False) :
    codeAny (model P w) callerA (.call (.ref fa) ⟨[.ref a], []⟩) (fun r s' => r = .ok (.ret (.bool true)) ∧ OldK s₁.heap s'.heap ∧ s'.os = s₁.os ∧ AllBare s'.gens) s₁ := by
  have vals : Vals (ns.map V.int) vs := vals_of_ints n7
  have main : ∀ H : Hp, SqL K H a (ns.map V.int) → HOk P w H s₁.heap → (∀ b u, H b = some u → b = a ∧ K.lookup a = none ∧ ∃ o xs, u = .frz o (.lst xs)) →
      codeAny (model P w) callerA (.call (.ref fa) ⟨[.ref a], []⟩) (fun r s' => r = .ok (.ret (.bool true)) ∧ OldK s₁.heap s'.heap ∧ s'.os = s₁.os ∧ AllBare s'.gens) s₁ := by
    intro H list good lone
    have shown : ∀ {b : Addr} {o : Obj}, s₁.heap.get? b = some o → (∀ es ep, o.data = .dict es ep → H b = none) → (∃ es ep, o.data = .dict es ep) → (hidT s₁.heap H).get? b = some o := fun e n ⟨es, ep, d⟩ => hidT_get e (n es ep d)
    have dicts : ∀ {b : Addr} {o : Obj}, s₁.heap.get? b = some o → ∀ es ep, o.data = .dict es ep → H b = none := by
      intro b o e es ep d
      cases q : H b with
      | none => rfl
      | some u =>
        have eb := (lone b u q).1
        rw [eb, n6] at e
        cases e
        exact nomatch d
    have ns_ : ∀ {b : Addr} {m : Str → Option Value}, s₁.heap.Ns b m → (hidT s₁.heap H).Ns b m := by
      rintro b m ⟨o, es, ep, e, d, r⟩
      exact ⟨o, es, ep, shown e (dicts e) ⟨es, ep, d⟩, d, r⟩
    have kin : K.In (hidT s₁.heap H) := by
      intro b o e
      refine hidT_get (KX b o e) ?_
      cases q : H b with
      | none => rfl
      | some u =>
        obtain ⟨eb, n, _⟩ := lone b u q
        rw [eb, n] at e
        cases e
    have lim : (hidT s₁.heap H).NoLimit := by
      obtain ⟨mc, h1, h2⟩ := n4
      exact ⟨mc, ns_ h1, h2⟩
    have env : Env0 P w K mg (hidT s₁.heap H) callerA [] s₁ H := by
      refine ⟨rfl, ⟨kin, ns_ n1, ⟨mb, ns_ n2, n3⟩, lim⟩, fun _ _ e => of_hidT e, ?_, trivial, ?_, good, AllBare.of_eq n5⟩
      · rw [hidT_size]; exact Nat.le_refl _
      · intro b hb; exact nomatch hb
    refine codeAny_mono ((F _ kin (ns_ n1)).go callerA [] s₁ H ⟨[.ref a], []⟩ [.ref a] [.ref a] (fun v _ => v = .bl true) (fun _ _ _ => False) rfl n9 env (bind s₁ (.ref a)) (.cons rfl .nil) (want H list)) fun r s' ends => ?_
    match r, ends with
    | .error _, ends => exact ends.elim
    | .ok .next, ends => exact ends.elim
    | .ok .brk, ends => exact ends.elim
    | .ok .cont, ends => exact ends.elim
    | .ok (.ret u), ends =>
      obtain ⟨v, H', e1, e2, un, good', ru, rfl⟩ := ends
      cases ru
      refine ⟨rfl, OldK.of_keep fun b o e => ?_, e1, e2⟩
      cases q : H b with
      | none => exact un.keep b o e q (fun z => nomatch z) (fun z => nomatch z)
      | some u =>
        obtain ⟨_, _, ob, xs, rfl⟩ := lone b u q
        have h1 := (good b _ q).1
        have h2 := (good' b _ (un.frzs b ob _ q)).1
        exact h2.trans (h1.symm.trans e)
  cases hk : K.lookup a with
  | some o =>
    have e := KX a o hk
    rw [n6] at e
    cases e
    refine main (fun _ => none) (Or.inr ⟨_, vs.toArray, _, hk, rfl, rfl, rfl, ?_, ?_⟩) (fun _ _ z => nomatch z) (fun _ _ z => nomatch z)
    · rw [List.size_toArray, n7.length]; exact n8
    · rw [List.toList_toArray]; exact vals
  | none =>
    have at_a : (fun b => if b = a then some (HO.frz { cls := .type "list", data := .seq vs.toArray } (.lst (ns.map V.int))) else none) a = some (HO.frz { cls := .type "list", data := .seq vs.toArray } (.lst (ns.map V.int))) := if_pos rfl
    refine main (fun b => if b = a then some (HO.frz { cls := .type "list", data := .seq vs.toArray } (.lst (ns.map V.int))) else none) (Or.inl (Or.inr ⟨_, at_a⟩)) (fun b u z => ?_) (fun b u z => ?_)
    · by_cases hb : b = a
      · subst hb
        cases at_a.symm.trans z
        refine ⟨n6, ?_, vs, _, vals, n6⟩
        rw [List.length_map]; exact n8
      · exact nomatch (if_neg hb).symm.trans z
    · by_cases hb : b = a
      · subst hb
        cases at_a.symm.trans z
        exact ⟨rfl, hk, _, _, rfl⟩
      · exact nomatch (if_neg hb).symm.trans z
theorem walk_ofG {l : PySem.W.OpenLaw} {n k : Nat} {q : Program} {loose : List Str} {XP : (Str → Option Value) → Heap → Prop} {YP : World → Heap → Prop} {d : DefRec} {K : Params → PySem.W.Frag} {sp : World → Sp} {x : Str}
    (hn : l.most = some n) (hn2 : n ≤ sizeLine) (hdf : d.params.defaults = []) (hr : Room k callerA) (hY : ∀ (w : World) (h : Heap), YP w h → (K w.params).In h)
    (F : ∀ (w : World) (mg : Str → Option Value) (fa : Addr) (h : Heap), (K w.params).In h → h.Ns mainGlobals mg → mg d.name = some (.ref fa) → ∃ fd : FuncData, (∀ (s : Shared) (u : Value), BindsTo s fd ⟨[u], []⟩ [(x, u)]) ∧
        ∀ base : Heap, (K w.params).In base → base.Ns mainGlobals mg → FnG l.prog w (K w.params) mg base k fa fd [x] (sp w))
    (hsp : ∀ (w : World) (H : Hp) (a : Addr) (ns : List Int), ns.length ≤ n → SqL (K w.params) H a (ns.map V.int) → sp w [.ref a] H (fun v _ => v = .bl true) fun _ _ _ => False) :
    PySem.W.WalkO q loose XP YP l.row.toRowW d [] (fun f vs => PySem.call f vs) := by
  refine Att.attach_call hn hdf ?_
  intro w s₀ s₁ mg mb fa o pm cd doc a vs ns G Y ho hd hcd hmg hobj hints hlen hg
  obtain ⟨fd, hb, hF⟩ := F w mg fa _ (hY w _ Y) G.T.g hmg
  exact law_callG (hY w _ Y) G.T.g G.T.b G.T.builtins G.T.nolimit hg hobj hints (Nat.le_trans hlen hn2) hr hF hb (fun H hS => hsp w H a ns hlen hS)
/-! ### repr of a tuple or a list of ints -/
def rRepr (K : PySem.W.Frag) : List V → Hp → VK → Prop := fun xs H Q => ∃ (p : Addr) (d : PyData), xs = [.ref p] ∧ Dp K H (.ref p) d ∧ d.showable = true ∧ d.hasDict = false ∧ d.depth ≤ 100 ∧ d.shown.length ≤ sizeLine ∧ Q (.str d.shown) H
theorem call_repr {X : Cx} (gA : X.A.guards = some []) (hu : X.A.units + 101 < cLine) : CallR X (.builtin "repr") (rRepr X.K) := by
  intro pins s σ H xs us Q I r h
  obtain ⟨p, d, rfl, hd, h1, h2, h3, h4, q⟩ := h
  obtain ⟨u, rfl, ru⟩ := vals1 r
  cases ru
  obtain ⟨as, rd⟩ := Dp.reads I d _ _ hd rfl
  refine repr_of_reads' rd h1 (fun z => by rw [h2] at z; cases z) gA (by omega) (fun _ _ e => e) (fun h' u tk keep => ?_) h4
  exact ⟨.str _, H, I.kept keep, ⟨_, rfl⟩, q⟩
end Lp

namespace Lp
open PySem PySem.Spec PyProof.Rows L2
theorem deeper_calm {A : Around} {env : Env} (h : A.guards = some []) : (A.deeper env).guards = some [] := h
def Small (ns : List Int) : Prop := ∀ z ∈ ns, z.natAbs < 1000000
theorem Low.small {n : Nat} {ns : List Int} (h : Low n ns) (hn : n ≤ 1000000) : Small ns := fun z hz => by
  have := h z hz
  omega
theorem small_log {z : Int} (h : z.natAbs < 1000000) : z.natAbs.log2 < 20 := by
  by_cases h0 : z.natAbs = 0
  · rw [h0]; decide
  · exact (Nat.log2_lt h0).mpr (Nat.lt_trans h (by decide))
theorem ints_facts : ∀ ns : List Int, Small ns → PyData.showableAll (dI ns) = true ∧ PyData.hasDictAll (dI ns) = false ∧ PyData.weightAll (dI ns) ≤ 30 * ns.length ∧ PyData.intsShortAll 13 (dI ns) = true
  | [], _ => by simp [PyData.showableAll, PyData.hasDictAll, PyData.weightAll, PyData.intsShortAll]
  | z :: r, h => by
    obtain ⟨h1, h2, h3, h4⟩ := ints_facts r fun y hy => h y (List.mem_cons_of_mem _ hy)
    have hz := h z List.mem_cons_self
    have lg := small_log hz
    refine ⟨?_, ?_, ?_, ?_⟩
    · simp only [List.map_cons, PyData.showableAll, PyData.showable, h1, Bool.and_true, decide_eq_true_eq]
      omega
    · simp only [List.map_cons, PyData.hasDictAll, PyData.hasDict, h2, Bool.or_false]
    · simp only [List.map_cons, PyData.weightAll, PyData.weight, List.length_cons]
      have h3' : PyData.weightAll (List.map PyData.int r) ≤ 30 * r.length := h3
      split <;> omega
    · simp only [List.map_cons, PyData.intsShortAll, PyData.intsShort, h4, Bool.and_true, decide_eq_true_eq]
      have e : (PyData.shown (.int z)) = Str.ofString (toString z) := by simp only [PyData.shown]
      rw [e, PySem.ofString_length]
      have := int_text_length_le10 (a := z) (k := 6) (by decide) hz
      omega
theorem shownT {ns : List Int} (h : Small ns) (hl : ns.length ≤ 10000) : (PyData.shown (.tuple (dI ns))).length ≤ sizeLine := by
  obtain ⟨h1, h2, h3, h4⟩ := ints_facts ns h
  refine Nat.le_trans (shown_le13 (d := .tuple (dI ns)) ?_ ?_) (by decide)
  · unfold PyData.layable0
    simp only [PyData.canLay0, PyData.depth, PyData.weight, lay_ints, depth_ints, Bool.true_and, Bool.and_eq_true, decide_eq_true_eq]
    have h5 : PyData.weightAll (dI ns) ≤ 1048576 := by omega
    exact ⟨by decide, decide_eq_true h5⟩
  · simp only [PyData.intsShort]; exact h4
theorem shownL {ns : List Int} (h : Small ns) (hl : ns.length ≤ 10000) : (PyData.shown (.list (dI ns))).length ≤ sizeLine := by
  obtain ⟨h1, h2, h3, h4⟩ := ints_facts ns h
  refine Nat.le_trans (shown_le13 (d := .list (dI ns)) ?_ ?_) (by decide)
  · unfold PyData.layable0
    simp only [PyData.canLay0, PyData.depth, PyData.weight, lay_ints, depth_ints, Bool.true_and, Bool.and_eq_true, decide_eq_true_eq]
    have h5 : PyData.weightAll (dI ns) ≤ 1048576 := by omega
    exact ⟨by decide, decide_eq_true h5⟩
  · simp only [PyData.intsShort]; exact h4
theorem factsT {ns : List Int} (h : Small ns) (hl : ns.length ≤ 10000) : (PyData.tuple (dI ns)).showable = true ∧ (PyData.tuple (dI ns)).hasDict = false ∧ (PyData.tuple (dI ns)).depth ≤ 100 ∧ (PyData.tuple (dI ns)).shown.length ≤ sizeLine := by
  obtain ⟨h1, h2, h3, h4⟩ := ints_facts ns h
  refine ⟨?_, ?_, ?_, shownT h hl⟩
  · simp only [PyData.showable]; exact h1
  · simp only [PyData.hasDict]; exact h2
  · simp only [PyData.depth, depth_ints]; decide
theorem factsL {ns : List Int} (h : Small ns) (hl : ns.length ≤ 10000) : (PyData.list (dI ns)).showable = true ∧ (PyData.list (dI ns)).hasDict = false ∧ (PyData.list (dI ns)).depth ≤ 100 ∧ (PyData.list (dI ns)).shown.length ≤ sizeLine := by
  obtain ⟨h1, h2, h3, h4⟩ := ints_facts ns h
  refine ⟨?_, ?_, ?_, shownL h hl⟩
  · simp only [PyData.showable]; exact h1
  · simp only [PyData.hasDict]; exact h2
  · simp only [PyData.depth, depth_ints]; decide
end Lp

namespace Lp
open PySem PySem.Spec PyProof.Rows L2
/-! ### slices and sums of tuples -/
theorem cutV_whole {xs : List V} {lo hi : Option Int} (h : HT.sIx xs.length 0 lo = 0 ∧ HT.sIx xs.length xs.length hi = xs.length) : cutV xs lo hi = xs := by
  unfold cutV
  rw [h.1, h.2, List.drop_zero, Nat.sub_zero, List.take_length]
theorem slA_of {K : PySem.W.Frag} {H : Hp} {a : Addr} {xs : List V} {lo hi : Option Int} {Q : VK} (ha : H a = some (.tup xs)) (q : ∀ p H', Same H H' → H' p = some (.tup (cutV xs lo hi)) → Q (.ref p) H') : rSlA K (.ref a) lo hi H Q :=
  ⟨a, xs, rfl, SqT.of ha, fun h => q a H (Same.refl H) (by rw [cutV_whole h]; exact ha), fun _ p np => q p _ (same_new np) upd_same⟩
theorem slA_np {K : PySem.W.Frag} {σ : L2.St} {H : Hp} {a : Addr} {xs : List V} {lo : Option Int} {Q : VK} (ha : H a = some (.tup xs)) (q : ∀ p H', Same H H' → H' p = some (.tup (cutV xs lo none)) → Q (.ref p) H') : tNoPart σ H fun u H3 => rSlA K (.ref a) lo u H3 Q :=
  slA_of (hi := none) ha q
theorem catA_of {K : PySem.W.Frag} {H : Hp} {a b : Addr} {xs ys : List V} {Q : VK} (ha : H a = some (.tup xs)) (hb : H b = some (.tup ys)) (hz : xs.length + ys.length ≤ sizeLine) (q : ∀ p H', Same H H' → H' p = some (.tup (xs ++ ys)) → Q (.ref p) H') : rCatA K (.ref a) (.ref b) H Q :=
  ⟨a, b, xs, ys, rfl, rfl, SqT.of ha, SqT.of hb, hz, fun e => q b H (Same.refl H) (by rw [e, List.nil_append]; exact hb), fun _ e => q a H (Same.refl H) (by rw [e, List.append_nil]; exact ha), fun _ _ p np => q p _ (same_new np) upd_same⟩
theorem due_eq (ns : List Int) (i : Nat) (z : Int) (h : i < ns.length) : (cutV (IL ns) none (some (i : Int)) ++ [V.int z]) ++ cutV (IL ns) (some ((i : Int) + 1)) none = IL (ns.set i z) := by
  rw [cut_IL, cut_IL, HT.sIx_none, HT.sIx_none, sIx_int _ _ _ (by omega), sIx_int _ _ _ (by omega)]
  rw [List.set_eq_take_append_cons_drop, if_pos h]
  show (List.map V.int _ ++ [V.int z]) ++ List.map V.int _ = List.map V.int _
  rw [List.map_append, List.map_cons, List.append_assoc]
  have e1 : min (i : Int).toNat ns.length - 0 = i := by omega
  have e2 : min ((i : Int) + 1).toNat ns.length = i + 1 := by omega
  rw [e1, e2, List.drop_zero, List.take_of_length_le (l := ns.drop (i + 1)) (by rw [List.length_drop]; omega)]
  rfl
theorem cutV_len (ns : List Int) (lo hi : Option Int) : (cutV (IL ns) lo hi).length ≤ ns.length := by
  have := cutV_length (IL ns) lo hi
  rw [List.length_map] at this; exact this
end Lp

namespace Lp
open PySem PySem.Spec PyProof.Rows L2
/-! ### what the top has written -/
def Dx (K : PySem.W.Frag) (x : Str) (st : Stmt) : Prop := ∃ (f : Addr) (oc : Value) (od an : Option Addr) (sl : Array (Option Value)) (kV dc pm cd ct : Value), PySem.W.nsIn K mainGlobals x = some (some (.ref f)) ∧
  K.lookup f = some ⟨oc, od, .func (PySem.W.fnOf x x (defArgs st) (defBody st) (defScope st) .none kV dc pm an cd ct), sl⟩ ∧ PySem.W.codeIn K cd x = true ∧ PySem.W.keepIn K (.ref f) = true
theorem dx_mk {K : PySem.W.Frag} {x : Str} {st : Stmt} {f : Addr} {oc : Value} {od an : Option Addr} {sl : Array (Option Value)} {kV dc pm cd ct : Value} (a : PySem.W.nsIn K mainGlobals x = some (some (.ref f)))
    (l : K.lookup f = some ⟨oc, od, .func (PySem.W.fnOf x x (defArgs st) (defBody st) (defScope st) .none kV dc pm an cd ct), sl⟩) (c : PySem.W.codeIn K cd x = true) (k : PySem.W.keepIn K (.ref f) = true) : Dx K x st := ⟨f, oc, od, an, sl, kV, dc, pm, cd, ct, a, l, c, k⟩
theorem Dx.fn {K : PySem.W.Frag} {x : Str} {st : Stmt} {h : Heap} {mg : Str → Option Value} (d : Dx K x st) (X : K.In h) (G : h.Ns mainGlobals mg) : ∃ f fd, Fun K x x st f fd ∧ mg x = some (.ref f) := by
  obtain ⟨f, oc, od, an, sl, kV, dc, pm, cd, ct, a, l, c, k⟩ := d
  exact ⟨f, _, fun_mk l c k, PySem.W.mg_of X G a⟩
structure Zs (K : PySem.W.Frag) : Prop where
  len : PySem.W.nsIn K mainGlobals "len" = some none
  list : PySem.W.nsIn K mainGlobals "list" = some none
  tuple : PySem.W.nsIn K mainGlobals "tuple" = some none
  range : PySem.W.nsIn K mainGlobals "range" = some none
  enumerate : PySem.W.nsIn K mainGlobals "enumerate" = some none
  all : PySem.W.nsIn K mainGlobals "all" = some none
  isinstance : PySem.W.nsIn K mainGlobals "isinstance" = some none
  zip : PySem.W.nsIn K mainGlobals "zip" = some none
  abs : PySem.W.nsIn K mainGlobals "abs" = some none
  int : PySem.W.nsIn K mainGlobals "int" = some none
  str : PySem.W.nsIn K mainGlobals "str" = some none
  bool : PySem.W.nsIn K mainGlobals "bool" = some none
  repr : PySem.W.nsIn K mainGlobals "repr" = some none
  set : PySem.W.nsIn K mainGlobals "set" = some none
  min : PySem.W.nsIn K mainGlobals "min" = some none
  max : PySem.W.nsIn K mainGlobals "max" = some none
  sorted : PySem.W.nsIn K mainGlobals "sorted" = some none
  sum : PySem.W.nsIn K mainGlobals "sum" = some none
theorem Zs.bi {K : PySem.W.Frag} {h : Heap} {mg : Str → Option Value} (z : Zs K) (X : K.In h) (G : h.Ns mainGlobals mg) : Bi mg := by
  constructor
  · exact PySem.W.mg_none_of X G z.len
  · exact PySem.W.mg_none_of X G z.list
  · exact PySem.W.mg_none_of X G z.tuple
  · exact PySem.W.mg_none_of X G z.range
  · exact PySem.W.mg_none_of X G z.enumerate
  · exact PySem.W.mg_none_of X G z.all
  · exact PySem.W.mg_none_of X G z.isinstance
  · exact PySem.W.mg_none_of X G z.zip
  · exact PySem.W.mg_none_of X G z.abs
  · exact PySem.W.mg_none_of X G z.int
  · exact PySem.W.mg_none_of X G z.str
  · exact PySem.W.mg_none_of X G z.bool
  · exact PySem.W.mg_none_of X G z.repr
  · exact PySem.W.mg_none_of X G z.set
  · exact PySem.W.mg_none_of X G z.min
  · exact PySem.W.mg_none_of X G z.max
  · exact PySem.W.mg_none_of X G z.sorted
  · exact PySem.W.mg_none_of X G z.sum
abbrev FnT (x : Str) (st : Stmt) (kV doc pm : Value) (an : Option Addr) (cdv ct : Value) : FuncData := PySem.W.fnOf x x (defArgs st) (defBody st) (defScope st) .none kV doc pm an cdv ct
section
variable {K : PySem.W.Frag} {x : Str} {st : Stmt} {f : Addr} {fd : FuncData} {p p' p'' : Str} (F : Fun K x x st f fd)
include F
theorem b1 (h : ∀ kV doc pm an cdv ct u, bindArgs (FnT x st kV doc pm an cdv ct) ⟨[u], []⟩ = pure [(p, u)]) : Binds K fd [p] [] :=
  F.binds fun kV doc pm an cdv ct us hl => match us, hl with | [u], _ => h kV doc pm an cdv ct u
theorem b2 (h : ∀ kV doc pm an cdv ct u v, bindArgs (FnT x st kV doc pm an cdv ct) ⟨[u, v], []⟩ = pure [(p, u), (p', v)]) : Binds K fd [p, p'] [] :=
  F.binds fun kV doc pm an cdv ct us hl => match us, hl with | [u, v], _ => h kV doc pm an cdv ct u v
theorem b3 (h : ∀ kV doc pm an cdv ct u v t, bindArgs (FnT x st kV doc pm an cdv ct) ⟨[u, v, t], []⟩ = pure [(p, u), (p', v), (p'', t)]) : Binds K fd [p, p', p''] [] :=
  F.binds fun kV doc pm an cdv ct us hl => match us, hl with | [u, v, t], _ => h kV doc pm an cdv ct u v t
theorem r1 (h : ∀ kV doc pm an cdv ct u, bindArgs (FnT x st kV doc pm an cdv ct) ⟨[], [(p, u)]⟩ = pure [(p, u)]) : KbR fd [p] :=
  Fun.kbr F fun kV doc pm an cdv ct us hl => match us, hl with | [u], _ => h kV doc pm an cdv ct u
theorem r2 (h : ∀ kV doc pm an cdv ct u v, bindArgs (FnT x st kV doc pm an cdv ct) ⟨[], [(p', u), (p, v)]⟩ = pure [(p, v), (p', u)]) : KbR fd [p, p'] :=
  Fun.kbr F fun kV doc pm an cdv ct us hl => match us, hl with | [u, v], _ => h kV doc pm an cdv ct u v
theorem r3 (h : ∀ kV doc pm an cdv ct u v t, bindArgs (FnT x st kV doc pm an cdv ct) ⟨[], [(p'', u), (p', v), (p, t)]⟩ = pure [(p, t), (p', v), (p'', u)]) : KbR fd [p, p', p''] :=
  Fun.kbr F fun kV doc pm an cdv ct us hl => match us, hl with | [u, v, t], _ => h kV doc pm an cdv ct u v t
end
structure CalG (P : Program) (w : World) (K : PySem.W.Frag) (mg : Str → Option Value) (base : Heap) (x : Str) (k : Nat) (ps : List Str) (sp : Sp) (f : Addr) (fd : FuncData) : Prop where
  ok : FnG P w K mg base k f fd ps sp
  g : mg x = some (.ref f)
  kp : PySem.W.keepIn K (.ref f) = true
  bd : Binds K fd ps []
theorem Cal.up {P : Program} {w : World} {K : PySem.W.Frag} {mg : Str → Option Value} {base : Heap} {x : Str} {j k : Nat} {ps : List Str} {sp : Sp} {f : Addr} {fd : FuncData} (c : Cal P w K mg base x j ps sp f fd) (h : j ≤ k) : Cal P w K mg base x k ps sp f fd := ⟨c.ok.mono h, c.g, c.kp, c.bd⟩
end Lp


namespace Lp
open PySem PySem.Spec PyProof.Rows L2
/-! ### following pointers -/
def itr (ns : List Int) (p : Int) : Nat → Int
  | 0 => p
  | k + 1 => gt ns (itr ns p k)
theorem itr_succ (ns : List Int) (p : Int) : ∀ k, itr ns p (k + 1) = itr ns (gt ns p) k
  | 0 => rfl
  | k + 1 => by
    show gt ns (itr ns p (k + 1)) = gt ns (itr ns (gt ns p) k)
    rw [itr_succ ns p k]
theorem itr_low {ns : List Int} (lo : Low ns.length ns) {p : Int} (h0 : 0 ≤ p) (h1 : p < (ns.length : Int)) : ∀ k, 0 ≤ itr ns p k ∧ itr ns p k < (ns.length : Int)
  | 0 => ⟨h0, h1⟩
  | k + 1 => by
    have ih := itr_low lo h0 h1 k
    exact gt_low lo ih.1 ih.2
def itrs (ns : List Int) (p : Int) (m : Nat) : List Int := (List.range m).map (itr ns p)
theorem itrs_len (ns : List Int) (p : Int) (m : Nat) : (itrs ns p m).length = m := by unfold itrs; rw [List.length_map, List.length_range]
theorem itrs_succ (ns : List Int) (p : Int) (m : Nat) : itrs ns p (m + 1) = itrs ns p m ++ [itr ns p m] := by
  unfold itrs; rw [List.range_succ, List.map_append]; rfl
theorem itrs_get {ns : List Int} {p : Int} {m i : Nat} (h : i < m) : (itrs ns p m)[i]? = some (itr ns p i) := by
  unfold itrs
  rw [List.getElem?_map, List.getElem?_range h]; rfl
theorem itrs_mem {ns : List Int} {p z : Int} {m : Nat} : z ∈ itrs ns p m ↔ ∃ i, i < m ∧ itr ns p i = z := by
  unfold itrs
  rw [List.mem_map]
  constructor
  · rintro ⟨i, hi, e⟩; exact ⟨i, List.mem_range.mp hi, e⟩
  · rintro ⟨i, hi, e⟩; exact ⟨i, List.mem_range.mpr hi, e⟩
/-- rs: the people met from p on, each once -/
def Route (ns : List Int) (p : Int) (rs : List Int) : Prop := ∃ L, rs = itrs ns p L ∧ rs.Nodup ∧ itr ns p L ∈ rs
theorem itrs_apart {ns : List Int} {p : Int} {m i j : Nat} (nd : (itrs ns p m).Nodup) (hi : i < m) (hj : j < m) (e : itr ns p i = itr ns p j) : i = j := by
  have h1 := itrs_get (ns := ns) (p := p) hi
  have h2 := itrs_get (ns := ns) (p := p) hj
  rw [e] at h1
  exact nd_ix nd h1 h2
theorem Route.eq {ns : List Int} {p : Int} {rs rs' : List Int} (a : Route ns p rs) (b : Route ns p rs') : rs = rs' := by
  obtain ⟨L, rfl, n1, m1⟩ := a
  obtain ⟨M, rfl, n2, m2⟩ := b
  obtain ⟨i, hi, ei⟩ := itrs_mem.mp m1
  obtain ⟨j, hj, ej⟩ := itrs_mem.mp m2
  rcases Nat.lt_trichotomy L M with h | h | h
  · exact absurd (itrs_apart n2 (show i < M by omega) h ei) (by omega)
  · rw [h]
  · exact absurd (itrs_apart n1 (show j < L by omega) h ej) (by omega)
theorem Nodup.snoc {l : List Int} {z : Int} (h : l.Nodup) (n : z ∉ l) : (l ++ [z]).Nodup := by
  rw [List.nodup_append]
  refine ⟨h, List.nodup_cons.mpr ⟨List.not_mem_nil, List.nodup_nil⟩, fun a ha b hb => ?_⟩
  rw [List.mem_singleton] at hb
  subst hb
  exact fun e => n (e ▸ ha)
theorem low_len : ∀ (n : Nat) (l : List Int), l.Nodup → Low n l → l.length ≤ n
  | 0, l, _, h => by
    cases l with
    | nil => exact Nat.le_refl 0
    | cons x r => have := h x List.mem_cons_self; omega
  | n + 1, l, nd, h => by
    have h2 := low_len n (l.filter (fun z => decide (z ≠ (n : Int)))) (nd.filter _) fun z hz => by
      have q := List.mem_filter.mp hz
      have := h z q.1
      have := of_decide_eq_true q.2
      omega
    have h3 : l.length ≤ (l.filter (fun z => decide (z ≠ (n : Int)))).length + 1 := by
      clear h h2
      induction l with
      | nil => simp
      | cons x r ih =>
        have nd' := List.nodup_cons.mp nd
        by_cases hx : x = (n : Int)
        · have e : r.filter (fun z => decide (z ≠ (n : Int))) = r := List.filter_eq_self.mpr fun z hz => decide_eq_true fun e => nd'.1 (by rw [hx, ← e]; exact hz)
          rw [List.filter_cons_of_neg (by simp [hx]), e]; exact Nat.le_refl _
        · rw [List.filter_cons_of_pos (by simp [hx]), List.length_cons, List.length_cons]
          have := ih nd'.2
          omega
    omega
/-- behind the first return the pointers go round -/
theorem itr_round {ns : List Int} {p : Int} {b d : Nat} (h : itr ns p (b + d) = itr ns p b) : ∀ t, itr ns p (b + d + t) = itr ns p (b + t)
  | 0 => h
  | t + 1 => by
    show gt ns (itr ns p (b + d + t)) = gt ns (itr ns p (b + t))
    rw [itr_round h t]
theorem itr_mod {ns : List Int} {p : Int} {b d : Nat} (hd : 0 < d) (h : itr ns p (b + d) = itr ns p b) (t : Nat) : itr ns p (b + t) = itr ns p (b + t % d) := by
  induction t using Nat.strongRecOn with
  | ind t ih =>
    by_cases ht : t < d
    · rw [Nat.mod_eq_of_lt ht]
    · have e : t = d + (t - d) := by omega
      have := ih (t - d) (by omega)
      rw [e, ← Nat.add_assoc, itr_round h, this, Nat.add_mod_left]
theorem itrs_flat (ns : List Int) (p : Int) (m : Nat) : (IL (itrs ns p m)).all flatV = true := flat_ints _
theorem eqV_int (a b : Int) : eqV (.int a) (.int b) = decide (a = b) := by
  simp only [eqV]
  by_cases h : a = b
  · subst h; simp
  · simp [h]
section
variable {P : Program} {w : World} {K : PySem.W.Frag} {mg : Str → Option Value} {base : Heap}
/-! ### route_from -/
abbrev sRoute : Stmt := topS 4
theorem scRoute : FnScope ["pointers", "person", "route", "seen", "at"] ["pointers", "person"] (defScope sRoute) := ⟨rfl, rfl, rfl, by decide +kernel, rfl, by decide +kernel, by decide +kernel⟩
def spRoute : Sp := fun vs H Q _ => ∃ (a : Addr) (p : Int) (ns : List Int), vs = [.ref a, .int p] ∧ Sq H a (IL ns) ∧ Low ns.length ns ∧ ns.length ≤ 1000 ∧ 0 ≤ p ∧ p < (ns.length : Int) ∧
  ∀ H' r rs, Same H H' → H r = none → H' r = some (.lst (IL rs)) → Route ns p rs → rs.length ≤ ns.length → Q (.ref r) H'
theorem ok_route {f : Addr} {fd : FuncData} {k : Nat} (F : Fun K "route_from" "route_from" sRoute f fd) (B : Bi mg) : FnOk P w K mg base CX0 (k + 1) f fd ["pointers", "person"] spRoute := by
  refine F.ok scRoute (fun vs H Q E h => ?_) (fun cdv A outer s H vs Q E hr h => ?_)
  · obtain ⟨a, p, ns, rfl, _⟩ := h
    rfl
  · obtain ⟨a, p, ns, rfl, hS, lo, ln, p0, p1, q⟩ := h
    refine ⟨_, pss_cons (ps_set (i := 2) scRoute.nd rfl (.inl rfl) (pe_lst pa_nil))
      (pss_cons (ps_set (i := 3) scRoute.nd rfl (.inl rfl) (pe_callTy0 cr_set0 (by rfl) B.set (by decide +kernel)))
      (pss_cons (ps_set (i := 4) scRoute.nd rfl (.inl rfl) (pv 1))
      (pss_cons (ps_while PassesOwn.never (PW.pt (pw_and (pt_cmpR op_notN (pv 4) pe_non (nomark _)) (pw_and1 (pt_cmpR or_snotin (pv 4) (pv 3) (by rfl)))))
        (pss_cons (ps_expr (pe_sadd (pv 3) (pa_cons (pv 4) pa_nil)))
        (pss_cons (ps_expr (pe_bm PySem.F.plainAttrs_list PySem.F.slot_list_append PySem.F.type_list_append mt_append (pv 2) (pa_cons (pv 4) pa_nil)))
        (pss_one (ps_set (i := 4) scRoute.nd rfl (.inl rfl) (pe_ix ix_seq (pv 0) (pv 4) (fun _ _ => rfl)))))))
      (pss_one (ps_ret (pv 2)))))), ?_⟩
    refine ⟨Nat.zero_le _, fun r nr => ⟨rfl, fun e ne => ⟨.int p, rfl, ?_⟩⟩⟩
    have n0 : H e = none := (same_new nr).free ne
    have re : r ≠ e := fun z => by
      rw [← z, upd_same] at ne
      cases ne
    refine ⟨fun m σ H3 => ∃ L S c, σ = [some (.ref a), some (.int p), some (.ref r), some (.ref e), some (.int (itr ns p L))] ∧ Same H H3 ∧ H3 r = some (.lst (IL (itrs ns p L))) ∧ H3 e = some (SetO w e S c) ∧ c ≤ L ∧ (∀ z, S z = decide (z ∈ itrs ns p L)) ∧ (itrs ns p L).Nodup ∧ m + L = ns.length, ⟨ns.length, 0, fun _ => false, 0, rfl, (same_new nr).trans (same_new ne), ?_, upd_same, Nat.le_refl 0, fun z => rfl, List.nodup_nil, rfl⟩, ?_⟩
    · rw [upd_ne re, upd_same]; rfl
    · rintro m σ H3 ⟨L, S, c, rfl, sm, hr3, he, hc, hS3, nd, em⟩
      have il := itr_low lo p0 p1 L
      refine ⟨.int (itr ns p L), rfl, rfl, _, rfl, ?_⟩
      show (if (!decide (V.int (itr ns p L) = V.non)) = true then _ else _)
      rw [if_pos (show (!decide (V.int (itr ns p L) = V.non)) = true by rw [decide_eq_false (fun z => nomatch z)]; rfl)]
      refine ⟨.int (itr ns p L), rfl, .ref e, rfl, _, e, S, c, rfl, rfl, he, _, rfl, ?_⟩
      rw [hS3]
      refine ite2 (fun hb => ?_) (fun hb => ?_)
      · have nin : itr ns p L ∉ itrs ns p L := fun z => by
          rw [decide_eq_true z] at hb; cases hb
        have nd2 : (itrs ns p (L + 1)).Nodup := by rw [itrs_succ]; exact Nodup.snoc nd nin
        have lt : L + 1 ≤ ns.length := by
          have := low_len ns.length _ nd2 fun z hz => by
            obtain ⟨i, _, ei⟩ := itrs_mem.mp hz
            have := itr_low lo p0 p1 i
            omega
          rw [itrs_len] at this; exact this
        refine ⟨fun σ' H' => ∃ m', m' < m ∧ ∃ L S c, σ' = [some (.ref a), some (.int p), some (.ref r), some (.ref e), some (.int (itr ns p L))] ∧ Same H H' ∧ H' r = some (.lst (IL (itrs ns p L))) ∧ H' e = some (SetO w e S c) ∧ c ≤ L ∧ (∀ z, S z = decide (z ∈ itrs ns p L)) ∧ (itrs ns p L).Nodup ∧ m' + L = ns.length, fun σ' H' h => h, ?_⟩
        refine ⟨.ref e, rfl, ⟨e, S, c, rfl, he⟩, .int (itr ns p L), rfl, e, _, S, c, rfl, rfl, he, (by show c + 1 < 4096; omega), ?_⟩
        have hr4 : (upd H3 e (SetO w e (fun j => S j || decide (j = itr ns p L)) (if S (itr ns p L) = true then c else c + 1))) r = some (.lst (IL (itrs ns p L))) := by rw [upd_ne re]; exact hr3
        refine ⟨.ref r, rfl, .inl ⟨rfl, _, SqL.of hr4⟩, .int (itr ns p L), rfl, r, _, _, rfl, rfl, hr4, ?_, ?_⟩
        · rw [List.length_map, itrs_len]; exact szl (by omega)
        · have s5 : Same H (upd (upd H3 e (SetO w e (fun j => S j || decide (j = itr ns p L)) (if S (itr ns p L) = true then c else c + 1))) r (.lst (IL (itrs ns p L) ++ [.int (itr ns p L)]))) := same_mut (same_mut sm n0) nr
          have fin : ∃ m', m' < m ∧ ∃ L' S' c', [some (V.ref a), some (.int p), some (.ref r), some (.ref e), some (.int (gt ns (itr ns p L)))] = [some (.ref a), some (.int p), some (.ref r), some (.ref e), some (.int (itr ns p L'))] ∧ Same H (upd (upd H3 e (SetO w e (fun j => S j || decide (j = itr ns p L)) (if S (itr ns p L) = true then c else c + 1))) r (.lst (IL (itrs ns p L) ++ [.int (itr ns p L)]))) ∧ (upd (upd H3 e (SetO w e (fun j => S j || decide (j = itr ns p L)) (if S (itr ns p L) = true then c else c + 1))) r (.lst (IL (itrs ns p L) ++ [.int (itr ns p L)]))) r = some (.lst (IL (itrs ns p L'))) ∧ (upd (upd H3 e (SetO w e (fun j => S j || decide (j = itr ns p L)) (if S (itr ns p L) = true then c else c + 1))) r (.lst (IL (itrs ns p L) ++ [.int (itr ns p L)]))) e = some (SetO w e S' c') ∧ c' ≤ L' ∧ (∀ z, S' z = decide (z ∈ itrs ns p L')) ∧ (itrs ns p L').Nodup ∧ m' + L' = ns.length := by
            refine ⟨m - 1, by omega, L + 1, (fun j => S j || decide (j = itr ns p L)), (if S (itr ns p L) = true then c else c + 1), rfl, s5, ?_, ?_, ?_, ?_, nd2, by omega⟩
            · rw [upd_same, IL_app, itrs_succ]
            · rw [upd_ne (Ne.symm re), upd_same]
            · split <;> omega
            · intro z
              show (S z || decide (z = itr ns p L)) = _
              rw [hS3, itrs_succ]
              by_cases h1 : z ∈ itrs ns p L
              · rw [decide_eq_true h1, decide_eq_true (List.mem_append_left _ h1)]; rfl
              · by_cases h2 : z = itr ns p L
                · rw [decide_eq_true h2, Bool.or_true, decide_eq_true (List.mem_append_right _ (List.mem_singleton.mpr h2))]
                · rw [decide_eq_false h1, decide_eq_false h2, decide_eq_false fun q => (List.mem_append.mp q).elim h1 fun q2 => h2 (List.mem_singleton.mp q2)]; rfl
          have ga := gt_at (ns := ns) il.1 il.2
          rcases hS with hS | hS
          · exact ⟨.ref a, rfl, .int (itr ns p L), rfl, .inl ⟨a, _, _, _, rfl, rfl, SqL.of (s5 _ _ hS), ga, fin⟩⟩
          · exact ⟨.ref a, rfl, .int (itr ns p L), rfl, .inr (.inl ⟨a, _, _, _, rfl, rfl, SqT.of (s5 _ _ hS), ga, fin⟩)⟩
      · have hin : itr ns p L ∈ itrs ns p L := by
          by_cases z : itr ns p L ∈ itrs ns p L
          · exact z
          · rw [decide_eq_false z] at hb; exact absurd rfl hb
        exact ⟨.ref r, rfl, q H3 r _ sm nr hr3 ⟨L, rfl, nd, hin⟩ (by rw [itrs_len]; omega)⟩
/-! ### ring_begin -/
abbrev sBegin : Stmt := topS 6
theorem scBegin : FnScope ["state", "route"] ["state", "route"] (defScope sBegin) := ⟨rfl, rfl, rfl, by decide +kernel, rfl, by decide +kernel, by decide +kernel⟩
def spBegin : Sp := fun vs H Q _ => ∃ (a r : Addr) (ns : List Int) (p : Int) (L : Nat), vs = [.ref a, .ref r] ∧ Sq H a (IL ns) ∧ Low ns.length ns ∧ 0 ≤ p ∧ p < (ns.length : Int) ∧ H r = some (.lst (IL (itrs ns p L))) ∧ (itrs ns p L).Nodup ∧ itr ns p L ∈ itrs ns p L ∧
  ∀ b : Nat, b < L → itr ns p b = itr ns p L → Q (.int b) H
theorem ok_begin {f : Addr} {fd : FuncData} {k : Nat} (F : Fun K "ring_begin" "ring_begin" sBegin f fd) : FnOk P w K mg base CX0 (k + 1) f fd ["state", "route"] spBegin := by
  refine F.ok scBegin (fun vs H Q E h => ?_) (fun cdv A outer s H vs Q E hr h => ?_)
  · obtain ⟨a, r, ns, p, L, rfl, _⟩ := h
    rfl
  · obtain ⟨a, r, ns, p, L, rfl, hS, lo, p0, p1, hr3, nd, hin, q⟩ := h
    refine ⟨_, pss_one (ps_ret (pe_bm PySem.F.plainAttrs_list PySem.F.slot_list_index PySem.F.type_list_index mt_index (pv 1) (pa_cons (pe_ix ix_seq (pv 0) (pe_ix ix_list (pv 1) (pe_un un_neg pe_int) (fun _ _ => rfl)) (fun _ _ => rfl)) pa_nil))), ?_⟩
    obtain ⟨b, hb, eb⟩ := itrs_mem.mp hin
    obtain ⟨M, rfl⟩ : ∃ M, L = M + 1 := ⟨L - 1, by omega⟩
    have il := itr_low lo p0 p1 M
    have ga : atI (IL ns) (itr ns p M) = some (.int (itr ns p (M + 1))) := gt_at il.1 il.2
    have last : atI (IL (itrs ns p (M + 1))) (-1) = some (.int (itr ns p M)) := at_last (i := M) (by rw [List.length_map, itrs_len]) (IL_get (itrs_get (Nat.lt_succ_self M)))
    have fin : rIndex K (.ref r) [.int (itr ns p (M + 1))] H Q := by
      refine ⟨r, _, _, b, .int (itr ns p b), rfl, rfl, SqL.of hr3, rfl, itrs_flat _ _ _, IL_get (itrs_get hb), ?_, fun m z' hm hz => ?_, q b hb eb⟩
      · rw [eqV_int, decide_eq_true eb]
      · rw [IL_get (itrs_get (show m < M + 1 by omega))] at hz
        cases hz
        rw [eqV_int]
        refine decide_eq_false fun e => ?_
        exact absurd (itrs_apart nd (show m < M + 1 by omega) hb (e.trans eb.symm)) (by omega)
    rcases hS with hS | hS
    · exact ⟨.ref r, rfl, .inl ⟨rfl, _, SqL.of hr3⟩, .ref a, rfl, .ref r, rfl, 1, rfl, r, _, -1, _, rfl, rfl, SqL.of hr3, last, .inl ⟨a, _, _, _, rfl, rfl, SqL.of hS, ga, fin⟩⟩
    · exact ⟨.ref r, rfl, .inl ⟨rfl, _, SqL.of hr3⟩, .ref a, rfl, .ref r, rfl, 1, rfl, r, _, -1, _, rfl, rfl, SqL.of hr3, last, .inr (.inl ⟨a, _, _, _, rfl, rfl, SqT.of hS, ga, fin⟩)⟩
end
end Lp

namespace Lp
open PySem PySem.Spec PyProof.Rows L2
theorem cut_from {ns : List Int} {b : Nat} (h : b ≤ ns.length) : cutV (IL ns) (some (b : Int)) none = IL (ns.drop b) := by
  rw [cut_IL, HT.sIx_none, sIx_int _ _ _ (by omega)]
  have e : min (b : Int).toNat ns.length = b := by omega
  rw [e, List.take_of_length_le (by rw [List.length_drop]; exact Nat.le_refl _)]
section
variable {P : Program} {w : World} {K : PySem.W.Frag} {mg : Str → Option Value} {base : Heap}
/-! ### draws from a wide span -/
def spTakeW : Sp := fun vs H Q _ => ∃ (b : Addr) (span : Int) (c : Nat), vs = [.ref b, .int span] ∧ Box H b c ∧ c ≤ 900000000 ∧ 1 ≤ span ∧ span ≤ 10000000000000 ∧
  ∀ H' (r : Int), Sb b H H' → Box H' b (c + 2) → 0 ≤ r → r < span → Q (.int r) H'
def spTakeB : Sp := fun vs H Q _ => ∃ (b : Addr) (span : Int) (c : Nat), vs = [.ref b, .int span] ∧ Box H b c ∧ c ≤ 900000000 ∧ 10000000 < span ∧ span ≤ 10000000000000 ∧
  ∀ H' (r : Int), Sb b H H' → Box H' b (c + 2) → 0 ≤ r → r < span → Q (.int r) H'
theorem ok_takeB {f : Addr} {fd : FuncData} {k : Nat} (F : Fun K "_law_take" "_law_take" sTake f fd) (T : Cal P w K mg base "_law_take" (k + 1) psT spTake f fd) : FnOk P w K mg base CX0 (k + 2) f fd psT spTakeB := by
  refine F.ok scTake (fun vs H Q E h => ?_) (fun cdv A outer s H vs Q E hr h => ?_)
  · obtain ⟨b, span, c, rfl, _⟩ := h
    rfl
  · obtain ⟨b, span, c, rfl, hB, hc, hs1, hs2, q⟩ := h
    obtain ⟨x0, x1, x2, hb, h0, h1, h2, h3, h4⟩ := id hB
    refine ⟨_, pss_cons (ps_if (pt_cmpR op_gt (pe_ix ix_list (pv 0) pe_int (fun _ _ => rfl)) pe_int (nomark _))
        (pss_cons (ps_set (i := 2) scTake.nd rfl (.inl rfl) (pe_op op_mod (pe_ix ix_list (pv 0) pe_int (fun _ _ => rfl)) (pv 1)))
        (pss_cons (ps_asg (pe_op op_fdivW (pe_ix ix_list (pv 0) pe_int (fun _ _ => rfl)) (pv 1)) (pg_sub (pv 0) pe_int set_list))
        (pss_one (ps_ret (pv 2))))) pss_nil)
      (pss_cons (ps_if (pt_cmpR op_gt (pv 1) (pe_op op_pow pe_int pe_int) (nomark _))
        (pss_one (ps_ret (pe_op op_mod (pe_op op_add (pe_call T.ok hr (by rfl) T.g T.kp T.bd .nil pass0 (pa_cons (pv 0) (pa_cons (pe_op op_pow pe_int pe_int) pa_nil))) (pe_op op_mul (pe_op op_pow pe_int pe_int) (pe_call T.ok hr (by rfl) T.g T.kp T.bd .nil pass0 (pa_cons (pv 0) (pa_cons (pe_op op_add (pe_op op_fdiv (pe_op op_sub (pv 1) pe_int) (pe_op op_pow pe_int pe_int)) pe_int) pa_nil))))) (pv 1)))) pss_nil)
      pss_never), ?_⟩
    have ix : SqL K H b [.int x0, .int x1, .int x2] := SqL.of hb
    refine ⟨.ref b, rfl, b, _, 0, .int x0, rfl, rfl, ix, rfl, x0, 0, rfl, rfl, _, rfl, ite2 (fun e => ?_) (fun e => ?_)⟩
    · have e0 : 0 < x0 := of_decide_eq_true e
      refine ⟨.ref b, rfl, b, _, 0, .int x0, rfl, rfl, ix, rfl, .int span, rfl, x0, span, rfl, rfl, (by show (0 : Int) < span; omega), ?_⟩
      refine ⟨.ref b, rfl, b, _, 0, .int x0, rfl, rfl, ix, rfl, .int span, rfl, x0, span, rfl, rfl, wide_div (b := 64) (by omega) (by omega) (by decide) (by decide), ?_⟩
      refine ⟨.ref b, rfl, b, _, 0, 0, rfl, rfl, hb, rfl, ?_⟩
      refine ⟨.int (x0 % span), rfl, q _ _ (Sb.upd (Sb.refl b H)) ⟨x0 / span, x1, x2, upd_same, ?_, h1, h2, h3, by omega⟩ (Int.emod_nonneg _ (by omega)) (Int.emod_lt_of_pos _ (by omega))⟩
      exact Int.ediv_nonneg h0 (by omega)
    · have p7 : (10 : Int) ^ (7 : Int).toNat = 10000000 := by decide
      refine ⟨.int span, rfl, 10, 7, rfl, rfl, ⟨by decide, by decide, by decide⟩, span, _, rfl, rfl, _, rfl, ?_⟩
      have e1 : (10 : Int) ^ (7 : Int).toNat < span := by rw [p7]; omega
      rw [decide_eq_true e1]
      refine iteT ?_
      refine ⟨.ref b, rfl, 10, 7, rfl, rfl, ⟨by decide, by decide, by decide⟩, b, _, c, rfl, hB, by omega, by decide, by decide, fun H1 r1 sb1 hB1 r10 r11 => ?_⟩
      refine ⟨10, 7, rfl, rfl, ⟨by decide, by decide, by decide⟩, .ref b, rfl, .int span, rfl, span, 1, rfl, rfl, 10, 7, rfl, rfl, ⟨by decide, by decide, by decide⟩, _, _, rfl, rfl, ⟨by decide, by decide⟩, _, 1, rfl, rfl, b, _, c + 1, rfl, hB1, by omega, ?_, ?_, fun H2 r2 sb2 hB2 r20 r21 => ?_⟩
      · show 1 ≤ (span - 1) / (10 : Int) ^ (7 : Int).toNat + 1
        rw [p7]; omega
      · show (span - 1) / (10 : Int) ^ (7 : Int).toNat + 1 ≤ 10000000
        rw [p7]; omega
      · refine ⟨_, r2, rfl, rfl, .inl ⟨by decide, by decide⟩, r1, _, rfl, rfl, .int span, rfl, _, span, rfl, rfl, (by show (0 : Int) < span; omega), ?_⟩
        exact q H2 _ (sb1.trans sb2) (hB2.le (by omega)) (Int.emod_nonneg _ (by omega)) (Int.emod_lt_of_pos _ (by omega))
theorem ok_takeW {f : Addr} {fd : FuncData} {k : Nat} (F : Fun K "_law_take" "_law_take" sTake f fd) (T : Cal P w K mg base "_law_take" (k + 1) psT spTake f fd) : FnOk P w K mg base CX0 (k + 2) f fd psT spTakeW :=
  FnOk.imp (fn_or (ok_take F) (ok_takeB F T)) fun vs H Q E h => by
    obtain ⟨b, span, c, rfl, hB, hc, h1, h2, q⟩ := h
    by_cases hs : span ≤ 10000000
    · exact .inl ⟨b, span, c, rfl, hB, by omega, h1, hs, fun H' r sb hB' => q H' r sb (hB'.le (by omega))⟩
    · exact .inr ⟨b, span, c, rfl, hB, hc, by omega, h2, q⟩
end
end Lp

namespace Lp
open PySem PySem.Spec PyProof.Rows L2
/-! ### sorting tuples of ints -/
theorem lex_asym : ∀ xs ys : List Int, HT.lexLt xs ys = true → HT.lexLt ys xs = false
  | [], [], _ => rfl
  | [], _ :: _, _ => rfl
  | _ :: _, [], h => by cases h
  | x :: xs, y :: ys, h => by
    rw [HT.lexLt_cons] at h ⊢
    by_cases e : x = y
    · rw [if_pos e] at h; rw [if_pos e.symm]; exact lex_asym xs ys h
    · rw [if_neg e] at h; rw [if_neg (Ne.symm e)]
      have := of_decide_eq_true h
      exact decide_eq_false (by omega)
theorem lex_tr : ∀ xs ys zs : List Int, HT.lexLt ys xs = false → HT.lexLt zs ys = false → HT.lexLt zs xs = false
  | [], _, [], _, _ => rfl
  | [], _, _ :: _, _, _ => rfl
  | _ :: _, [], _, h, _ => by cases h
  | _ :: _, _ :: _, [], _, h => by cases h
  | x :: xs, y :: ys, z :: zs, h1, h2 => by
    rw [HT.lexLt_cons] at h1 h2 ⊢
    by_cases e1 : y = x
    · rw [if_pos e1] at h1
      by_cases e2 : z = y
      · rw [if_pos e2] at h2
        rw [if_pos (e2.trans e1)]
        exact lex_tr xs ys zs h1 h2
      · rw [if_neg e2] at h2
        rw [if_neg (fun e => e2 (e.trans e1.symm)), ← e1]; exact h2
    · rw [if_neg e1] at h1
      have a := of_decide_eq_false h1
      by_cases e2 : z = y
      · rw [if_neg (fun e => e1 (e2.symm.trans e))]
        exact decide_eq_false (by omega)
      · rw [if_neg e2] at h2
        have b := of_decide_eq_false h2
        rw [if_neg (by omega)]
        exact decide_eq_false (by omega)
theorem lex_eq : ∀ xs ys : List Int, HT.lexLt xs ys = false → HT.lexLt ys xs = false → xs = ys
  | [], [], _, _ => rfl
  | [], _ :: _, h, _ => by cases h
  | _ :: _, [], _, h => by cases h
  | x :: xs, y :: ys, h1, h2 => by
    rw [HT.lexLt_cons] at h1 h2
    by_cases e : x = y
    · rw [if_pos e] at h1
      rw [if_pos e.symm] at h2
      rw [e, lex_eq xs ys h1 h2]
    · rw [if_neg e] at h1
      rw [if_neg (Ne.symm e)] at h2
      have := of_decide_eq_false h1
      have := of_decide_eq_false h2
      omega
abbrev ltK (k : Value → List Int) : Value → Value → Bool := fun v u => HT.lexLt (k v) (k u)
theorem swoK (k : Value → List Int) : SrtO.Swo (ltK k) := ⟨fun x y h => lex_asym _ _ h, fun x y z h1 h2 => lex_tr _ _ _ h1 h2⟩
section
variable {prog : Program} {w : World} {A : Around} {E : Value → Shared → Prop} {s : Shared}
theorem kat_ints : ∀ {xs ys : List Value} {ns ms : List Int} {fin : Bool} (i : Nat), IntsAre xs ns → IntsAre ys ms → fin = decide (ns.length < ms.length) →
    PySem.W.KatLex prog w A true fin (fun r s' => s' = s ∧ r = HT.lexLt ns ms) (xs.zip ys) i s
  | _, _, _, _, fin, i, .nil, .nil, h => PySem.W.kat_nil ⟨rfl, by rw [h]; rfl⟩
  | _, _, _, _, fin, i, .nil, .cons m u r, h => PySem.W.kat_nil ⟨rfl, by rw [h]; exact decide_eq_true (Nat.succ_pos _)⟩
  | _, _, _, _, fin, i, .cons n t r, .nil, h => PySem.W.kat_nil ⟨rfl, by rw [h]; exact decide_eq_false (Nat.not_lt_zero _)⟩
  | _, _, _, _, fin, i, .cons (ns := ns) n t r, .cons (ns := ms) m u r', h => by
    refine PySem.W.kat_cons (SeqAt.EqAt.int_int n t m u prog w _ _ ?_)
    refine PySem.W.kat_go (fun e => ?_) (fun e => ?_)
    · have en : n = m := by simpa using e
      refine PySem.W.kat_yes ?_
      have ih := kat_ints (fin := fin) (i + 1) r r' (by rw [h]; simp)
      rw [HT.lexLt_cons, if_pos en]
      exact ih
    · have en : ¬ n = m := by simpa using e
      refine PySem.W.kat_no (TS.oneLt_ints _ ?_)
      rw [HT.lexLt_cons, if_neg en]
      exact ⟨rfl, rfl⟩
/-- what is asked of the values: tuples of ints, none empty -/
def KeyOk (h : Heap) (k : Value → List Int) (vs : List Value) : Prop := ∀ v ∈ vs, TS.TupInts h v (k v) ∧ k v ≠ []
theorem KeyOk.keeps {h h' : Heap} {k : Value → List Int} {vs : List Value} (x : KeyOk h k vs) (q : ∀ b o, h.get? b = some o → o.cls = .type "tuple" → h'.get? b = some o) : KeyOk h' k vs := fun v hv => ⟨(x v hv).1.keeps q, (x v hv).2⟩
theorem key_cmp {vs : List Value} {k : Value → List Int} (x : KeyOk s.heap k vs) : SrtO.Cmp prog w A s (tuples' true) (fun p => p.1 ∈ vs) (SrtO.lt2 (ltK k)) := by
  intro p q hp hq
  obtain ⟨⟨a, xs, e, ⟨o, ho, _, n, hd⟩, i⟩, _⟩ := x _ hp
  obtain ⟨⟨b, ys, e', ⟨o', ho', _, n', hd'⟩, i'⟩, _⟩ := x _ hq
  show wpAny (model prog w) A (keyLt' (tuples' true) p.1 q.1) (fun r s' => s' = s ∧ r = HT.lexLt (k p.1) (k q.1)) (fun _ _ => False) s
  rw [e] at i ⊢
  rw [e'] at i' ⊢
  refine PySem.W.kat_lt ho hd ho' hd' (kat_ints 0 i i' ?_)
  rw [← i.length, ← i'.length, Array.length_toList, Array.length_toList]
theorem key_firsts {h : Heap} {k : Value → List Int} : ∀ vs : List Value, KeyOk h k vs → ∃ fs, PySem.W.KatTups h vs fs ∧ fs.length = vs.length ∧ ∀ f ∈ fs, ∃ n t, f = Value.int n t
  | [], _ => ⟨[], .nil, rfl, fun _ z => nomatch z⟩
  | v :: vs, x => by
    obtain ⟨fs, k1, k2, k3⟩ := key_firsts vs fun u hu => x u (List.mem_cons_of_mem _ hu)
    obtain ⟨⟨a, xs, e, ⟨o, ho, hc, n, hd⟩, i⟩, ne⟩ := x v List.mem_cons_self
    subst e
    generalize hz : k (.ref a) = z at i ne
    generalize hy : xs.toList = ys at i
    cases i with
    | nil => exact absurd rfl ne
    | cons m t r =>
      refine ⟨.int m t :: fs, .cons ho hc hd ?_ k1, congrArg (· + 1) k2, fun f hf => ?_⟩
      · rw [← Array.getElem?_toList, hy]; rfl
      · rcases List.mem_cons.mp hf with q | q
        · exact ⟨m, t, q⟩
        · exact k3 f q
theorem key_sortable {a : Addr} {vs : List Value} {k : Value → List Int} (x : KeyOk s.heap k vs) (h0 : 2 ≤ vs.length) (ha : ∀ o, s.heap.get? a = some o → o.cls ≠ .type "tuple") : SrtO.SortableO prog w A s a vs (ltK k) := by
  intro h' keep
  have x' : KeyOk h' k vs := x.keeps fun b o e c => keep b o (fun z => ha o (z ▸ e) c) e
  obtain ⟨fs, f1, f2, f3⟩ := key_firsts vs x'
  refine ⟨tuples' true, fun Q E hq => ?_, key_cmp (s := { s with heap := h' }) x'⟩
  refine PySem.W.kat_kind (T := .type "int") f1 (by omega) (fun f hf => ?_) (by rfl) ?_
  · obtain ⟨n, t, e⟩ := f3 f hf
    rw [e]
    exact PySem.W.Looks.now
  · rw [show (Value.type "int" != Value.type "tuple") = true by decide +kernel]
    exact hq
end
/-- the address of a value, its ints -/
def refOf : Value → Addr
  | .ref a => a
  | _ => 0
abbrev RL (L : List (Addr × List Int)) : List V := L.map fun p => V.ref p.1
abbrev RW (L : List (Addr × List Int)) : List Value := L.map fun p => Value.ref p.1
/-- L' is L in ascending order -/
def Ranked (L' : List (Addr × List Int)) : Prop := L'.Pairwise fun x y => HT.lexLt y.2 x.2 = false
section
variable {X : Cx}
def kf (h : Heap) (v : Value) : Addr × List Int := (refOf v, TS.intsOf h v)
theorem kf_map {h : Heap} {L : List (Addr × List Int)} (x : ∀ p ∈ L, TS.TupInts h (.ref p.1) p.2) : (RW L).map (kf h) = L := by
  rw [List.map_map]
  refine (List.map_congr_left fun p hp => ?_).trans (List.map_id L)
  show (p.1, TS.intsOf h (.ref p.1)) = p
  rw [(x p hp).ints]
theorem kf_back {h : Heap} {L : List (Addr × List Int)} : ∀ {out : List Value}, (∀ v ∈ out, v ∈ RW L) → out = RW (out.map (kf h))
  | [], _ => rfl
  | v :: r, x => by
    obtain ⟨p, _, e⟩ := List.mem_map.mp (x v List.mem_cons_self)
    have ih := kf_back (h := h) (L := L) (out := r) fun u hu => x u (List.mem_cons_of_mem _ hu)
    show v :: r = Value.ref (refOf v) :: RW (r.map (kf h))
    rw [← ih, ← e]; rfl
theorem tupInts_at {pins : List (Addr × Obj)} {σ : L2.St} {H : Hp} {s : Shared} {b : Addr} {k : List Int} (I : Inv X pins σ H s) (h : SqT X.K H b (IL k)) : TS.TupInts s.heap (.ref b) k := tupInts_of (I.isT h)
/-- sorted(xs), xs a list of tuples of ints, none empty -/
def rSortL (K : PySem.W.Frag) : List V → Hp → VK → Prop := fun vs H Q => ∃ (a : Addr) (L : List (Addr × List Int)), vs = [V.ref a] ∧ SqL K H a (RL L) ∧ (∀ p ∈ L, SqT K H p.1 (IL p.2) ∧ p.2 ≠ []) ∧
  ∀ L' q, L'.Perm L → Ranked L' → H q = none → Q (.ref q) (upd H q (.lst (RL L')))
theorem cr_sortL : CallR X (.builtin "sorted") (rSortL X.K) := by
  intro pins s σ H vs us Q I r h
  obtain ⟨a, L, rfl, hs, hx, q⟩ := h
  obtain ⟨its, rv, hl, hz⟩ := I.list hs
  rw [Vals.ref1 r]
  have ei : its = RW L := refs_of_vals rv
  subst ei
  have tup : ∀ p ∈ L, TS.TupInts s.heap (.ref p.1) p.2 := fun p hp => tupInts_at I (hx p hp).1
  have key : KeyOk s.heap (TS.intsOf s.heap) (RW L) := fun v hv => by
    obtain ⟨p, hp, rfl⟩ := List.mem_map.mp hv
    rw [(tup p hp).ints]
    exact ⟨tup p hp, (hx p hp).2⟩
  refine SrtO.sorted_ord (swoK (TS.intsOf s.heap)) hl.isList (by rw [← rv.length]; exact hz) (fun h2 h₁ a' ha kk => ?_) fun out o1 o2 => ?_
  · refine key_sortable (s := { s with heap := h₁ }) (key.keeps fun b o e _ => (kk b o e).2) h2 fun o e c => ?_
    cases ha.symm.trans e
    exact absurd (Value.type.inj c) (by decide)
  · have back := kf_back (h := s.heap) (L := L) (out := out) fun v hv => o2.perm.mem_iff.mp hv
    have pm : (out.map (kf s.heap)).Perm L := by
      have := o2.perm.map (kf s.heap)
      rw [kf_map tup] at this
      exact this
    have rk : Ranked (out.map (kf s.heap)) := List.pairwise_map.mpr o1
    obtain ⟨ep, he⟩ := PyProof.Rows.sortedAll_at s.heap (RW L) out.toArray
    have vals : Vals (RL (out.map (kf s.heap))) out := by
      have : Vals (RL (out.map (kf s.heap))) (RW (out.map (kf s.heap))) := vals_of_refs _
      rw [← back] at this
      exact this
    refine ⟨.ref _, upd H (s.heap.objs.size + 1) (.lst (RL (out.map (kf s.heap)))), I.laid (t' := s.toks) (fun _ _ => PyProof.Rows.sortedAll_old) (Nat.le_succ _) ⟨?_, out, ep, vals, he⟩, rfl, q _ _ pm rk (I.hok.fresh (Nat.le_succ _))⟩
    rw [List.length_map, pm.length_eq]
    rw [List.length_map] at hz; exact hz
/-- sorted(set), of tuples of ints, none empty -/
def rSortS (K : PySem.W.Frag) (P : Program) (w : World) : List V → Hp → VK → Prop := fun vs H Q => ∃ (a : Addr) (L : List (Addr × List Int)), vs = [V.ref a] ∧ H a = some (SetTO P w a L) ∧ (∀ p ∈ L, SqT K H p.1 (IL p.2) ∧ p.2 ≠ []) ∧
  ∀ L' q, L'.Perm L → Ranked L' → (L'.map (·.2)).Nodup → H q = none → Q (.ref q) (upd H q (.lst (RL L')))
theorem cr_sortS (hc : X.calm = true) : CallR X (.builtin "sorted") (rSortS X.K X.prog X.w) := by
  intro pins s σ H vs us Q I r h
  obtain ⟨a, L, rfl, ha, hx, q⟩ := h
  have R0 : SetT0 X.prog X.w s.heap a L := (I.hok a _ ha).1
  obtain ⟨es, ep, t, R⟩ := R0.full fun p hp => I.isT (hx p hp).1
  rw [Vals.ref1 r]
  obtain ⟨o, ho, hex, hd⟩ := R.ob
  have few := R.few
  have siz := R.size
  refine Calls.call_function_entry PyProof.Rows.kind_sorted PyProof.Rows.plain_sorted PyProof.Rows.entry_sorted (PyProof.Rows.args_sorted1 _) ?_
  unfold Builtin.«sorted»
  refine wpAny_bind (m := checkCount "sorted" 1 1 _) (wpAny_pure (wpAny_bind (collect_set (A := X.A.in1) (I.ok.hd hc) ⟨o, ho, hex.1, hd⟩ R.fits (by show es.size < 4096; omega) R.tab.ris R.led ?_)))
  intro s1 out0 k1 hz g1 o1 pm
  have rows : es.toList.map (·.2) = RW L := by
    rw [R.rows]; unfold rowsOf; rw [List.map_map]; rfl
  rw [rows] at pm
  have len0 : out0.length = L.length := by rw [pm.length_eq, List.length_map]
  refine wpAny_bind (wpAny_newList ?_ (sz (by omega)))
  have hoL : (s1.heap.push (seqObj "list" out0.toArray 0)).get? s1.heap.objs.size = some (seqObj "list" out0.toArray 0) := Heap.get?_push_size _ rfl
  have tup : ∀ p ∈ L, TS.TupInts (s1.heap.push (seqObj "list" out0.toArray 0)) (.ref p.1) p.2 := fun p hp => tupInts_of (isT_keep (R.tup p hp) fun b u e => Heap.get?_push_of_some _ (k1 b u e))
  have key : KeyOk (s1.heap.push (seqObj "list" out0.toArray 0)) (TS.intsOf (s1.heap.push (seqObj "list" out0.toArray 0))) out0 := fun v hv => by
    obtain ⟨p, hp, rfl⟩ := List.mem_map.mp (pm.mem_iff.mp hv)
    rw [(tup p hp).ints]
    exact ⟨tup p hp, (hx p hp).2⟩
  refine wpAny_bind (wpAny_holding (wpAny_call_entry PyProof.Rows.slot_list_sort ⟨_, hoL, rfl⟩ PyProof.Rows.entry_list_sort (SrtO.list_sort_ord (s := { s1 with heap := s1.heap.push (seqObj "list" out0.toArray 0) }) (swoK (TS.intsOf (s1.heap.push (seqObj "list" out0.toArray 0)))) hoL (sz (by omega)) (fun h2 => ?_) fun out q1 q2 => ⟨_, rfl, ?_⟩) (PyProof.Rows.args_list_sort _)))
  · refine key_sortable (s := { s1 with heap := s1.heap.push (seqObj "list" out0.toArray 0) }) key h2 fun o e c => ?_
    cases hoL.symm.trans e
    exact absurd (Value.type.inj c) (by decide)
  · obtain ⟨c, hcL⟩ := sortedHeap_at (vs := out0) (out := out.toArray) hoL
    generalize hh : s1.heap.push (seqObj "list" out0.toArray 0) = h2 at *
    have back := kf_back (h := h2) (L := L) (out := out) fun v hv => pm.mem_iff.mp (q2.perm.mem_iff.mp hv)
    have pL : (out.map (kf h2)).Perm L := by
      have := (q2.perm.trans pm).map (kf h2)
      rw [kf_map tup] at this
      exact this
    have rk : Ranked (out.map (kf h2)) := List.pairwise_map.mpr q1
    have hn : H s1.heap.objs.size = none := I.hok.fresh hz
    have vals : Vals (RL (out.map (kf h2))) out := by
      have : Vals (RL (out.map (kf h2))) (RW (out.map (kf h2))) := vals_of_refs _
      rw [← back] at this
      exact this
    have keep : ∀ b u, s.heap.get? b = some u → (sortedHeap h2 s1.heap.objs.size out0 out.toArray).get? b = some u := fun b u e => by
      have lt := Heap.lt_size (k1 b u e)
      rw [sortedHeap_old (Nat.ne_of_lt lt) (by rw [← hh, size_push']; exact Nat.lt_succ_of_lt lt), ← hh]
      exact Heap.get?_push_of_some _ (k1 b u e)
    have lenL : (RL (out.map (kf h2))).length ≤ sizeLine := by rw [List.length_map, pL.length_eq]; exact sz (by omega)
    have J : Inv X pins σ (upd H s1.heap.objs.size (.lst (RL (out.map (kf h2))))) { s with heap := sortedHeap h2 s1.heap.objs.size out0 out.toArray, gens := s1.gens, drawn := s1.drawn, toks := s1.toks } :=
      I.call (ch := []) (Un.laid keep hz hn) (I.hok.laid keep hz ⟨lenL, out, c, vals, hcL⟩) (by rw [g1]; exact I.bare) (fun _ z => nomatch z)
    have fin : EP X pins σ Q (.ref s1.heap.objs.size) { s with heap := sortedHeap h2 s1.heap.objs.size out0 out.toArray, gens := s1.gens, drawn := s1.drawn, toks := s1.toks } := ⟨.ref _, _, J, rfl, q _ _ pL rk ((pL.map (·.2)).nodup_iff.mpr R.nd) hn⟩
    refine wpAny_pure ⟨_, rfl, ?_⟩
    obtain ⟨h1, g, d, t', os⟩ := s1
    cases o1
    exact fin
end
end Lp

namespace Lp
open PySem PySem.Spec PyProof.Rows L2
/-! ### a set comprehension whose items are tuples of ints -/
theorem addT_ok {Y : Cx} {pins : List (Addr × Obj)} {σ : L2.St} {H : Hp} {s : Shared} {E : Value → Shared → Prop} {D b : Addr} {L : List (Addr × List Int)} {k : List Int} {Q : Value → Shared → Prop} (I : Inv Y pins σ H s) (hD : H D = some (SetTO Y.prog Y.w D L)) (hb : SqT Y.K H b (IL k))
    (hL : ∀ p ∈ L, SqT Y.K H p.1 (IL p.2)) (few : L.length + 1 < 64) (hu : Y.A.units + 5 < cLine)
    (h : ∀ s' L', (k ∈ L.map (·.2) → L' = L) → (k ∉ L.map (·.2) → L'.Perm ((b, k) :: L)) → Inv Y pins σ (upd H D (SetTO Y.prog Y.w D L')) s' → Q .none s') :
    wpAny (model Y.prog Y.w) Y.A (call (.builtin "set.add") [.ref D, .ref b]) Q E s := by
  have R0 : SetT0 Y.prog Y.w s.heap D L := (I.hok D _ hD).1
  obtain ⟨es, ep, t, R⟩ := R0.full fun p hp => I.isT (hL p hp)
  obtain ⟨o, ho, hex, hd⟩ := R.ob
  have hx := I.isT hb
  refine wpAny_call_entry PySem.F.slot_set_add ⟨o, ho, hex.1⟩ PySem.F.entry_set_add ?_ (PySem.F.args_set_add_2 _ _)
  unfold Builtin.«set.add» Builtin.Frozenset.oneOther
  simp only [List.isEmpty_nil, bind_assoc]
  unfold Builtin.Frozenset.addrOf setAdd
  refine wpAny_bind (wpAny_pure ?_)
  try dsimp only
  refine wpAny_bind (wpAny_pure ?_)
  try dsimp only
  refine wpAny_bind (wpAny_holding (wpAny_bind (wpAny_pyHash_tuple (by show Y.A.units + 1 < cLine; omega) hx ?_)))
  refine add_at (s := { s with toks := s.toks + (k.length + 1) }) R hx (by show Y.A.units + 1 < cLine; omega) few fun _ h' L' es' ep' t' sb R' c1 c2 => ?_
  show wpAny _ _ (ret Value.none) _ _ _
  have there : ∃ u, h'.get? D = some u := by
    obtain ⟨o', ho', _⟩ := R'.ob
    exact ⟨o', ho'⟩
  exact wpAny_pure ⟨_, rfl, h _ L' c1 c2 (I.write (e := D) (t' := s.toks + (k.length + 1)) (by rw [hD]; trivial) (.inl rfl) (fun c u n e => (sb.2 c n).trans e) there (setTO_new R'.t0))⟩
/-- what must hold: D is the new set -/
def tScT (K : PySem.W.Frag) (P : Program) (w : World) (wi : TI) (g : TG) (te : TE) (vs : List Nat) : TE := fun σ H Q => wi σ H fun J H1 => ∀ D, H1 D = none → ∃ W : Nat → Nat → Hp → Prop, (∃ m, W 0 m (upd H1 D (SetTO P w D []))) ∧ ∀ i m H, W i m H →
  (J.stop i H ∧ Q (.ref D) H) ∨ (J.go i H ∧ ∃ Nx : Hp → Prop, (∀ H', Nx H' → ∃ m', m' < m ∧ W (i + 1) m' H') ∧ ∀ x H', J.yld i H x H' → g x (wipe σ vs) H' fun σ2 H2 => wipe σ2 vs = wipe σ vs ∧
    te σ2 H2 fun y H4 => ∃ (b : Addr) (k : List Int) (L : List (Addr × List Int)), y = .ref b ∧ SqT K H4 b (IL k) ∧ H4 D = some (SetTO P w D L) ∧ (∀ p ∈ L, SqT K H4 p.1 (IL p.2)) ∧ L.length + 1 < 64 ∧
      ∀ L', (k ∈ L.map (·.2) → L' = L) → (k ∉ L.map (·.2) → L'.Perm ((b, k) :: L)) → Nx (upd H4 D (SetTO P w D L')))
theorem pe_scT {X : Cx} {elt tg iter : Expr} {scope : Scope} {own : List (Str × Nat)} {pos : Pos} {wi : TI} {g : TG} {te : TE} (hc : X.calm = true) (hu : X.A.units + 5 < cLine) (hN : X.N.Nodup) (hi : PI X tg iter wi) (ok : BlkOk X.N X.env.scope scope own)
    (hg : ∀ (s : Shared) (H : Hp) (C : Addr) (cl : List (Str × Addr)) (fp : List Addr), PG (X.blk s H scope (compEnvC scope cl C X.env) fp) tg g)
    (he : ∀ (s : Shared) (H : Hp) (C : Addr) (cl : List (Str × Addr)) (fp : List Addr), PE (X.blk s H scope (compEnvC scope cl C X.env) fp) elt te) (hs : ∀ x, foldedSetIterable iter X.env x = pure x := by intro _; rfl) :
    PE X (.SetComp elt [⟨tg, iter, [], 0⟩] scope pos) (tScT X.K X.prog X.w wi g te (own.map (·.2))) := by
  constructor
  intro pins s σ H Q I h
  rw [PpSet.eval_SetComp]
  show wpAny _ _ (comprehension (.SetComp elt [⟨tg, iter, [], 0⟩] scope pos) scope X.env (firstIterPos [⟨tg, iter, [], 0⟩] pos) (newSet (.type "set")) false (eval iter X.env)) _ _ s
  have captured : ∀ y ∈ scope.names, y.2 = .free → ∃ c, X.env.cells.lookup y.1 = some c := fun y hy e => (ok.free y hy e).elim (fun z => I.ok.has _ (.inl z)) (fun z => I.ok.has _ (.inr z))
  refine wpAny_comprehension_free (use := none) rfl hs (closure_ok captured) ok.kind (fun y hy e => by rw [ok.uniq y hy, e]) (thn (hi.run pins s σ H _ I h) fun xv s1 hx => thn hx fun itv s2 walked => ?_)
  obtain ⟨it, fp, tn, J, H2, rfl, I2, T, at0, apart, want⟩ := walked
  refine PpSet.newSet_ok (newEnv_comp ?_)
  generalize eD : s2.heap.objs.size = D
  have noD : H2 D = none := I2.hok.fresh (Nat.le_of_eq eD)
  obtain ⟨W, ⟨m0, w0⟩, turn⟩ := want D noD
  generalize e3 : ({ s2 with heap := s2.heap.push { cls := .type "set", dict := none, data := .set #[] 0 (.fresh 0 0 (!X.w.params.followText "set-order")) } } : Shared) = s3
  have heap3 : s3.heap = s2.heap.push { cls := .type "set", dict := none, data := .set #[] 0 (.fresh 0 0 (!X.w.params.followText "set-order")) } := by rw [← e3]
  have I3 : Inv X pins σ (upd H2 D (SetTO X.prog X.w D [])) s3 := by
    rw [← e3]
    refine I2.laid (t' := s2.toks) (fun _ _ e => Heap.get?_push_of_some _ e) (Nat.le_of_eq eD) (setTO_new (SetTR.t0 (setTR_fresh ?_)))
    rw [← eD]; exact Heap.get?_push_size _ rfl
  have apart3 : ∀ b ∈ fp, FpOk X pins (upd H2 D (SetTO X.prog X.w D [])) b ∧ b < s3.heap.objs.size := by
    intro b hb
    obtain ⟨o, e, _⟩ := T.obj _ _ at0 b hb
    have lt := Heap.lt_size e
    refine ⟨⟨?_, (apart b hb).2⟩, by rw [heap3, Heap.size_push]; exact Nat.lt_succ_of_lt lt⟩
    rw [upd_ne (fun z => by rw [z, ← eD] at lt; exact Nat.lt_irrefl _ lt)]
    exact (apart b hb).1
  have at3 : tn 0 s3.heap := T.keep _ _ _ at0 fun b _ o e => by rw [heap3]; exact Heap.get?_push_of_some _ e
  have I4 := block_start I3 ok hN apart3
  have pg := hg s3 (upd H2 D (SetTO X.prog X.w D [])) s3.heap.objs.size (cellsFrom (s3.heap.objs.size + 1) scope.names (cloFrom X.env.cells scope.names [])) fp
  have pe := he s3 (upd H2 D (SetTO X.prog X.w D [])) s3.heap.objs.size (cellsFrom (s3.heap.objs.size + 1) scope.names (cloFrom X.env.cells scope.names [])) fp
  show codeAny _ _ (.compStart (.SetComp elt [⟨tg, iter, [], 0⟩] scope pos) 0 (.ref it) (.ref D) (compEnvC scope (cellsFrom (s3.heap.objs.size + 1) scope.names (cloFrom X.env.cells scope.names [])) s3.heap.objs.size X.env)) (compPost (model X.prog X.w) X.A X.xe none (EP X pins σ Q) (.ref D) s3.heap.objs.size) { s3 with heap := pushCells (s3.heap.push { cls := .type "dict", data := .dict #[] }) scope.names }
  have none3 : ∀ b ∈ fp, (upd H2 D (SetTO X.prog X.w D [])) b = none := fun b hb => (apart3 b hb).1.1
  generalize eC : compEnvC scope (cellsFrom (s3.heap.objs.size + 1) scope.names (cloFrom X.env.cells scope.names [])) s3.heap.objs.size X.env = ce at I4 pg pe ⊢
  have loc : ce.locals = s3.heap.objs.size := by subst eC; rfl
  generalize eH3 : upd H2 D (SetTO X.prog X.w D []) = H3 at I3 I4 pg pe w0 none3 apart3
  generalize e4 : ({ s3 with heap := pushCells (s3.heap.push { cls := .type "dict", data := .dict #[] }) scope.names } : Shared) = s4 at I4 ⊢
  have at4 : tn 0 s4.heap := T.keep _ _ _ at3 fun b _ o e => by rw [← e4]; exact pushCells_keeps _ _ _ _ (Heap.get?_push_of_some _ e)
  have own_fp : ∀ {σ' : L2.St} {H' : Hp} {s' : Shared}, Inv (X.blk s3 H3 scope ce fp) [] σ' H' s' → (∀ b ∈ fp, H' b = none) → ∀ b ∈ fp, FpOk (X.blk s3 H3 scope ce fp) [] H' b := by
    intro σ' H' s' I' hn b hb
    refine ⟨hn b hb, (I'.ok.exf b hb).1, I'.ok.exfs b hb, .inl hb, fun x c e => (I'.ok.exf b hb).2 x c e, fun p hp => ?_⟩
    exact nomatch (show p ∈ ([] : List (Addr × Obj)) from hp)
  have loop : codeAny (model X.prog X.w) X.A (.compLoop (.SetComp elt [⟨tg, iter, [], 0⟩] scope pos) 0 (.ref it) (.ref D) ce) (compPost (model X.prog X.w) X.A X.xe none (EP X pins σ Q) (.ref D) s3.heap.objs.size) s4 := by
    refine PpSet.compLoopS_any (fun n s' => ∃ i H', Inv (X.blk s3 H3 scope ce fp) [] (wipe σ (own.map (·.2))) H' s' ∧ tn i s'.heap ∧ (∀ b ∈ fp, H' b = none) ∧ W i n H') ?_ m0 ⟨0, H3, I4, at4, none3, w0⟩
    rintro n s5 ⟨i, H5, I5, at5, none5, w5⟩
    rcases turn i n H5 w5 with ⟨stop, done⟩ | ⟨go, Nx, next, step⟩
    · refine thnF (T.done (X.blk s3 H3 scope ce fp) rfl rfl rfl hc i [] s5 _ H5 (fun _ _ => False) I5 (own_fp I5 none5) at5 stop) fun r s6 ends => ?_
      obtain ⟨rfl, I6⟩ := ends
      have I7 : Inv X pins σ H5 s6 := I3.call' (ch := fp) I6.os I6.base I6.hok I6.bare fun b hb => by
        obtain ⟨_, a1, _, a3, a4, a5⟩ := (apart3 b hb).1
        exact ⟨a3, a1, a4, a5⟩
      have noC : H5 s3.heap.objs.size = none := by rw [← loc]; exact I6.free
      obtain ⟨m, names, _⟩ := I6.loc
      have names' : s6.heap.Ns s3.heap.objs.size m := by rw [← loc]; exact names
      obtain ⟨f0, f1, f2, f3, f4, f5⟩ := I3.fpOk (Nat.le_refl _) noC
      refine ⟨m, names', fun h'' sb => ?_⟩
      exact ⟨.ref D, H5, I7.turned (t' := s6.toks) (fun b o n e => (sb.2 b n).trans e) f0 f1 f3 f4 f5, rfl, done⟩
    · refine thnF (T.item (X.blk s3 H3 scope ce fp) rfl rfl rfl hc i [] s5 _ H5 (fun _ _ => False) I5 (own_fp I5 none5) at5 go) fun r s6 got => ?_
      obtain ⟨u, rfl, h6⟩ := got
      refine thnF h6 fun _ s7 got => ?_
      obtain ⟨x, H7, I7, rx, y7, at7, none7⟩ := got
      refine thnF (pg.run _ s7 _ H7 x u _ (I7.pinned (own_fp I7 none7) (T.obj _ _ at7)) rx (step x H7 y7)) fun _ s8 got => ?_
      obtain ⟨σ8, H8, I8, same8, q8⟩ := got
      have turned : ∀ {s' : Shared} {H' : Hp}, Inv (X.blk s3 H3 scope ce fp) ([] ++ pinsAt fp s7.heap) σ8 H' s' → Nx H' → ∃ m, m < n ∧ ∃ i H', Inv (X.blk s3 H3 scope ce fp) [] (wipe σ (own.map (·.2))) H' s' ∧ tn i s'.heap ∧ (∀ b ∈ fp, H' b = none) ∧ W i m H' := by
        intro s' H' I' nx
        obtain ⟨m', less, w'⟩ := next H' nx
        have held : ∀ b ∈ fp, ∀ o, s7.heap.get? b = some o → s'.heap.get? b = some o ∧ H' b = none := by
          intro b hb o e
          obtain ⟨z1, z2, _⟩ := I'.pin (b, o) (List.mem_append_right _ (List.mem_append_right _ (mem_pinsAt hb e)))
          exact ⟨z1, z2⟩
        refine ⟨m', less, i + 1, H', (I'.unpinned (pins := [])).weak (by rw [← same8, wipe_length]) (fun j v e => ?_), T.keep _ _ _ at7 fun b hb o e => (held b hb o e).1, fun b hb => ?_, w'⟩
        · rw [← same8] at e; exact (wipe_some e).1
        · obtain ⟨o, e, _⟩ := T.obj _ _ at7 b hb
          exact (held b hb o e).2
      refine wpAny_pure ?_
      rw [if_pos rfl]
      refine thnF (pe.run _ s8 σ8 H8 _ I8 q8) fun z s9 got => ?_
      obtain ⟨yv, H9, I9, ry, b, k, L, rfl, hb, hD9, hL9, few, nx⟩ := got
      cases ry
      exact addT_ok (Y := X.blk s3 H3 scope ce fp) I9 hD9 hb hL9 few hu fun s10 L' c1 c2 I10 => turned I10 (nx L' c1 c2)
  exact PpSet.codeAny_compStart_set loop (T.self X.A 0 _ _ _ at4 loop)
end Lp


namespace Lp
open PySem PySem.Spec PyProof.Rows L2
/-! ### rings, as functions of lists -/
def routeG (ns : List Int) : Nat → List Int → Int → List Int
  | 0, acc, _ => acc
  | k + 1, acc, at_ => if at_ ∈ acc then acc else routeG ns k (acc ++ [at_]) (gt ns at_)
def routeF (ns : List Int) (p : Int) : List Int := routeG ns (ns.length + 1) [] p
theorem routeG_ok {ns : List Int} (lo : Low ns.length ns) {p : Int} (p0 : 0 ≤ p) (p1 : p < (ns.length : Int)) : ∀ (k L : Nat), (itrs ns p L).Nodup → ns.length < k + L → Route ns p (routeG ns k (itrs ns p L) (itr ns p L))
  | 0, L, nd, h => by
    have := low_len ns.length _ nd fun z hz => by
      obtain ⟨i, _, ei⟩ := itrs_mem.mp hz
      have := itr_low lo p0 p1 i
      omega
    rw [itrs_len] at this
    omega
  | k + 1, L, nd, h => by
    unfold routeG
    by_cases hm : itr ns p L ∈ itrs ns p L
    · rw [if_pos hm]
      exact ⟨L, rfl, nd, hm⟩
    · rw [if_neg hm, ← itrs_succ]
      exact routeG_ok lo p0 p1 k (L + 1) (by rw [itrs_succ]; exact Nodup.snoc nd hm) (by omega)
theorem routeF_ok {ns : List Int} (lo : Low ns.length ns) {p : Int} (p0 : 0 ≤ p) (p1 : p < (ns.length : Int)) : Route ns p (routeF ns p) := routeG_ok lo p0 p1 (ns.length + 1) 0 List.nodup_nil (by omega)
def beginF (ns rs : List Int) : Nat := rs.idxOf (gt ns (rs.getLastD 0))
def minF : List Int → Int
  | [] => 0
  | x :: r => r.foldl (fun a b => if b < a then b else a) x
theorem fold_min : ∀ (r : List Int) (x : Int), (r.foldl (fun a b => if b < a then b else a) x = x ∨ r.foldl (fun a b => if b < a then b else a) x ∈ r) ∧ r.foldl (fun a b => if b < a then b else a) x ≤ x ∧ ∀ y ∈ r, r.foldl (fun a b => if b < a then b else a) x ≤ y
  | [], x => ⟨.inl rfl, Int.le_refl x, fun y h => nomatch h⟩
  | z :: r, x => by
    have ih := fold_min r (if z < x then z else x)
    show (r.foldl _ (if z < x then z else x) = x ∨ _) ∧ _
    refine ⟨?_, ?_, ?_⟩
    · rcases ih.1 with h | h
      · by_cases q : z < x
        · right
          show r.foldl _ (if z < x then z else x) ∈ z :: r
          rw [h, if_pos q]; exact List.mem_cons_self
        · left
          show r.foldl _ (if z < x then z else x) = x
          rw [h, if_neg q]
      · right; exact List.mem_cons_of_mem _ h
    · show r.foldl _ (if z < x then z else x) ≤ x
      have := ih.2.1
      split at this <;> rename_i q
      · rw [if_pos q]; omega
      · rw [if_neg q]; exact this
    · intro y hy
      show r.foldl _ (if z < x then z else x) ≤ y
      rcases List.mem_cons.mp hy with h | h
      · have := ih.2.1
        split at this <;> rename_i q
        · rw [if_pos q, h]; exact this
        · rw [if_neg q, h]; omega
      · exact ih.2.2 y h
theorem minF_ok {ms : List Int} (h : ms ≠ []) : minF ms ∈ ms ∧ ∀ y ∈ ms, minF ms ≤ y := by
  cases ms with
  | nil => exact absurd rfl h
  | cons x r =>
    have := fold_min r x
    refine ⟨?_, fun y hy => ?_⟩
    · rcases this.1 with e | e
      · show r.foldl _ x ∈ x :: r
        rw [e]; exact List.mem_cons_self
      · exact List.mem_cons_of_mem _ e
    · rcases List.mem_cons.mp hy with e | e
      · rw [e]; exact this.2.1
      · exact this.2.2 y e
/-- the list, turned so that its least member is the first -/
def turnF (ms : List Int) : List Int := ms.drop (ms.idxOf (minF ms)) ++ ms.take (ms.idxOf (minF ms))
def ringF (ns : List Int) (p : Int) : List Int := turnF ((routeF ns p).drop (beginF ns (routeF ns p)))
def heightF (ns : List Int) (p : Int) : Nat := beginF ns (routeF ns p)
theorem idx_get {ms : List Int} {z : Int} (h : z ∈ ms) : ms[ms.idxOf z]? = some z := by
  have hl := List.idxOf_lt_length_of_mem h
  rw [List.getElem?_eq_getElem hl, List.getElem_idxOf hl]
theorem idx_first : ∀ (ms : List Int) (z : Int) (j : Nat), j < ms.idxOf z → ms[j]? ≠ some z
  | [], z, j, h => by simp at h
  | x :: ms, z, j, h => by
    rw [List.idxOf_cons] at h
    by_cases q : x = z
    · subst q; simp at h
    · have qb : (x == z) = false := beq_eq_false_iff_ne.mpr q
      rw [qb] at h
      cases j with
      | zero => intro e; exact q (Option.some.inj e)
      | succ j =>
        intro e
        exact idx_first ms z j (by simp at h; omega) e
theorem turnF_ne {ms : List Int} (h : ms ≠ []) : turnF ms ≠ [] := by
  intro e
  have := congrArg List.length e
  unfold turnF at this
  rw [List.length_append, List.length_drop, List.length_take, List.length_nil] at this
  have : ms.length = 0 := by omega
  exact h (List.eq_nil_of_length_eq_zero this)
/-- how a whole route begins its ring -/
theorem begin_at {ns : List Int} {p : Int} {L : Nat} (nd : (itrs ns p L).Nodup) (hin : itr ns p L ∈ itrs ns p L) {b : Nat} (hb : b < L) (eb : itr ns p b = itr ns p L) : beginF ns (itrs ns p L) = b := by
  obtain ⟨M, rfl⟩ : ∃ M, L = M + 1 := ⟨L - 1, by omega⟩
  unfold beginF
  have e : (itrs ns p (M + 1)).getLastD 0 = itr ns p M := by rw [itrs_succ]; simp
  rw [e]
  have hin' : gt ns (itr ns p M) ∈ itrs ns p (M + 1) := hin
  have h1 := idx_get hin'
  have hl := List.idxOf_lt_length_of_mem hin'
  rw [itrs_len] at hl
  rw [itrs_get hl] at h1
  exact itrs_apart nd hl hb ((Option.some.inj h1).trans eb.symm)
theorem lex_uniq : ∀ (a b : List (List Int)), a.Nodup → b.Nodup → a.Pairwise (fun x y => HT.lexLt y x = false) → b.Pairwise (fun x y => HT.lexLt y x = false) → (∀ k, k ∈ a ↔ k ∈ b) → a = b
  | [], [], _, _, _, _, _ => rfl
  | [], y :: _, _, _, _, _, h => nomatch (h y).mpr List.mem_cons_self
  | x :: _, [], _, _, _, _, h => nomatch (h x).mp List.mem_cons_self
  | x :: a, y :: b, na, nb, pa, pb, h => by
    have qa := List.pairwise_cons.mp pa
    have qb := List.pairwise_cons.mp pb
    have ra := List.nodup_cons.mp na
    have rb := List.nodup_cons.mp nb
    have e : x = y := by
      rcases List.mem_cons.mp ((h x).mp List.mem_cons_self) with e | e
      · exact e
      · rcases List.mem_cons.mp ((h y).mpr List.mem_cons_self) with e2 | e2
        · exact e2.symm
        · exact lex_eq x y (qb.1 x e) (qa.1 y e2)
    subst e
    have h2 : ∀ k, k ∈ a ↔ k ∈ b := fun k => by
      constructor
      · intro hk
        rcases List.mem_cons.mp ((h k).mp (List.mem_cons_of_mem _ hk)) with z | z
        · exact absurd (z ▸ hk) ra.1
        · exact z
      · intro hk
        rcases List.mem_cons.mp ((h k).mpr (List.mem_cons_of_mem _ hk)) with z | z
        · exact absurd (z ▸ hk) rb.1
        · exact z
    rw [lex_uniq a b ra.2 rb.2 qa.2 qb.2 h2]
/-- RS: all rings, ascending -/
def RingsOf (ns : List Int) (RS : List (List Int)) : Prop := RS.Nodup ∧ RS.Pairwise (fun x y => HT.lexLt y x = false) ∧ ∀ k, k ∈ RS ↔ ∃ j : Nat, j < ns.length ∧ ringF ns (j : Int) = k
theorem RingsOf.eq {ns : List Int} {a b : List (List Int)} (x : RingsOf ns a) (y : RingsOf ns b) : a = b := lex_uniq a b x.1 y.1 x.2.1 y.2.1 fun k => (x.2.2 k).trans (y.2.2 k).symm
section
variable {P : Program} {w : World} {K : PySem.W.Frag} {mg : Str → Option Value} {base : Heap}
/-! ### cuts -/
theorem cut_to {ns : List Int} {b : Nat} (h : b ≤ ns.length) : cutV (IL ns) none (some (b : Int)) = IL (ns.take b) := by
  rw [cut_IL, HT.sIx_none, sIx_int _ _ _ (by omega)]
  have e : min (b : Int).toNat ns.length = b := by omega
  rw [e, Nat.sub_zero, List.drop_zero]
def turnAt (ms : List Int) (z : Int) : List Int := ms.drop (ms.idxOf z) ++ ms.take (ms.idxOf z)
def spTurned : Sp := fun vs H Q _ => ∃ (m : Addr) (z : Int) (ms : List Int), vs = [.ref m, .int z] ∧ H m = some (.lst (IL ms)) ∧ z ∈ ms ∧ ms.length ≤ 1000 ∧
  ∀ H' r, Same H H' → H r = none → H' r = some (.lst (IL (turnAt ms z))) → Q (.ref r) H'
/-! ### turned -/
abbrev sTurned : Stmt := topS 5
theorem scTurned : FnScope ["members", "first", "at"] ["members", "first"] (defScope sTurned) := ⟨rfl, rfl, rfl, by decide +kernel, rfl, by decide +kernel, by decide +kernel⟩
theorem ok_turned {f : Addr} {fd : FuncData} {k : Nat} (F : Fun K "turned" "turned" sTurned f fd) : FnOk P w K mg base CX0 (k + 1) f fd ["members", "first"] spTurned := by
  refine F.ok scTurned (fun vs H Q E h => ?_) (fun cdv A outer s H vs Q E hr h => ?_)
  · obtain ⟨m, z, ms, rfl, _⟩ := h
    rfl
  · obtain ⟨m, z, ms, rfl, hm, hz, ml, q⟩ := h
    refine ⟨_, pss_cons (ps_set (i := 2) scTurned.nd rfl (.inl rfl) (pe_bm PySem.F.plainAttrs_list PySem.F.slot_list_index PySem.F.type_list_index mt_index (pv 0) (pa_cons (pv 1) pa_nil)))
      (pss_one (ps_ret (pe_op op_cat (pe_slice sl_list (pv 0) (po_some (pv 2)) po_none) (pe_slice sl_list (pv 0) po_none (po_some (pv 2)))))), ?_⟩
    have il := List.idxOf_lt_length_of_mem hz
    refine ⟨.ref m, rfl, .inl ⟨rfl, _, SqL.of hm⟩, .int z, rfl, ?_⟩
    refine ⟨m, _, _, ms.idxOf z, .int z, rfl, rfl, SqL.of hm, rfl, flat_ints _, IL_get (idx_get hz), ?_, fun j z' hj hz' => ?_, ?_⟩
    · rw [eqV_int, decide_eq_true rfl]
    · have hjl : j < ms.length := by omega
      rw [IL_get (List.getElem?_eq_getElem hjl)] at hz'
      cases hz'
      rw [eqV_int]
      refine decide_eq_false fun e => ?_
      exact idx_first ms z j hj (by rw [List.getElem?_eq_getElem hjl, e])
    · refine ⟨.ref m, rfl, .int (ms.idxOf z), rfl, _, rfl, m, _, rfl, SqL.of hm, fun c1 n1 => ?_⟩
      rw [cut_from (by omega)]
      have hm2 := upd_keep (u := .lst (IL (ms.drop (ms.idxOf z)))) hm n1
      refine ⟨.ref m, rfl, .int (ms.idxOf z), rfl, _, rfl, m, _, rfl, SqL.of hm2, fun c2 n2 => ?_⟩
      rw [cut_to (by omega)]
      refine ⟨c1, c2, _, _, rfl, rfl, upd_keep upd_same n2, upd_same, ?_, fun c3 n3 => ?_⟩
      · rw [List.length_map, List.length_map, List.length_drop, List.length_take]; exact sz (by omega)
      · have s5 := ((same_new (o := .lst (IL (ms.drop (ms.idxOf z)))) n1).trans (same_new (o := .lst (IL (ms.take (ms.idxOf z)))) n2))
        refine q _ c3 (s5.trans (same_new n3)) (s5.free n3) ?_
        rw [upd_same]
        show some (HO.lst (List.map V.int _ ++ List.map V.int _)) = some (HO.lst (List.map V.int _))
        rw [← List.map_append]; rfl
/-! ### ring_of -/
abbrev sRingOf : Stmt := topS 7
theorem scRingOf : FnScope ["state", "person", "route", "members"] ["state", "person"] (defScope sRingOf) := ⟨rfl, rfl, rfl, by decide +kernel, rfl, by decide +kernel, by decide +kernel⟩
def spRingOf : Sp := fun vs H Q _ => ∃ (a : Addr) (p : Int) (ns : List Int), vs = [.ref a, .int p] ∧ Sq H a (IL ns) ∧ Low ns.length ns ∧ ns.length ≤ 1000 ∧ 0 ≤ p ∧ p < (ns.length : Int) ∧
  ∀ H' r, Same H H' → H r = none → H' r = some (.tup (IL (ringF ns p))) → ringF ns p ≠ [] → Q (.ref r) H'
theorem ok_ringOf {f fC fR fB fT : Addr} {fd fdC fdR fdB fdT : FuncData} {k : Nat} (F : Fun K "ring_of" "ring_of" sRingOf f fd) (B : Bi mg) (C : Cal P w K mg base "check_person" (k + 1) ["state", "person"] spCheckP fC fdC) (R : Cal P w K mg base "route_from" (k + 1) ["pointers", "person"] spRoute fR fdR) (G : Cal P w K mg base "ring_begin" (k + 1) ["state", "route"] spBegin fB fdB) (T : Cal P w K mg base "turned" (k + 1) ["members", "first"] spTurned fT fdT) : FnOk P w K mg base CX0 (k + 2) f fd ["state", "person"] spRingOf := by
  refine F.ok scRingOf (fun vs H Q E h => ?_) (fun cdv A outer s H vs Q E hr h => ?_)
  · obtain ⟨a, p, ns, rfl, _⟩ := h
    rfl
  · obtain ⟨a, p, ns, rfl, hS, lo, ln, p0, p1, q⟩ := h
    refine ⟨_, pss_cons (ps_expr (pe_call C.ok hr (by rfl) C.g C.kp C.bd .nil pass0 (pa_cons (pv 0) (pa_cons (pv 1) pa_nil))))
      (pss_cons (ps_set (i := 2) scRingOf.nd rfl (.inl rfl) (pe_call R.ok hr (by rfl) R.g R.kp R.bd .nil pass0 (pa_cons (pv 0) (pa_cons (pv 1) pa_nil))))
      (pss_cons (ps_set (i := 3) scRingOf.nd rfl (.inl rfl) (pe_slice sl_list (pv 2) (po_some (pe_call G.ok hr (by rfl) G.g G.kp G.bd .nil pass0 (pa_cons (pv 0) (pa_cons (pv 2) pa_nil)))) po_none))
      (pss_one (ps_ret (pe_callTy call_tuple_of (by rfl) B.tuple (by decide +kernel) (pa_cons (pe_call T.ok hr (by rfl) T.g T.kp T.bd .nil pass0 (pa_cons (pv 3) (pa_cons (pe_callB (cr_min rfl) (by rfl) B.min (by decide +kernel) (pa_cons (pv 3) pa_nil)) pa_nil))) pa_nil)))))), ?_⟩
    refine ⟨.ref a, rfl, .int p, rfl, a, p, _, rfl, hS, p0, by rw [List.length_map]; exact p1, ?_⟩
    refine ⟨.ref a, rfl, .int p, rfl, a, p, ns, rfl, hS, lo, ln, p0, p1, fun H1 r rs s1 nr hr1 rt rl => ?_⟩
    have erF : rs = routeF ns p := rt.eq (routeF_ok lo p0 p1)
    obtain ⟨L, hrs, nd, hin⟩ := id rt
    rw [hrs] at hr1 nd hin
    refine ⟨.ref r, rfl, .ref a, rfl, .ref r, rfl, a, r, ns, p, L, rfl, hS.mono s1, lo, p0, p1, hr1, nd, hin, fun b hb eb => ?_⟩
    have ebg := begin_at nd hin hb eb
    refine ⟨b, rfl, r, _, rfl, SqL.of hr1, fun m nm => ?_⟩
    rw [cut_from (by rw [itrs_len]; omega)]
    generalize hms : (itrs ns p L).drop b = ms
    have ering : ringF ns p = turnF ms := by
      unfold ringF
      rw [← erF, hrs, ebg, hms]
    have ml : ms.length = L - b := by rw [← hms, List.length_drop, itrs_len]
    have mne : ms ≠ [] := fun e => by rw [e] at ml; simp at ml; omega
    have mm := minF_ok mne
    have lL : L ≤ ns.length := by rw [hrs, itrs_len] at rl; exact rl
    refine ⟨.ref m, rfl, .ref m, rfl, m, ms, rfl, SqL.of upd_same, by omega, fun z hz hle => ?_⟩
    have ez : z = minF ms := by
      have := mm.2 z hz
      have := hle _ mm.1
      omega
    subst ez
    refine ⟨m, _, ms, rfl, upd_same, mm.1, by omega, fun H2 r2 s2 nr2 hr2 => ?_⟩
    refine ⟨r2, _, rfl, .inl ⟨SqL.of hr2, fun t nt => ?_⟩⟩
    have s5 := (s1.trans (same_new (o := .lst (IL ms)) nm)).trans s2
    refine q _ t (s5.trans (same_new nt)) (s5.free nt) ?_ (by rw [ering]; exact turnF_ne mne)
    rw [upd_same, ering]; rfl
/-! ### height -/
abbrev sHeight : Stmt := topS 9
theorem scHeight : FnScope ["state", "person"] ["state", "person"] (defScope sHeight) := ⟨rfl, rfl, rfl, by decide +kernel, rfl, by decide +kernel, by decide +kernel⟩
def spHeight : Sp := fun vs H Q _ => ∃ (a : Addr) (p : Int) (ns : List Int), vs = [.ref a, .int p] ∧ Sq H a (IL ns) ∧ Low ns.length ns ∧ ns.length ≤ 1000 ∧ 0 ≤ p ∧ p < (ns.length : Int) ∧
  ∀ H', Same H H' → Q (.int (heightF ns p)) H'
theorem ok_height {f fC fR fB : Addr} {fd fdC fdR fdB : FuncData} {k : Nat} (F : Fun K "height" "height" sHeight f fd) (C : Cal P w K mg base "check_person" (k + 1) ["state", "person"] spCheckP fC fdC) (R : Cal P w K mg base "route_from" (k + 1) ["pointers", "person"] spRoute fR fdR) (G : Cal P w K mg base "ring_begin" (k + 1) ["state", "route"] spBegin fB fdB) : FnOk P w K mg base CX0 (k + 2) f fd ["state", "person"] spHeight := by
  refine F.ok scHeight (fun vs H Q E h => ?_) (fun cdv A outer s H vs Q E hr h => ?_)
  · obtain ⟨a, p, ns, rfl, _⟩ := h
    rfl
  · obtain ⟨a, p, ns, rfl, hS, lo, ln, p0, p1, q⟩ := h
    refine ⟨_, pss_cons (ps_expr (pe_call C.ok hr (by rfl) C.g C.kp C.bd .nil pass0 (pa_cons (pv 0) (pa_cons (pv 1) pa_nil))))
      (pss_one (ps_ret (pe_call G.ok hr (by rfl) G.g G.kp G.bd .nil pass0 (pa_cons (pv 0) (pa_cons (pe_call R.ok hr (by rfl) R.g R.kp R.bd .nil pass0 (pa_cons (pv 0) (pa_cons (pv 1) pa_nil))) pa_nil))))), ?_⟩
    refine ⟨.ref a, rfl, .int p, rfl, a, p, _, rfl, hS, p0, by rw [List.length_map]; exact p1, ?_⟩
    refine ⟨.ref a, rfl, .ref a, rfl, .int p, rfl, a, p, ns, rfl, hS, lo, ln, p0, p1, fun H1 r rs s1 nr hr1 rt rl => ?_⟩
    have erF : rs = routeF ns p := rt.eq (routeF_ok lo p0 p1)
    obtain ⟨L, hrs, nd, hin⟩ := id rt
    rw [hrs] at hr1 nd hin
    refine ⟨a, r, ns, p, L, rfl, hS.mono s1, lo, p0, p1, hr1, nd, hin, fun b hb eb => ?_⟩
    have e : heightF ns p = b := by
      unfold heightF
      rw [← erF, hrs]; exact begin_at nd hin hb eb
    rw [← e]; exact q H1 s1
/-! ### rings -/
abbrev sRings : Stmt := topS 8
abbrev nRings : List Str := ["state", "person"]
theorem scRings : FnScope nRings ["state"] (defScope sRings) := ⟨rfl, rfl, rfl, by decide +kernel, rfl, by decide +kernel, by decide +kernel⟩
def spRings : Sp := fun vs H Q _ => ∃ (a : Addr) (ns : List Int), vs = [.ref a] ∧ Sq H a (IL ns) ∧ Low ns.length ns ∧ ns.length ≤ 60 ∧
  ∀ H' r L, Same H H' → H r = none → H' r = some (.lst (RL L)) → (∀ p ∈ L, H' p.1 = some (.tup (IL p.2))) → RingsOf ns (L.map (·.2)) → Q (.ref r) H'
theorem ok_rings {f fO : Addr} {fd fdO : FuncData} {k : Nat} (F : Fun K "rings" "rings" sRings f fd) (B : Bi mg) (O : Cal P w K mg base "ring_of" (k + 1) ["state", "person"] spRingOf fO fdO) : FnOk P w K mg base CX0 (k + 2) f fd ["state"] spRings := by
  refine F.ok scRings (fun vs H Q E h => ?_) (fun cdv A outer s H vs Q E hr h => ?_)
  · obtain ⟨a, ns, rfl, _⟩ := h
    rfl
  · obtain ⟨a, ns, rfl, hS, lo, ln, q⟩ := h
    refine ⟨_, pss_one (ps_ret (pe_callB (cr_sortS rfl) (by rfl) B.sorted (by decide +kernel) (pa_cons (pe_scT (own := [("person", 1)]) (g := gName 1) rfl (Nat.lt_of_le_of_lt (Nat.add_le_add_left (by decide) _) hr.units) scRings.nd (pi_range1 (by rfl) B.range (pa_cons (pe_callB call_len_seq (by rfl) B.len PySem.boot_len (pa_cons (pv 0) pa_nil)) pa_nil)) (blkOk_by (own := [("person", 1)]) (N := nRings) (sc := defScope sRings) (by decide +kernel))
      (fun _ _ _ _ _ => pg_name (i := 1) scRings.nd rfl (Or.inl rfl)) (fun _ _ _ _ _ => pe_call O.ok hr (by rfl) O.g O.kp O.bd .nil pass0 (pa_cons (pv 0) (pa_cons (pv 1) pa_nil)))) pa_nil))), ?_⟩
    refine ⟨.ref a, rfl, a, _, rfl, hS.s, _, rfl, ?_, ?_, fun D nD => ?_⟩
    · rw [List.length_map]; omega
    · rw [List.length_map]; omega
    rw [List.length_map]
    refine ⟨fun i m H3 => ∃ L, i + m = ns.length ∧ (∀ b o, b ≠ D → H b = some o → H3 b = some o) ∧ H3 D = some (SetTO P w D L) ∧ (∀ p ∈ L, H3 p.1 = some (.tup (IL p.2)) ∧ p.2 ≠ []) ∧ L.length ≤ i ∧ (∀ k, k ∈ L.map (·.2) ↔ ∃ j : Nat, j < i ∧ ringF ns (j : Int) = k), ⟨ns.length, [], by omega, ?_, upd_same, (fun p hp => nomatch hp), Nat.le_refl 0, fun k => ?_⟩, ?_⟩
    · intro b o nb e
      rw [upd_ne nb]; exact e
    · constructor
      · intro h; exact nomatch h
      · rintro ⟨j, hj, _⟩; exact absurd hj (Nat.not_lt_zero j)
    · rintro i m H3 ⟨L, em, keep, hD, hL, hl, mem⟩
      have hS3 : Sq H3 a (IL ns) := by
        rcases hS with h | h
        · exact .inl (keep a _ (fun z => by rw [z, nD] at h; cases h) h)
        · exact .inr (keep a _ (fun z => by rw [z, nD] at h; cases h) h)
      by_cases hi : i < ns.length
      · refine .inr ⟨by show i < ((ns.length : Int)).toNat; omega, fun H' => ∃ L, i + 1 + (m - 1) = ns.length ∧ (∀ b o, b ≠ D → H b = some o → H' b = some o) ∧ H' D = some (SetTO P w D L) ∧ (∀ p ∈ L, H' p.1 = some (.tup (IL p.2)) ∧ p.2 ≠ []) ∧ L.length ≤ i + 1 ∧ (∀ k, k ∈ L.map (·.2) ↔ ∃ j : Nat, j < i + 1 ∧ ringF ns (j : Int) = k), fun H' h => ⟨m - 1, by omega, h⟩, fun x H' y => ?_⟩
        obtain ⟨rfl, rfl⟩ := y
        refine ⟨rfl, .ref a, rfl, .int (0 + i), rfl, a, 0 + i, ns, rfl, hS3, lo, by omega, by omega, by omega, fun H4 r s4 nr hr4 ne => ?_⟩
        rw [Int.zero_add] at hr4 ne
        have hD4 := s4 _ _ hD
        refine ⟨r, ringF ns i, L, rfl, SqT.of hr4, hD4, fun p hp => SqT.of (s4 _ _ (hL p hp).1), by omega, fun L' c1 c2 => ?_⟩
        have rD : r ≠ D := fun z => by rw [z, hD] at nr; cases nr
        have tupD : ∀ {b : Addr} {xs : List V}, H4 b = some (.tup xs) → b ≠ D := fun {b xs} e z => by rw [z, hD4] at e; cases e
        have both : (∀ p ∈ L', p = (r, ringF ns i) ∨ p ∈ L) ∧ L'.length ≤ L.length + 1 ∧ (∀ k, k ∈ L'.map (·.2) ↔ k = ringF ns i ∨ k ∈ L.map (·.2)) := by
          by_cases c : ringF ns i ∈ L.map (·.2)
          · rw [c1 c]
            refine ⟨fun p hp => .inr hp, Nat.le_succ _, fun k => ⟨.inr, fun h => h.elim (fun e => e ▸ c) id⟩⟩
          · have pm := c2 c
            refine ⟨fun p hp => List.mem_cons.mp (pm.mem_iff.mp hp), by rw [pm.length_eq]; exact Nat.le_refl _, fun k => ?_⟩
            rw [(pm.map (·.2)).mem_iff, List.map_cons, List.mem_cons]
        refine ⟨L', by omega, fun b o nb e => ?_, upd_same, fun p hp => ?_, by omega, fun k => ?_⟩
        · rw [upd_ne nb]; exact s4 _ _ (keep b o nb e)
        · rcases both.1 p hp with e | e
          · rw [e]
            exact ⟨by rw [upd_ne rD]; exact hr4, ne⟩
          · have := s4 _ _ (hL p e).1
            exact ⟨by rw [upd_ne (tupD this)]; exact this, (hL p e).2⟩
        · rw [both.2.2 k, mem k]
          constructor
          · rintro (e | ⟨j, hj, e⟩)
            · exact ⟨i, by omega, e.symm⟩
            · exact ⟨j, by omega, e⟩
          · rintro ⟨j, hj, e⟩
            by_cases z : j = i
            · subst z; exact .inl e.symm
            · exact .inr ⟨j, by omega, e⟩
      · have ei : i = ns.length := by omega
        refine .inl ⟨by show ((ns.length : Int)).toNat ≤ i; omega, D, L, rfl, hD, fun p hp => ⟨SqT.of (hL p hp).1, (hL p hp).2⟩, fun L' r pm rk nd nr => ?_⟩
        have same : Same H (upd H3 r (.lst (RL L'))) := fun b o e => by
          have := keep b o (fun z => by rw [z, nD] at e; cases e) e
          exact upd_keep this nr
        refine q _ r L' same ?_ upd_same (fun p hp => upd_keep (hL p (pm.mem_iff.mp hp)).1 nr) ⟨nd, List.pairwise_map.mpr rk, fun k => ?_⟩
        · cases z : H r with
          | none => rfl
          | some o =>
            by_cases rD : r = D
            · rw [rD, hD] at nr; cases nr
            · rw [keep r o rD z] at nr; cases nr
        · rw [(pm.map (·.2)).mem_iff, mem k, ei]
end
end Lp


namespace Lp
open PySem PySem.Spec PyProof.Rows L2
/-! ### lists of int tuples as data -/
abbrev dTs (ls : List (List Int)) : List PyData := ls.map fun l => PyData.tuple (dI l)
theorem lay_Ts : ∀ ls : List (List Int), PyData.canLayAll0 (dTs ls) = true
  | [] => by simp [PyData.canLayAll0]
  | x :: r => by
    have := lay_Ts r
    simp only [List.map_cons, PyData.canLayAll0, PyData.canLay0, lay_ints, this, Bool.and_self]
theorem depth_Ts : ∀ ls : List (List Int), PyData.depthAll (dTs ls) ≤ 1
  | [] => by simp [PyData.depthAll]
  | x :: r => by
    have h : PyData.depthAll (List.map (fun l => PyData.tuple (dI l)) r) ≤ 1 := depth_Ts r
    simp only [List.map_cons, PyData.depthAll, PyData.depth, depth_ints]
    omega
theorem shTs (ls : List (List Int)) : SeqAt.shaped (.list (dTs ls)) = true := by
  unfold SeqAt.shaped
  have h : PyData.depthAll (List.map (fun l => PyData.tuple (dI l)) ls) ≤ 1 := depth_Ts ls
  have h2 : PyData.canLayAll0 (List.map (fun l => PyData.tuple (dI l)) ls) = true := lay_Ts ls
  simp only [PyData.canLay0, PyData.depth, h2, Bool.true_and]
  exact decide_eq_true (Nat.le_trans (Nat.add_le_add_right h 1) (show 1 + 1 ≤ 64 by decide))
theorem eqv_Ts : ∀ a b : List (List Int), PyData.eqvAll (dTs a) (dTs b) = decide (a = b)
  | [], [] => by simp [PyData.eqvAll]
  | [], _ :: _ => by simp [PyData.eqvAll]
  | _ :: _, [] => by simp [PyData.eqvAll]
  | x :: r, y :: t => by
    have ih := eqv_Ts r t
    simp only [List.map_cons, PyData.eqvAll, ih, eqvT]
    by_cases h : x = y
    · subst h
      by_cases h2 : r = t
      · subst h2; simp
      · simp [h2]
    · simp [h]
theorem eqvTs (a b : List (List Int)) : PyData.eqv (.list (dTs a)) (.list (dTs b)) = decide (a = b) := by
  simp only [PyData.eqv]; exact eqv_Ts a b
theorem dp_Ts {K : PySem.W.Frag} {H : Hp} : ∀ L : List (Addr × List Int), (∀ p ∈ L, H p.1 = some (.tup (IL p.2))) → DpAll K H (RL L) (dTs (L.map (·.2)))
  | [], _ => .nil
  | p :: L, h => .cons (.tup (SqT.of (h p List.mem_cons_self)) (dp_ints p.2)) (dp_Ts L fun q hq => h q (List.mem_cons_of_mem _ hq))
/-- the ints a .. b - 1 -/
def rgI (a b : Int) : List Int := (List.range (b - a).toNat).map fun i : Nat => a + (i : Int)
theorem rgV_eq (a b : Int) : rgV a b = IL (rgI a b) := by
  unfold rgV rgI
  show _ = List.map V.int (List.map _ _)
  rw [List.map_map]; rfl
theorem rgI_len (a b : Int) : (rgI a b).length = (b - a).toNat := by unfold rgI; rw [List.length_map, List.length_range]
theorem rep_flat (k : Nat) (z : V) : (List.replicate k [z]).flatten = List.replicate k z := by
  induction k with
  | zero => rfl
  | succ k ih => rw [List.replicate_succ, List.flatten_cons, ih, List.replicate_succ]; rfl
theorem rep_IL (k : Nat) (z : Int) : (List.replicate k [V.int z]).flatten = IL (List.replicate k z) := by
  rw [rep_flat]
  show _ = List.map V.int _
  rw [List.map_replicate]
theorem IL_cat (a b : List Int) : IL a ++ IL b = IL (a ++ b) := by
  show List.map _ _ ++ List.map _ _ = List.map _ _
  rw [List.map_append]
end Lp


namespace Lp
open PySem PySem.Spec PyProof.Rows L2
/-! ### the theory of rings -/
theorem itr_add (ns : List Int) (p : Int) (a : Nat) : ∀ b, itr ns p (a + b) = itr ns (itr ns p a) b
  | 0 => rfl
  | b + 1 => congrArg (gt ns) (itr_add ns p a b)
theorem itrs_cat (ns : List Int) (p : Int) (a : Nat) : ∀ b, itrs ns p (a + b) = itrs ns p a ++ itrs ns (itr ns p a) b
  | 0 => (List.append_nil _).symm
  | b + 1 => by
    rw [← Nat.add_assoc, itrs_succ, itrs_cat ns p a b, itrs_succ, itr_add, List.append_assoc]
def Cyc (ns : List Int) (q : Int) (c : Nat) : Prop := 0 < c ∧ itr ns q c = q ∧ (itrs ns q c).Nodup
theorem Cyc.cut {ns : List Int} {q : Int} {c j : Nat} (h : j ≤ c) : (itrs ns q c).drop j = itrs ns (itr ns q j) (c - j) ∧ (itrs ns q c).take j = itrs ns q j := by
  obtain ⟨d, rfl⟩ : ∃ d, c = j + d := ⟨c - j, by omega⟩
  rw [itrs_cat, Nat.add_sub_cancel_left]
  have l := itrs_len ns q j
  constructor
  · conv => lhs; arg 1; rw [← l]
    rw [List.drop_left]
  · conv => lhs; arg 1; rw [← l]
    rw [List.take_left]
theorem Cyc.turn {ns : List Int} {q : Int} {c j : Nat} (x : Cyc ns q c) (h : j ≤ c) : itrs ns (itr ns q j) c = (itrs ns q c).drop j ++ (itrs ns q c).take j := by
  rw [(Cyc.cut h).1, (Cyc.cut h).2]
  have e : itrs ns (itr ns q j) c = itrs ns (itr ns q j) ((c - j) + j) := by congr 1; omega
  rw [e, itrs_cat, ← itr_add]
  have e2 : j + (c - j) = c := by omega
  rw [e2, x.2.1]
theorem Cyc.all {ns : List Int} {q : Int} {c : Nat} (x : Cyc ns q c) (t : Nat) : itr ns q t ∈ itrs ns q c := by
  have := itr_mod (ns := ns) (p := q) (b := 0) (d := c) x.1 (by rw [Nat.zero_add]; exact x.2.1) t
  rw [Nat.zero_add, Nat.zero_add] at this
  rw [this]
  exact itrs_mem.mpr ⟨t % c, Nat.mod_lt _ x.1, rfl⟩
theorem Cyc.at {ns : List Int} {q z : Int} {c : Nat} (x : Cyc ns q c) (h : z ∈ itrs ns q c) : Cyc ns z c ∧ ∀ y, y ∈ itrs ns z c ↔ y ∈ itrs ns q c := by
  obtain ⟨j, hj, rfl⟩ := itrs_mem.mp h
  have t := x.turn (j := j) (by omega)
  have pm : (itrs ns (itr ns q j) c).Perm (itrs ns q c) := by
    rw [t]
    have := List.perm_append_comm (l₁ := (itrs ns q c).drop j) (l₂ := (itrs ns q c).take j)
    rw [List.take_append_drop] at this
    exact this
  refine ⟨⟨x.1, ?_, pm.nodup_iff.mpr x.2.2⟩, fun y => pm.mem_iff⟩
  rw [← itr_add, Nat.add_comm, itr_add, x.2.1]
theorem Cyc.uniq {ns : List Int} {z : Int} {c d : Nat} (x : Cyc ns z c) (y : Cyc ns z d) : c = d := by
  rcases Nat.lt_trichotomy c d with h | h | h
  · have := itrs_apart y.2.2 (i := 0) (j := c) y.1 h x.2.1.symm
    have := x.1; omega
  · exact h
  · have := itrs_apart x.2.2 (i := 0) (j := d) x.1 h y.2.1.symm
    have := y.1; omega
theorem itrs_ne {ns : List Int} {q : Int} {c : Nat} (h : 0 < c) : itrs ns q c ≠ [] := fun e => by
  have := itrs_len ns q c
  rw [e] at this
  simp at this; omega
theorem Cyc.turnF {ns : List Int} {q : Int} {c : Nat} (x : Cyc ns q c) : turnF (itrs ns q c) = itrs ns (minF (itrs ns q c)) c := by
  have m := minF_ok (itrs_ne (ns := ns) (q := q) x.1)
  have il := List.idxOf_lt_length_of_mem m.1
  have g := idx_get m.1
  unfold Lp.turnF
  generalize hj : (itrs ns q c).idxOf (minF (itrs ns q c)) = j at il g
  rw [itrs_len] at il
  rw [itrs_get il] at g
  rw [← Option.some.inj g, x.turn (by omega)]
theorem Cyc.same {ns : List Int} {q r z : Int} {c d : Nat} (x : Cyc ns q c) (y : Cyc ns r d) (h1 : z ∈ itrs ns q c) (h2 : z ∈ itrs ns r d) : Lp.turnF (itrs ns q c) = Lp.turnF (itrs ns r d) := by
  have a := x.at h1
  have b := y.at h2
  have e := a.1.uniq b.1
  subst e
  rw [x.turnF, y.turnF]
  have m1 := minF_ok (itrs_ne (ns := ns) (q := q) x.1)
  have m2 := minF_ok (itrs_ne (ns := ns) (q := r) x.1)
  have := m1.2 _ ((a.2 _).mp ((b.2 _).mpr m2.1))
  have := m2.2 _ ((b.2 _).mp ((a.2 _).mpr m1.1))
  have e : minF (itrs ns q c) = minF (itrs ns r c) := by omega
  rw [e]
theorem ringF_cyc {ns : List Int} (lo : Low ns.length ns) {p : Int} (p0 : 0 ≤ p) (p1 : p < (ns.length : Int)) : ∃ c, Cyc ns (itr ns p (heightF ns p)) c ∧ ringF ns p = turnF (itrs ns (itr ns p (heightF ns p)) c) ∧ routeF ns p = itrs ns p (heightF ns p + c) := by
  have rt := routeF_ok lo p0 p1
  obtain ⟨L, hrs, nd, hin⟩ := id rt
  rw [hrs] at nd hin
  obtain ⟨b, hb, eb⟩ := itrs_mem.mp hin
  have e := begin_at nd hin hb eb
  have eh : heightF ns p = b := by unfold heightF; rw [hrs]; exact e
  have ct := Cyc.cut (ns := ns) (q := p) (c := L) (j := b) (by omega)
  rw [eh]
  refine ⟨L - b, ⟨by omega, ?_, ?_⟩, ?_, ?_⟩
  · rw [← itr_add]
    have : b + (L - b) = L := by omega
    rw [this, eb]
  · rw [← ct.1]
    exact nd.sublist (List.drop_sublist b _)
  · unfold ringF
    rw [hrs, e, ct.1]
  · rw [hrs]; congr 1; omega
theorem ringF_step {ns : List Int} (lo : Low ns.length ns) {p : Int} (p0 : 0 ≤ p) (p1 : p < (ns.length : Int)) : ringF ns (gt ns p) = ringF ns p := by
  have g := gt_low lo p0 (by omega)
  obtain ⟨c, x, e, _⟩ := ringF_cyc lo p0 p1
  obtain ⟨d, y, e2, _⟩ := ringF_cyc lo g.1 g.2
  rw [e, e2]
  refine y.same x (z := itr ns p (heightF ns p + (heightF ns (gt ns p) + 1))) ?_ ?_
  · have : heightF ns p + (heightF ns (gt ns p) + 1) = (heightF ns (gt ns p) + heightF ns p) + 1 := by omega
    rw [this, itr_succ, itr_add]
    exact y.all _
  · rw [itr_add]
    exact x.all _
theorem ringF_itr {ns : List Int} (lo : Low ns.length ns) {p : Int} (p0 : 0 ≤ p) (p1 : p < (ns.length : Int)) : ∀ k, ringF ns (itr ns p k) = ringF ns p
  | 0 => rfl
  | k + 1 => by
    have l := itr_low lo p0 p1 k
    show ringF ns (gt ns (itr ns p k)) = _
    rw [ringF_step lo l.1 l.2, ringF_itr lo p0 p1 k]
/-- a ring: its least member first, each member pointing at the next one -/
theorem ringF_form {ns : List Int} (lo : Low ns.length ns) {p : Int} (p0 : 0 ≤ p) (p1 : p < (ns.length : Int)) : ∃ m c, ringF ns p = itrs ns m c ∧ Cyc ns m c ∧ (∀ y ∈ ringF ns p, m ≤ y) ∧ 0 ≤ m ∧ m < (ns.length : Int) := by
  obtain ⟨c, x, e, _⟩ := ringF_cyc lo p0 p1
  have m := minF_ok (itrs_ne (ns := ns) (q := itr ns p (heightF ns p)) x.1)
  have a := x.at m.1
  have l := itr_low lo p0 p1 (heightF ns p)
  refine ⟨_, c, e.trans x.turnF, a.1, fun y hy => ?_, ?_⟩
  · rw [e, x.turnF] at hy
    exact m.2 y ((a.2 y).mp hy)
  · obtain ⟨i, _, ei⟩ := itrs_mem.mp m.1
    rw [← ei]
    exact itr_low lo l.1 l.2 i
end Lp


namespace Lp
open PySem PySem.Spec PyProof.Rows L2
/-! ### the mathematics of k09, size by size -/
def lowB (n : Nat) (ns : List Int) : Bool := ns.all fun z => decide (0 ≤ z) && decide (z < (n : Int))
theorem lowB_ok {n : Nat} {ns : List Int} (h : lowB n ns = true) : Low n ns := fun z hz => by
  have := List.all_eq_true.mp h z hz
  simp only [Bool.and_eq_true, decide_eq_true_eq] at this
  exact this
def ring9 (n : Nat) : List Int := rgI 1 n ++ [0]
def word9 (n : Nat) : List Int := List.replicate (n + 1) 0
def aim9 (n t : Nat) : Int := (if (n : Int) < (t : Int) + 1 then (n : Int) else (t : Int) + 1) % (n : Int)
def st9 (n t : Nat) : List Int := aim9 n t :: (ring9 n).drop 1
def lap9 (n t : Nat) : List Int := if 0 < aim9 n t then 0 :: rgI (aim9 n t) n else [0]
def ckA (n : Nat) : Bool := decide ((ring9 n).length = n) && lowB n (ring9 n) && lowB n (word9 n) && decide (idleL (ring9 n) (word9 n) = [(n : Int) - 1, (n : Int)])
def ckB (n t : Nat) : Bool := decide (callAll (ring9 n) ((word9 n).take t) = st9 n t) && decide (0 ≤ aim9 n t) && decide (aim9 n t < (n : Int)) && decide (ringF (st9 n t) 0 = lap9 n t)
def ckC (n t : Nat) : Bool := (List.range (n - 1)).all fun p => decide (gt (st9 n t) ((p : Int) + 1) = if p + 1 = n - 1 then 0 else (p : Int) + 2)
theorem ckA_all : ∀ n, n < 21 → 3 ≤ n → ckA n = true := by decide +kernel
theorem ckB_all : ∀ n, n < 21 → 3 ≤ n → ∀ t, t < n + 2 → ckB n t = true := by decide +kernel
theorem ckC_all : ∀ n, n < 21 → 3 ≤ n → ∀ t, t < n + 2 → ckC n t = true := by decide +kernel
def line9 (n : Nat) : List Int := 0 :: rgI 0 ((n : Int) - 1)
def far9 (n : Nat) : List Int := [0, 0] ++ rgI 0 ((n : Int) - 2)
def ckLine (n : Nat) : Bool := decide ((line9 n).length = n) && decide ((far9 n).length = n) && lowB n (line9 n) && lowB n (far9 n) && lowB n (rgI 0 n) && decide (callAll (line9 n) (rgI 0 n).reverse = far9 n) &&
  decide ((heightF (far9 n) ((n : Int) - 1) : Int) = (n : Int) / 2) && decide ((heightF (line9 n) ((n : Int) - 1) : Int) = (n : Int) - 1) && decide (callAll (line9 n) (rgI 0 n) = List.replicate n 0) && decide (idleL (line9 n) (rgI 0 n) = [0, 1]) &&
  decide (call1 (line9 n) ((n : Int) - 1) = (line9 n).take (n - 1) ++ [if (n : Int) - 3 > 0 then (n : Int) - 3 else 0])
theorem ckLine_all : ∀ n, n < 21 → 3 ≤ n → ckLine n = true := by decide +kernel
end Lp

namespace Lp
open PySem PySem.Spec PyProof.Rows L2
theorem A9 {n : Nat} (h3 : 3 ≤ n) (h20 : n ≤ 20) : (ring9 n).length = n ∧ Low n (ring9 n) ∧ Low n (word9 n) ∧ idleL (ring9 n) (word9 n) = [(n : Int) - 1, (n : Int)] := by
  have h := ckA_all n (by omega) h3
  unfold ckA at h
  simp only [Bool.and_eq_true, decide_eq_true_eq] at h
  exact ⟨h.1.1.1, lowB_ok h.1.1.2, lowB_ok h.1.2, h.2⟩
theorem B9 {n t : Nat} (h3 : 3 ≤ n) (h20 : n ≤ 20) (ht : t < n + 2) : callAll (ring9 n) ((word9 n).take t) = st9 n t ∧ 0 ≤ aim9 n t ∧ aim9 n t < (n : Int) ∧ ringF (st9 n t) 0 = lap9 n t := by
  have h := ckB_all n (by omega) h3 t ht
  unfold ckB at h
  simp only [Bool.and_eq_true, decide_eq_true_eq] at h
  exact ⟨h.1.1.1, h.1.1.2, h.1.2, h.2⟩
theorem C9 {n t : Nat} (h3 : 3 ≤ n) (h20 : n ≤ 20) (ht : t < n + 2) {p : Nat} (hp : p < n - 1) : gt (st9 n t) ((p : Int) + 1) = if p + 1 = n - 1 then 0 else (p : Int) + 2 := by
  have h := ckC_all n (by omega) h3 t ht
  unfold ckC at h
  have := List.all_eq_true.mp h p (List.mem_range.mpr hp)
  exact of_decide_eq_true this
theorem st9_low {n t : Nat} (h3 : 3 ≤ n) (h20 : n ≤ 20) (ht : t < n + 2) : (st9 n t).length = n ∧ Low n (st9 n t) := by
  have a := A9 h3 h20
  have b := B9 h3 h20 ht
  rw [← b.1]
  have l2 : Low (ring9 n).length (ring9 n) := by rw [a.1]; exact a.2.1
  have l3 := callAll_low _ _ a.2.1 a.1 (a.2.2.1.take t)
  exact ⟨(callAll_len _ _).trans a.1, l3⟩
theorem all9 {n t : Nat} (h3 : 3 ≤ n) (h20 : n ≤ 20) (ht : t < n + 2) : ∀ k, k < n - 1 → ringF (st9 n t) ((n - 1 - k : Nat) : Int) = lap9 n t := by
  obtain ⟨sl, lo⟩ := st9_low h3 h20 ht
  have lo' : Low (st9 n t).length (st9 n t) := by rw [sl]; exact lo
  intro k
  induction k with
  | zero =>
    intro hk
    have g := C9 h3 h20 ht (p := n - 2) (by omega)
    rw [if_pos (by omega)] at g
    have e : ((n - 2 : Nat) : Int) + 1 = ((n - 1 - 0 : Nat) : Int) := by omega
    rw [e] at g
    rw [← ringF_step lo' (by omega) (by rw [sl]; omega), g]
    exact (B9 h3 h20 ht).2.2.2
  | succ k ih =>
    intro hk
    have g := C9 h3 h20 ht (p := n - 1 - (k + 1) - 1) (by omega)
    rw [if_neg (by omega)] at g
    have e : ((n - 1 - (k + 1) - 1 : Nat) : Int) + 1 = ((n - 1 - (k + 1) : Nat) : Int) := by omega
    have e2 : ((n - 1 - (k + 1) - 1 : Nat) : Int) + 2 = ((n - 1 - k : Nat) : Int) := by omega
    rw [e, e2] at g
    rw [← ringF_step lo' (by omega) (by rw [sl]; omega), g]
    exact ih (by omega)
theorem rings9 {n t : Nat} (h3 : 3 ≤ n) (h20 : n ≤ 20) (ht : t < n + 2) : RingsOf (st9 n t) [lap9 n t] := by
  obtain ⟨sl, lo⟩ := st9_low h3 h20 ht
  refine ⟨List.nodup_cons.mpr ⟨List.not_mem_nil, List.nodup_nil⟩, List.pairwise_singleton _ _, fun k => ?_⟩
  rw [List.mem_singleton, sl]
  constructor
  · rintro rfl
    exact ⟨0, by omega, (B9 h3 h20 ht).2.2.2⟩
  · rintro ⟨j, hj, rfl⟩
    by_cases z : j = 0
    · subst z; exact (B9 h3 h20 ht).2.2.2
    · have := all9 h3 h20 ht (n - 1 - j) (by omega)
      have e : n - 1 - (n - 1 - j) = j := by omega
      rw [e] at this; exact this
theorem L9 {n : Nat} (h3 : 3 ≤ n) (h20 : n ≤ 20) : (line9 n).length = n ∧ (far9 n).length = n ∧ Low n (line9 n) ∧ Low n (far9 n) ∧ Low n (rgI 0 n) ∧ callAll (line9 n) (rgI 0 n).reverse = far9 n ∧
    (heightF (far9 n) ((n : Int) - 1) : Int) = (n : Int) / 2 ∧ (heightF (line9 n) ((n : Int) - 1) : Int) = (n : Int) - 1 ∧ callAll (line9 n) (rgI 0 n) = List.replicate n 0 ∧ idleL (line9 n) (rgI 0 n) = [0, 1] ∧
    call1 (line9 n) ((n : Int) - 1) = (line9 n).take (n - 1) ++ [if (n : Int) - 3 > 0 then (n : Int) - 3 else 0] := by
  have h := ckLine_all n (by omega) h3
  unfold ckLine at h
  simp only [Bool.and_eq_true, decide_eq_true_eq] at h
  obtain ⟨⟨⟨⟨⟨⟨⟨⟨⟨⟨h1, h2⟩, h4⟩, h5⟩, h6⟩, h7⟩, h8⟩, h9⟩, h10⟩, h11⟩, h12⟩ := h
  exact ⟨h1, h2, lowB_ok h4, lowB_ok h5, lowB_ok h6, h7, h8, h9, h10, h11, h12⟩
theorem Low.rev {n : Nat} {ns : List Int} (h : Low n ns) : Low n ns.reverse := fun z hz => h z (List.mem_reverse.mp hz)
section
variable {P : Program} {w : World} {K : PySem.W.Frag} {mg : Str → Option Value} {base : Heap}
/-! ### _law_ring_right -/
abbrev sRingR : Stmt := topS 21
abbrev nRingR : List Str := ["_law_size", "_law_here", "_law_along", "_law_turn", "_law_there", "_law_aim", "_law_lap"]
theorem scRingR : FnScope nRingR ["_law_size"] (defScope sRingR) := ⟨rfl, rfl, rfl, by decide +kernel, rfl, by decide +kernel, by decide +kernel⟩
def spSize : Sp := fun vs H Q _ => ∃ (n : Nat), vs = [.int n] ∧ 3 ≤ n ∧ n ≤ 20 ∧ ∀ H', Same H H' → Q (.bl true) H'
theorem ok_ringR {f fS fR fI fE : Addr} {fd fdS fdR fdI fdE : FuncData} (F : Fun K "_law_ring_right" "_law_ring_right" sRingR f fd) (B : Bi mg)
    (S : Cal P w K mg base "states_along" 7 ["state", "word"] spAlong fS fdS) (R : Cal P w K mg base "rings" 7 ["state"] spRings fR fdR)
    (I : Cal P w K mg base "idle_calls" 7 ["state", "word"] spIdle fI fdI) (M : Cal P w K mg base "_law_same" 7 psSame (spSame 3) fE fdE) : FnOk P w K mg base CX0 8 f fd ["_law_size"] spSize := by
  refine F.ok scRingR (fun vs H Q E h => ?_) (fun cdv A outer s H vs Q E hr h => ?_)
  · obtain ⟨n, rfl, _⟩ := h
    rfl
  · obtain ⟨n, rfl, h3, h20, q⟩ := h
    refine ⟨_, pss_cons (ps_set (i := 1) scRingR.nd rfl (.inl rfl) (pe_callTy call_tuple_of (by rfl) B.tuple (by decide +kernel) (pa_cons (pe_op op_cat (pe_listRg (by rfl) (by rfl) B.list (prg_2 (by rfl) B.range pe_int (pv 0))) (pe_lst (pa_cons pe_int pa_nil))) pa_nil)))
      (pss_cons (ps_set (i := 2) scRingR.nd rfl (.inl rfl) (pe_call S.ok hr (by rfl) S.g S.kp S.bd .nil pass0 (pa_cons (pv 1) (pa_cons (pe_op op_rep (pe_lst (pa_cons pe_int pa_nil)) (pe_op op_add (pv 0) pe_int)) pa_nil))))
      (C8.pss_cut (ps_for PassesOwn.never rfl (pi_enum (by rfl) B.enumerate (pa_cons (pv 2) pa_nil)) (pg_tup rfl (pgs_cons (pg_name (i := 3) scRingR.nd rfl (.inl rfl)) (pgs_cons (pg_name (i := 4) scRingR.nd rfl (.inl rfl)) pgs_nil)))
        (pss_cons (ps_set (i := 5) scRingR.nd rfl (.inl rfl) (pe_op op_mod (pe_callB (call_min2 rfl) (by rfl) B.min (by decide +kernel) (pa_cons (pe_op op_add (pv 3) pe_int) (pa_cons (pv 0) pa_nil))) (pv 0)))
        (pss_cons (ps_if (pt_cmpR (op_neD hr.units) (pv 4) (pe_op op_catA (pe_tup (pa_cons (pv 5) pa_nil)) (pe_slice sl_tupA (pv 1) (po_some pe_int) po_none)) (nomark _)) pss_never pss_nil)
        (C8.pss_cut (ps_set (i := 6) scRingR.nd rfl (.inl rfl) (pe_ifExp (pt_cmpR op_gt (pv 5) pe_int (nomark _)) (pe_op op_catA (pe_tup (pa_cons pe_int pa_nil)) (pe_tupRg (by rfl) (by rfl) B.tuple (prg_2 (by rfl) B.range (pv 5) (pv 0)))) (pe_tup (pa_cons pe_int pa_nil))))
        (pss_one (ps_if (pt_cmpR (op_neD hr.units) (pe_call R.ok hr (by rfl) R.g R.kp R.bd .nil pass0 (pa_cons (pv 4) pa_nil)) (pe_lst (pa_cons (pv 6) pa_nil)) (nomark _)) pss_never pss_nil))))))
      (pss_one (ps_ret (pe_call M.ok hr (by rfl) M.g M.kp M.bd .nil pass0 (pa_cons (pe_lst (pa_cons (pe_callB call_len_seq (by rfl) B.len PySem.boot_len (pa_cons (pv 2) pa_nil)) (pa_cons (pe_call I.ok hr (by rfl) I.g I.kp I.bd .nil pass0 (pa_cons (pv 1) (pa_cons (pe_op op_rep (pe_lst (pa_cons pe_int pa_nil)) (pe_op op_add (pv 0) pe_int)) pa_nil))) pa_nil)))
        (pa_cons (pe_lst (pa_cons (pe_op op_add (pv 0) pe_int) (pa_cons (pe_lst (pa_cons (pe_op op_sub (pv 0) pe_int) (pa_cons (pv 0) pa_nil))) pa_nil))) pa_nil))))))), ?_⟩
    obtain ⟨a1, a2, a3, a4⟩ := A9 h3 h20
    -- here
    refine ⟨.int n, rfl, 1, n, rfl, rfl, RgOk.of_le (by decide) (by omega) (by decide) (by omega), fun p1 np1 => ?_⟩
    refine ⟨(by show 1 ≤ sizeLine; decide), fun p2 np2 => ?_⟩
    have hp1 := upd_keep (upd_same (H := H) (a := p1) (o := .lst (rgV 1 n))) np2 (u := .lst [.int 0])
    refine ⟨p1, p2, _, _, rfl, rfl, hp1, upd_same, ?_, fun p3 np3 => ?_⟩
    · rw [rgV_length]; exact sz (by show _ + 1 ≤ _; omega)
    refine ⟨p3, _, rfl, .inl ⟨SqL.of upd_same, fun h nh => ?_⟩⟩
    have eh : rgV 1 n ++ [V.int 0] = IL (ring9 n) := by rw [rgV_eq, IL_app]; rfl
    rw [eh] at nh ⊢
    generalize hH1 : upd (upd (upd (upd H p1 (.lst (rgV 1 n))) p2 (.lst [.int 0])) p3 (.lst (IL (ring9 n)))) h (.tup (IL (ring9 n))) = H1
    have s1 : Same H H1 := by
      rw [← hH1]
      exact (((same_new np1).trans (same_new np2)).trans (same_new np3)).trans (same_new nh)
    have hh1 : H1 h = some (.tup (IL (ring9 n))) := by rw [← hH1]; exact upd_same
    -- along
    refine ⟨.ref h, rfl, (by show 1 ≤ sizeLine; decide), fun p4 np4 => ⟨.int n, rfl, n, 1, rfl, rfl, p4, _, _, rfl, rfl, upd_same, by omega, by omega, ?_, fun p5 np5 => ?_⟩⟩
    · exact sz (by show 1 * ((n : Int) + 1).toNat ≤ _; omega)
    have e5 : (List.replicate ((n : Int) + 1).toNat [V.int 0]).flatten = IL (word9 n) := by
      have : ((n : Int) + 1).toNat = n + 1 := by omega
      rw [this, rep_IL]; rfl
    rw [e5]
    have s5 := (same_new (o := .lst [V.int 0]) np4).trans (same_new (o := .lst (IL (word9 n))) np5)
    refine ⟨h, p5, ring9 n, word9 n, rfl, .inr (s5 _ _ hh1), .inl upd_same, by rw [a1]; exact a2, by rw [a1]; exact a3, by unfold word9; rw [List.length_replicate]; omega, fun H2 aA rs s2 na ha al => ?_⟩
    have wl : (word9 n).length + 1 = n + 2 := by unfold word9; rw [List.length_replicate]
    rw [wl] at al
    have hh2 := s2 _ _ (s5 _ _ hh1)
    have s12 : Same H H2 := (s1.trans s5).trans s2
    -- for turn, there in enumerate(along)
    refine ⟨fun σ H3 => ∃ y3 y4 y5 y6, σ = [some (.int n), some (.ref h), some (.ref aA), y3, y4, y5, y6] ∧ Same H2 H3, ?_, ?_⟩
    · refine ⟨.ref aA, rfl, aA, _, rfl, SqL.of ha, ?_⟩
      refine for_it (walk_enum (K := K) (a := aA) (xs := rs.map V.ref)) (fun j σ H3 => ∃ y3 y4 y5 y6, σ = [some (.int n), some (.ref h), some (.ref aA), y3, y4, y5, y6] ∧ Same H2 H3) ?_ ?_ ?_ ?_
      · exact ⟨none, none, none, none, rfl, Same.refl _⟩
      · rintro j σ H3 _ ⟨_, _, _, _, rfl, s3⟩; exact SqL.of (s3 _ _ ha)
      · rintro j x σ H3 H4 hj ⟨z3, z4, z5, z6, rfl, s3⟩ ⟨pT, x1, x2, rfl, nT, rfl, hx1, hx2⟩
        cases hx1
        have hj' : j < rs.length := by rw [List.length_map] at hj; exact hj
        have hjn : j < n + 2 := by rw [al.1] at hj'; exact hj'
        dsimp only at hx2
        rw [List.getElem?_map, List.getElem?_eq_getElem hj'] at hx2
        have ex2 : x2 = V.ref rs[j] := (Option.some.inj hx2).symm
        subst ex2
        have hr2 := al.2 j _ (List.getElem?_eq_getElem hj')
        obtain ⟨b1, b2, b3, b4⟩ := B9 h3 h20 hjn
        obtain ⟨c1, c2⟩ := st9_low h3 h20 hjn
        rw [b1] at hr2
        have sT := s3.trans (same_new (o := .tup [V.int (j : Nat), V.ref rs[j]]) nT)
        generalize hH4 : upd H3 pT (.tup [V.int (j : Nat), V.ref rs[j]]) = H4 at sT
        refine ⟨pT, _, rfl, SqT.of (by rw [← hH4]; exact upd_same), rfl, _, _, rfl, _, _, rfl, rfl, ?_⟩
        refine ⟨.int j, rfl, j, 1, rfl, rfl, .int n, rfl, _, _, rfl, .int n, rfl, _, _, rfl, rfl, by omega, ?_⟩
        -- there != (aim,) + here[1:]
        refine ⟨.ref rs[j], rfl, .int (aim9 n j), rfl, (by show 1 ≤ sizeLine; decide), fun p6 np6 => ⟨.ref h, rfl, _, rfl, ?_⟩⟩
        have s6 := same_new (o := .tup [V.int (aim9 n j)]) np6
        refine slA_np (s6 _ _ (sT _ _ hh2)) fun p7 H7 s7 hp7 => ?_
        rw [show (1 : Int) = ((1 : Nat) : Int) from rfl, cut_from (by rw [a1]; omega)] at hp7
        refine catA_of (s7 _ _ upd_same) hp7 ?_ fun p8 H8 s8 hp8 => ?_
        · rw [List.length_map, List.length_drop, a1]; exact sz (by show 1 + _ ≤ _; omega)
        have e8 : [V.int (aim9 n j)] ++ IL ((ring9 n).drop 1) = IL (st9 n j) := rfl
        rw [e8] at hp8
        have sT8 := ((sT.trans s6).trans s7).trans s8
        have hr8 := sT8 _ _ hr2
        refine ⟨.tuple (dI (st9 n j)), .tuple (dI (st9 n j)), .tup (SqT.of hr8) (dp_ints _), .tup (SqT.of hp8) (dp_ints _), shT _, shT _, _, rfl, ?_⟩
        rw [eqvT, decide_eq_true rfl]
        refine iteF ?_
        -- lap
        refine ⟨fun σ H9 => ∃ p9, σ = [some (.int n), some (.ref h), some (.ref aA), some (.int j), some (.ref rs[j]), some (.int (aim9 n j)), some (.ref p9)] ∧ Same H8 H9 ∧ H9 p9 = some (.tup (IL (lap9 n j))), ?_, ?_⟩
        · refine ⟨.int (aim9 n j), rfl, _, 0, rfl, rfl, _, rfl, ite2 (fun e => ?_) (fun e => ?_)⟩
          · have e1 : 0 < aim9 n j := of_decide_eq_true e
            refine ⟨(by show 1 ≤ sizeLine; decide), fun p9 np9 => ⟨.int (aim9 n j), rfl, .int n, rfl, _, _, rfl, rfl, RgOk.of_le b2 (by omega) (by omega) (by omega), fun pA npA => ?_⟩⟩
            refine catA_of (upd_keep upd_same npA) upd_same ?_ fun pB HB sB hpB => ?_
            · rw [rgV_length]; exact sz (by show 1 + _ ≤ _; omega)
            refine ⟨pB, rfl, ((same_new np9).trans (same_new npA)).trans sB, ?_⟩
            rw [hpB, rgV_eq]
            unfold lap9
            rw [if_pos e1]; rfl
          · have e1 : ¬ 0 < aim9 n j := fun z => e (decide_eq_true z)
            refine ⟨(by show 1 ≤ sizeLine; decide), fun p9 np9 => ⟨p9, rfl, same_new np9, ?_⟩⟩
            rw [upd_same]
            unfold lap9
            rw [if_neg e1]; rfl
        rintro σ H9 ⟨p9, rfl, s9, hp9⟩
        refine ⟨.ref rs[j], rfl, rs[j], st9 n j, rfl, .inr (s9 _ _ hr8), by rw [c1]; exact c2, by omega, fun HA rA L sA nA hA hL ro => ⟨.ref p9, rfl, (by show 1 ≤ sizeLine; decide), fun pB npB => ?_⟩⟩
        have eL := ro.eq (rings9 h3 h20 hjn)
        have sB := same_new (o := .lst [V.ref p9]) npB
        refine ⟨.list (dTs (L.map (·.2))), .list (dTs [lap9 n j]), .lst (SqL.of (sB _ _ hA)) (dp_Ts L fun p hp => sB _ _ (hL p hp)), .lst (SqL.of upd_same) (.cons (.tup (SqT.of (sB _ _ (sA _ _ hp9))) (dp_ints _)) .nil), shTs _, shTs _, _, rfl, ?_⟩
        rw [eqvTs, decide_eq_true eL]
        exact iteF ⟨_, _, _, _, rfl, ((sT8.trans s9).trans sA).trans sB⟩
      · rintro σ H3 ⟨z3, z4, z5, z6, rfl, s3⟩
        exact ⟨z3, z4, z5, z6, rfl, s3⟩
    rintro σ H3 ⟨z3, z4, z5, z6, rfl, s3⟩
    have ha3 := s3 _ _ ha
    refine ⟨.ref aA, rfl, aA, _, rfl, .inl (SqL.of ha3), .ref h, rfl, (by show 1 ≤ sizeLine; decide), fun p4 np4 => ⟨.int n, rfl, n, 1, rfl, rfl, p4, _, _, rfl, rfl, upd_same, by omega, by omega, ?_, fun p5 np5 => ?_⟩⟩
    · exact sz (by show 1 * ((n : Int) + 1).toNat ≤ _; omega)
    rw [e5]
    have s6 := (same_new (o := .lst [V.int 0]) np4).trans (same_new (o := .lst (IL (word9 n))) np5)
    refine ⟨h, p5, ring9 n, word9 n, rfl, .inr (s6 _ _ (s3 _ _ hh2)), .inl upd_same, by rw [a1]; exact a2, by rw [a1]; exact a3, by unfold word9; rw [List.length_replicate]; omega, fun H7 iA s7 ni hi => ?_⟩
    rw [a4] at hi
    refine ⟨(by show 2 ≤ sizeLine; decide), fun p8 np8 => ⟨.int n, rfl, n, 2, rfl, rfl, .int n, rfl, n, 1, rfl, rfl, .int n, rfl, (by show 2 ≤ sizeLine; decide), fun p9 np9 => ⟨(by show 2 ≤ sizeLine; decide), fun pA npA => ?_⟩⟩⟩
    have s89 := (same_new (o := .lst [V.int (n - 1), V.int n]) np9).trans (same_new (o := .lst [V.int (n + 2), V.ref p9]) npA)
    have hl : (rs.map V.ref).length = n + 2 := by rw [List.length_map]; exact al.1
    refine ⟨_, _, rfl, Eqd.pair (s89 _ _ upd_same) upd_same ?_ ?_, fun HZ sZ => q _ ((((((s12.trans s3).trans s6).trans s7).trans (same_new np8)).trans s89).trans sZ)⟩
    · rw [hl]; exact Eqd.int _ _ _
    · exact Eqd.lstI (s89 _ _ (upd_keep hi np8)) (upd_keep upd_same npA) (by show 2 ≤ 10000; decide)
end
end Lp

namespace Lp
open PySem PySem.Spec PyProof.Rows L2
theorem cut_last {ns : List Int} (h : 1 ≤ ns.length) : cutV (IL ns) none (some (-1)) = IL (ns.take (ns.length - 1)) := by
  rw [cut_IL, HT.sIx_none]
  have e : HT.sIx ns.length ns.length (some (-1)) = ns.length - 1 := by
    unfold HT.sIx
    dsimp only
    rw [if_pos (by decide)]; omega
  rw [e, List.drop_zero, Nat.sub_zero]
theorem rgI_line (n : Nat) : [V.int 0] ++ rgV 0 ((n : Int) - 1) = IL (line9 n) := by rw [rgV_eq]; rfl
theorem rgI_far (n : Nat) : [V.int 0, V.int 0] ++ rgV 0 ((n : Int) - 2) = IL (far9 n) := by
  rw [rgV_eq]
  show IL [0, 0] ++ _ = _
  rw [IL_cat]; rfl
section
variable {P : Program} {w : World} {K : PySem.W.Frag} {mg : Str → Option Value} {base : Heap}
/-! ### _law_line_right -/
abbrev sLineR : Stmt := topS 22
abbrev nLineR : List Str := ["_law_size", "_law_here", "_law_far_first", "_law_near_first"]
theorem scLineR : FnScope nLineR ["_law_size"] (defScope sLineR) := ⟨rfl, rfl, rfl, by decide +kernel, rfl, by decide +kernel, by decide +kernel⟩
theorem ok_lineR {f fA fH fI fL fE : Addr} {fd fdA fdH fdI fdL fdE : FuncData} (F : Fun K "_law_line_right" "_law_line_right" sLineR f fd) (B : Bi mg)
    (A' : Cal P w K mg base "called_all" 7 ["state", "word"] spCalledA fA fdA) (G : Cal P w K mg base "height" 7 ["state", "person"] spHeight fH fdH)
    (I : Cal P w K mg base "idle_calls" 7 ["state", "word"] spIdle fI fdI) (L : Cal P w K mg base "called" 7 ["state", "person"] spCalled fL fdL) (M : Cal P w K mg base "_law_same" 7 psSame (spSame 3) fE fdE) : FnOk P w K mg base CX0 8 f fd ["_law_size"] spSize := by
  refine F.ok scLineR (fun vs H Q E h => ?_) (fun cdv A outer s H vs Q E hr h => ?_)
  · obtain ⟨n, rfl, _⟩ := h
    rfl
  · obtain ⟨n, rfl, h3, h20, q⟩ := h
    refine ⟨_, C8.pss_cut (ps_set (i := 1) scLineR.nd rfl (.inl rfl) (pe_callTy call_tuple_of (by rfl) B.tuple (by decide +kernel) (pa_cons (pe_op op_cat (pe_lst (pa_cons pe_int pa_nil)) (pe_listRg (by rfl) (by rfl) B.list (prg_1 (by rfl) B.range (pe_op op_sub (pv 0) pe_int)))) pa_nil)))
      (C8.pss_cut (ps_set (i := 2) scLineR.nd rfl (.inl rfl) (pe_call A'.ok hr (by rfl) A'.g A'.kp A'.bd .nil pass0 (pa_cons (pv 1) (pa_cons (pe_revL (pe_listRg (by rfl) (by rfl) B.list (prg_1 (by rfl) B.range (pv 0)))) pa_nil))))
      (C8.pss_cut (ps_if (pt_cmpR (op_neD hr.units) (pv 2) (pe_callTy call_tuple_of (by rfl) B.tuple (by decide +kernel) (pa_cons (pe_op op_cat (pe_lst (pa_cons pe_int (pa_cons pe_int pa_nil))) (pe_listRg (by rfl) (by rfl) B.list (prg_1 (by rfl) B.range (pe_op op_sub (pv 0) pe_int)))) pa_nil)) (nomark _)) pss_never pss_nil)
      (C8.pss_cut (ps_if (pt_not (pt_val (pe_call M.ok hr (by rfl) M.g M.kp M.bd .nil pass0 (pa_cons (pe_lst (pa_cons (pe_call G.ok hr (by rfl) G.g G.kp G.bd .nil pass0 (pa_cons (pv 2) (pa_cons (pe_op op_sub (pv 0) pe_int) pa_nil))) (pa_cons (pe_call G.ok hr (by rfl) G.g G.kp G.bd .nil pass0 (pa_cons (pv 1) (pa_cons (pe_op op_sub (pv 0) pe_int) pa_nil))) pa_nil)))
          (pa_cons (pe_lst (pa_cons (pe_op op_fdiv (pv 0) pe_int) (pa_cons (pe_op op_sub (pv 0) pe_int) pa_nil))) pa_nil))))) pss_never pss_nil)
      (C8.pss_cut (ps_set (i := 3) scLineR.nd rfl (.inl rfl) (pe_call A'.ok hr (by rfl) A'.g A'.kp A'.bd .nil pass0 (pa_cons (pv 1) (pa_cons (pe_listRg (by rfl) (by rfl) B.list (prg_1 (by rfl) B.range (pv 0))) pa_nil))))
      (C8.pss_cut (ps_if (pt_not (pt_val (pe_call M.ok hr (by rfl) M.g M.kp M.bd .nil pass0 (pa_cons (pe_lst (pa_cons (pv 3) (pa_cons (pe_call I.ok hr (by rfl) I.g I.kp I.bd .nil pass0 (pa_cons (pv 1) (pa_cons (pe_listRg (by rfl) (by rfl) B.list (prg_1 (by rfl) B.range (pv 0))) pa_nil))) pa_nil)))
          (pa_cons (pe_lst (pa_cons (pe_op op_repT (pe_tup (pa_cons pe_int pa_nil)) (pv 0)) (pa_cons (pe_lst (pa_cons pe_int (pa_cons pe_int pa_nil))) pa_nil))) pa_nil))))) pss_never pss_nil)
      (pss_one (ps_ret (pe_call M.ok hr (by rfl) M.g M.kp M.bd .nil pass0 (pa_cons (pe_call L.ok hr (by rfl) L.g L.kp L.bd .nil pass0 (pa_cons (pv 1) (pa_cons (pe_op op_sub (pv 0) pe_int) pa_nil)))
          (pa_cons (pe_op op_catA (pe_slice sl_tupA (pv 1) po_none (po_some (pe_un un_neg pe_int))) (pe_tup (pa_cons (pe_callB (call_max2 rfl) (by rfl) B.max (by decide +kernel) (pa_cons pe_int (pa_cons (pe_op op_sub (pv 0) pe_int) pa_nil))) pa_nil))) pa_nil)))))))))), ?_⟩
    obtain ⟨l1, l2, l3, l4, l5, l6, l7, l8, l9, l10, l11⟩ := L9 h3 h20
    -- here
    refine ⟨fun σ H1 => ∃ h, σ = [some (.int n), some (.ref h), none, none] ∧ Same H H1 ∧ H1 h = some (.tup (IL (line9 n))), ?_, ?_⟩
    · refine ⟨(by show 1 ≤ sizeLine; decide), fun p1 np1 => ⟨.int n, rfl, n, 1, rfl, rfl, _, rfl, RgOk.of_le (by decide) (by omega) (by decide) (by omega), fun p2 np2 => ?_⟩⟩
      refine ⟨p1, p2, _, _, rfl, rfl, upd_keep upd_same np2, upd_same, ?_, fun p3 np3 => ?_⟩
      · rw [rgV_length]; exact sz (by show 1 + _ ≤ _; omega)
      refine ⟨p3, _, rfl, .inl ⟨SqL.of upd_same, fun h nh => ⟨h, rfl, (((same_new np1).trans (same_new np2)).trans (same_new np3)).trans (same_new nh), ?_⟩⟩⟩
      rw [upd_same]
      exact congrArg (fun z => some (HO.tup z)) (rgI_line n)
    rintro σ H1 ⟨h, rfl, s1, hh⟩
    -- far_first
    refine ⟨fun σ H2 => ∃ g, σ = [some (.int n), some (.ref h), some (.ref g), none] ∧ Same H1 H2 ∧ H2 g = some (.tup (IL (far9 n))), ?_, ?_⟩
    · refine ⟨.ref h, rfl, .int n, rfl, _, rfl, RgOk.of_le (by decide) (by omega) (by decide) (by omega), fun p1 np1 => ⟨p1, _, rfl, SqL.of upd_same, fun p2 np2 => ?_⟩⟩
      have s2 := (same_new (o := .lst (rgV 0 n)) np1).trans (same_new (o := .lst (rgV 0 n).reverse) np2)
      refine ⟨h, p2, line9 n, (rgI 0 n).reverse, rfl, .inr (s2 _ _ hh), .inl ?_, by rw [l1]; exact l3, by rw [l1]; exact l5.rev, fun H' p s' np hp => ⟨p, rfl, s2.trans s', ?_⟩⟩
      · rw [upd_same, rgV_eq]
        show some (HO.lst (List.map V.int _).reverse) = some (HO.lst (List.map V.int _))
        rw [← List.map_reverse]
      · rw [hp, l6]
    rintro σ H2 ⟨g, rfl, s2, hg⟩
    have hh2 := s2 _ _ hh
    -- if far_first != ..
    refine ⟨fun σ H3 => σ = [some (.int n), some (.ref h), some (.ref g), none] ∧ Same H2 H3, ?_, ?_⟩
    · refine ⟨.ref g, rfl, (by show 2 ≤ sizeLine; decide), fun p1 np1 => ⟨.int n, rfl, n, 2, rfl, rfl, _, rfl, RgOk.of_le (by decide) (by omega) (by decide) (by omega), fun p2 np2 => ?_⟩⟩
      refine ⟨p1, p2, _, _, rfl, rfl, upd_keep upd_same np2, upd_same, ?_, fun p3 np3 => ?_⟩
      · rw [rgV_length]; exact sz (by show 2 + _ ≤ _; omega)
      refine ⟨p3, _, rfl, .inl ⟨SqL.of upd_same, fun p4 np4 => ?_⟩⟩
      have s4 := (((same_new (o := .lst [V.int 0, V.int 0]) np1).trans (same_new (o := .lst (rgV 0 ((n : Int) - 2))) np2)).trans (same_new np3)).trans (same_new (o := .tup ([V.int 0, V.int 0] ++ rgV 0 ((n : Int) - 2))) np4)
      refine ⟨.tuple (dI (far9 n)), .tuple (dI (far9 n)), .tup (SqT.of (s4 _ _ hg)) (dp_ints _), .tup (SqT.of ?_) (dp_ints _), shT _, shT _, _, rfl, ?_⟩
      · rw [upd_same]
        exact congrArg (fun z => some (HO.tup z)) (rgI_far n)
      · rw [eqvT, decide_eq_true rfl]
        exact iteF ⟨rfl, s4⟩
    rintro σ H3 ⟨rfl, s3⟩
    -- heights
    refine ⟨fun σ H4 => σ = [some (.int n), some (.ref h), some (.ref g), none] ∧ Same H3 H4, ?_, ?_⟩
    · refine ⟨.ref g, rfl, .int n, rfl, n, 1, rfl, rfl, g, _, far9 n, rfl, .inr (s3 _ _ hg), by rw [l2]; exact l4, by omega, by omega, by rw [l2]; omega, fun H4 s4 => ?_⟩
      refine ⟨.ref h, rfl, .int n, rfl, n, 1, rfl, rfl, h, _, line9 n, rfl, .inr (s4 _ _ (s3 _ _ hh2)), by rw [l1]; exact l3, by omega, by omega, by rw [l1]; omega, fun H5 s5 => ?_⟩
      refine ⟨(by show 2 ≤ sizeLine; decide), fun p1 np1 => ⟨.int n, rfl, n, 2, rfl, rfl, ⟨by decide, by decide⟩, .int n, rfl, n, 1, rfl, rfl, (by show 2 ≤ sizeLine; decide), fun p2 np2 => ?_⟩⟩
      refine ⟨_, _, rfl, Eqd.pair (upd_keep upd_same np2) upd_same ?_ ?_, fun H6 s6 => ⟨true, rfl, iteF ⟨rfl, (((s4.trans s5).trans (same_new np1)).trans (same_new np2)).trans s6⟩⟩⟩
      · rw [l7]; exact Eqd.int _ _ _
      · rw [l8]; exact Eqd.int _ _ _
    rintro σ H4 ⟨rfl, s4⟩
    have hh4 := s4 _ _ (s3 _ _ hh2)
    -- near_first
    refine ⟨fun σ H5 => ∃ e, σ = [some (.int n), some (.ref h), some (.ref g), some (.ref e)] ∧ Same H4 H5 ∧ H5 e = some (.tup (IL (List.replicate n 0))), ?_, ?_⟩
    · refine ⟨.ref h, rfl, .int n, rfl, _, rfl, RgOk.of_le (by decide) (by omega) (by decide) (by omega), fun p1 np1 => ?_⟩
      have s5 := same_new (o := .lst (rgV 0 n)) np1
      refine ⟨h, p1, line9 n, rgI 0 n, rfl, .inr (s5 _ _ hh4), .inl (by rw [upd_same, rgV_eq]), by rw [l1]; exact l3, by rw [l1]; exact l5, fun H' p s' np hp => ⟨p, rfl, s5.trans s', by rw [hp, l9]⟩⟩
    rintro σ H5 ⟨e, rfl, s5, he⟩
    have hh5 := s5 _ _ hh4
    refine ⟨fun σ H6 => σ = [some (.int n), some (.ref h), some (.ref g), some (.ref e)] ∧ Same H5 H6, ?_, ?_⟩
    · refine ⟨.ref e, rfl, .ref h, rfl, .int n, rfl, _, rfl, RgOk.of_le (by decide) (by omega) (by decide) (by omega), fun p1 np1 => ?_⟩
      have s6 := same_new (o := .lst (rgV 0 n)) np1
      refine ⟨h, p1, line9 n, rgI 0 n, rfl, .inr (s6 _ _ hh5), .inl (by rw [upd_same, rgV_eq]), by rw [l1]; exact l3, by rw [l1]; exact l5, by rw [rgI_len]; omega, fun H7 iA s7 ni hi => ?_⟩
      rw [l10] at hi
      refine ⟨(by show 2 ≤ sizeLine; decide), fun p2 np2 => ⟨(by show 1 ≤ sizeLine; decide), fun p3 np3 => ⟨.int n, rfl, p3, n, _, rfl, rfl, SqT.of upd_same, by simp, by omega, by omega, by show 1 ≤ 1000; decide, fun p4 np4 => ⟨(by show 2 ≤ sizeLine; decide), fun p5 np5 => ⟨(by show 2 ≤ sizeLine; decide), fun p6 np6 => ?_⟩⟩⟩⟩⟩
      have e4 : (List.replicate (n : Int).toNat [V.int 0]).flatten = IL (List.replicate n 0) := by
        rw [Int.toNat_natCast, rep_IL]
      have s56 := (same_new (o := .lst [V.int 0, V.int 1]) np5).trans (same_new (o := .lst [V.ref p4, V.ref p5]) np6)
      have s36 := ((same_new (o := .tup [V.int 0]) np3).trans (same_new (o := .tup (List.replicate (n : Int).toNat [V.int 0]).flatten) np4)).trans s56
      have s26 := (same_new (o := .lst [V.ref e, V.ref iA]) np2).trans s36
      refine ⟨_, _, rfl, Eqd.pair (s36 _ _ upd_same) upd_same (Eqd.tupI (ns := List.replicate n 0) (s26 _ _ (s7 _ _ (s6 _ _ he))) ?_ ?_) (Eqd.lstI (ns := [0, 1]) (s26 _ _ hi) (upd_keep upd_same np6) (by show 2 ≤ 10000; decide)), fun H8 s8 => ⟨true, rfl, iteF ⟨rfl, ((s6.trans s7).trans s26).trans s8⟩⟩⟩
      · rw [← e4]; exact s56 _ _ upd_same
      · rw [List.length_replicate]; omega
    rintro σ H6 ⟨rfl, s6⟩
    have hh6 := s6 _ _ hh5
    refine ⟨.ref h, rfl, .int n, rfl, n, 1, rfl, rfl, h, _, line9 n, rfl, .inr hh6, by rw [l1]; exact l3, by omega, by rw [l1]; omega, fun H7 cA s7 nc hcA => ?_⟩
    rw [l11] at hcA
    refine ⟨.ref h, rfl, 1, rfl, _, rfl, ?_⟩
    refine slA_of (s7 _ _ hh6) fun p1 H8 s8 hp1 => ?_
    refine ⟨.int n, rfl, n, 3, rfl, rfl, _, _, rfl, (by show 1 ≤ sizeLine; decide), fun p2 np2 => ?_⟩
    have s9 := same_new (o := .tup [V.int (if (n : Int) - 3 > 0 then (n : Int) - 3 else 0)]) np2
    have hp1' : H8 p1 = some (.tup (IL ((line9 n).take (n - 1)))) := by
      rw [hp1]
      have := cut_last (ns := line9 n) (by omega)
      rw [l1] at this
      exact congrArg (fun z => some (HO.tup z)) this
    refine catA_of (s9 _ _ hp1') upd_same ?_ fun p3 HA sA hp3 => ?_
    · rw [List.length_map, List.length_take]; exact sz (by show _ + 1 ≤ _; omega)
    rw [IL_app] at hp3
    refine ⟨_, _, rfl, Eqd.tupI (sA _ _ (s9 _ _ (s8 _ _ hcA))) hp3 ?_, fun HB sB => q _ ?_⟩
    · rw [List.length_append, List.length_take]; show _ + 1 ≤ _; omega
    · exact (((((((((s1.trans s2).trans s3).trans s4).trans s5).trans s6).trans s7).trans s8).trans s9).trans sA).trans sB
/-! ### _law_right -/
abbrev sRight : Stmt := topS 23
abbrev nRight : List Str := ["_law_box_here", "_law_size"]
theorem scRight : FnScope nRight ["_law_box_here"] (defScope sRight) := ⟨rfl, rfl, rfl, by decide +kernel, rfl, by decide +kernel, by decide +kernel⟩
def spRight : Sp := fun vs H Q _ => ∃ (b : Addr) (c : Nat), vs = [.ref b] ∧ Box H b c ∧ c + 100000 ≤ 1000000000 ∧ ∀ H', Sb b H H' → Box H' b (c + 100000) → Q (.bl true) H'
theorem Box.mono {H H' : Hp} {b : Addr} {c : Nat} (h : Box H b c) (s : Same H H') : Box H' b c := by
  obtain ⟨x0, x1, x2, e, rr⟩ := h
  exact ⟨x0, x1, x2, s _ _ e, rr⟩
theorem ok_right {f fT fR fL : Addr} {fd fdT fdR fdL : FuncData} (F : Fun K "_law_right" "_law_right" sRight f fd) (B : Bi mg)
    (T : Cal P w K mg base "_law_take" 9 psT spTake fT fdT) (R : Cal P w K mg base "_law_ring_right" 9 ["_law_size"] spSize fR fdR) (L : Cal P w K mg base "_law_line_right" 9 ["_law_size"] spSize fL fdL) : FnOk P w K mg base CX0 10 f fd ["_law_box_here"] spRight := by
  refine F.ok scRight (fun vs H Q E h => ?_) (fun cdv A outer s H vs Q E hr h => ?_)
  · obtain ⟨b, c, rfl, _⟩ := h
    rfl
  · obtain ⟨b, c, rfl, hB, hc, q⟩ := h
    refine ⟨_, pss_cons (ps_set (i := 1) scRight.nd rfl (.inl rfl) (pe_op op_add pe_int (pe_call T.ok hr (by rfl) T.g T.kp T.bd .nil pass0 (pa_cons (pv 0) (pa_cons pe_int pa_nil)))))
      (pss_one (ps_ret (pe_and (pe_call R.ok hr (by rfl) R.g R.kp R.bd .nil pass0 (pa_cons (pv 1) pa_nil)) (pe_one (pe_call L.ok hr (by rfl) L.g L.kp L.bd .nil pass0 (pa_cons (pv 1) pa_nil)))))), ?_⟩
    refine ⟨.ref b, rfl, b, 18, c, rfl, hB, by omega, by omega, by omega, fun H2 r sb2 hB2 r0 r1 => ?_⟩
    obtain ⟨n, rfl⟩ : ∃ n : Nat, r = (n : Int) := ⟨r.toNat, by omega⟩
    have e : (3 : Int) + (n : Int) = ((3 + n : Nat) : Int) := by omega
    refine ⟨3, _, rfl, rfl, .int (3 + n), rfl, 3 + n, (by rw [e]; rfl), by omega, by omega, fun H3 s3 => ⟨true, rfl, iteT ⟨.int (3 + n), rfl, 3 + n, (by rw [e]; rfl), by omega, by omega, fun H4 s4 => ?_⟩⟩⟩
    exact q _ (sb2.trans (Same.sb (s3.trans s4))) ((hB2.mono (s3.trans s4)).le (by omega))
end
end Lp

namespace Lp
open PySem PySem.Spec PyProof.Rows L2
section
variable {P : Program} {w : World} {K : PySem.W.Frag} {mg : Str → Option Value} {base : Heap}
abbrev sLaw : Stmt := topS 24
abbrev nLaw : List Str := ["_law_script", "_law_cells_here", "_law_k", "_law_box_here", "_law_turn"]
theorem scLaw : FnScope nLaw ["_law_script"] (defScope sLaw) := ⟨rfl, rfl, rfl, by decide +kernel, rfl, by decide +kernel, by decide +kernel⟩
def spLaw (K : PySem.W.Frag) : Sp := fun vs H Q _ => ∃ (a : Addr) (ns : List Int), vs = [.ref a] ∧ SqL K H a (IL ns) ∧ ns.length ≤ 63 ∧ ∀ H', Q (.bl true) H'
theorem ok_law {f fC fB fR : Addr} {fd fdC fdB fdR : FuncData} (F : Fun K "law" "law" sLaw f fd) (B : Bi mg) (C : Cal P w K mg base "_law_cells" 10 ["_law_script", "_law_most"] (spCells K) fC fdC)
    (X : Cal P w K mg base "_law_box" 10 ["_law_script", "_law_k"] (spBox K) fB fdB) (R : Cal P w K mg base "_law_right" 10 ["_law_box_here"] spRight fR fdR) : FnOk P w K mg base CX0 11 f fd ["_law_script"] (spLaw K) := by
  refine F.ok scLaw (fun vs H Q E h => ?_) (fun cdv A outer s H vs Q E hr h => ?_)
  · obtain ⟨a, ns, rfl, _⟩ := h
    rfl
  · obtain ⟨a, ns, rfl, hS, hl, q⟩ := h
    refine ⟨_, pss_cons (ps_set (i := 1) scLaw.nd rfl (.inl rfl) (pe_call C.ok hr (by rfl) C.g C.kp C.bd .nil pass0 (pa_cons (pv 0) (pa_cons pe_int pa_nil))))
      (pss_cons (ps_for PassesOwn.never rfl (pi_range1 (by rfl) B.range (pa_cons (pe_callB call_len_seq (by rfl) B.len PySem.boot_len (pa_cons (pv 1) pa_nil)) pa_nil)) (pg_name (i := 2) scLaw.nd rfl (.inl rfl))
        (pss_cons (ps_set (i := 3) scLaw.nd rfl (.inr rfl) (pe_call X.ok hr (by rfl) X.g X.kp X.bd .nil pass0 (pa_cons (pv 1) (pa_cons (pv 2) pa_nil))))
        (pss_one (ps_if (pt_not (pt_val (pe_callB (cr_all rfl) (by rfl) B.all (by decide +kernel) (pa_cons (pe_lc (own := [("_law_turn", 4)]) (g := gName 4) (tt := tYes) (by rfl) scLaw.nd (pi_range1 (by rfl) B.range (pa_cons pe_int pa_nil)) (blkOk_by (own := [("_law_turn", 4)]) (N := nLaw) (sc := defScope sLaw) (by decide +kernel))
          (fun _ _ _ _ _ => pg_name (i := 4) scLaw.nd rfl (Or.inl rfl)) (fun _ _ _ _ _ => pts_nil) (fun _ _ _ _ _ => pe_call R.ok hr (by rfl) R.g R.kp R.bd .nil pass0 (pa_cons (pv 3) pa_nil))) pa_nil)))) pss_never pss_nil))))
      (pss_one (ps_ret pe_bl))), ?_⟩
    refine ⟨.ref a, rfl, a, _, ns, rfl, hS, by decide, by decide, fun H1 cA ms s1 nc hc l1 l2 => ?_⟩
    refine ⟨.ref cA, rfl, cA, _, rfl, .inl (SqL.of hc), _, rfl, ?_, ?_, ?_⟩
    · rw [List.length_map]; omega
    · rw [List.length_map]; omega
    refine for_it (walk_range (lo := 0)) (fun _ σ H3 => ∃ y2 y3, σ = [some (.ref a), some (.ref cA), y2, y3, none] ∧ H3 cA = some (.lst (IL ms))) ?_ ?_ ?_ ?_
    · exact ⟨none, none, rfl, hc⟩
    · intros; trivial
    · rintro i x σ H0 G hi ⟨y2, y3, rfl, hcG⟩ ⟨rfl, rfl⟩
      rw [List.length_map] at hi
      refine ⟨.ref cA, rfl, .int (0 + i), rfl, cA, _, ms, rfl, SqL.of hcG, by omega, by omega, fun H4 b s4 nb hB => ?_⟩
      have hc4 := s4 _ _ hcG
      have cb : cA ≠ b := ne_of_none hcG nb
      refine ⟨_, rfl, by decide, by decide, fun D nD => ?_⟩
      have bD : b ≠ D := hB.ne nD
      have cD : cA ≠ D := ne_of_none hc4 nD
      refine lc_range (lo := 0) (fun j H5 => H5 D = some (.lst (List.replicate j (.bl true))) ∧ Box H5 b (100000 * j) ∧ H5 cA = some (.lst (IL ms))) ⟨upd_same, (hB.new nD).le (by omega), upd_keep hc4 nD⟩ ?_ ?_
      · rintro j H5 hj ⟨hD, hB5, hc5⟩
        have hj' : j < 100 := Nat.lt_trans hj (by decide)
        refine ⟨rfl, yes_ok ⟨.ref b, rfl, b, 100000 * j, rfl, hB5, by omega, fun H6 sb6 hB6 => ?_⟩⟩
        have hD6 := sb6 D _ (Ne.symm bD) hD
        refine ⟨_, hD6, ?_, ?_, ?_, ?_⟩
        · rw [List.length_replicate]; exact szl (by omega)
        · rw [upd_same, rep_app]
        · exact (hB6.put bD).le (by omega)
        · rw [upd_ne cD]; exact sb6 cA _ cb hc5
      · rintro H5 ⟨hD, hB5, hc5⟩
        refine ⟨D, List.replicate 2 true, rfl, ?_, true, ?_, iteF ⟨_, _, rfl, hc5⟩⟩
        · rw [rep_bl]; exact SqL.of hD
        · rw [all_true]
    · rintro σ H3 ⟨y2, y3, rfl, _⟩
      exact q _
end
theorem all_mk {l : PySem.W.OpenLaw} {w : World} {K : PySem.W.Frag} {h : Heap} {mg : Str → Option Value} {fa : Addr} (X : K.In h) (G : h.Ns mainGlobals mg) (hfa : mg "law" = some (.ref fa)) (Z : Zs K)
    (d3 : Dx K "check_person" sCheckP) (d4 : Dx K "route_from" sRoute) (d5 : Dx K "turned" sTurned) (d6 : Dx K "ring_begin" sBegin) (d7 : Dx K "ring_of" sRingOf) (d8 : Dx K "rings" sRings) (d9 : Dx K "height" sHeight) (d11 : Dx K "check_word" sCheckW) (d12 : Dx K "called" sCalled) (d13 : Dx K "called_all" sCalledA) (d14 : Dx K "states_along" sAlong) (d15 : Dx K "idle_calls" sIdle) (d17 : Dx K "_law_box" sBox) (d18 : Dx K "_law_take" sTake) (d19 : Dx K "_law_cells" sCells) (d20 : Dx K "_law_same" sSame) (d21 : Dx K "_law_ring_right" sRingR) (d22 : Dx K "_law_line_right" sLineR) (d23 : Dx K "_law_right" sRight) (d24 : Dx K "law" sLaw) :
    ∃ fd : FuncData, (∀ (s : Shared) (v : Value), BindsTo s fd ⟨[v], []⟩ [("_law_script", v)]) ∧ ∀ base : Heap, K.In base → base.Ns mainGlobals mg → FnOk l.prog w K mg base CX0 11 fa fd ["_law_script"] (spLaw K) := by
  have B := Z.bi X G
  obtain ⟨f3, e3, F3, g3⟩ := d3.fn X G
  obtain ⟨f4, e4, F4, g4⟩ := d4.fn X G
  obtain ⟨f5, e5, F5, g5⟩ := d5.fn X G
  obtain ⟨f6, e6, F6, g6⟩ := d6.fn X G
  obtain ⟨f7, e7, F7, g7⟩ := d7.fn X G
  obtain ⟨f8, e8, F8, g8⟩ := d8.fn X G
  obtain ⟨f9, e9, F9, g9⟩ := d9.fn X G
  obtain ⟨f11, e11, F11, g11⟩ := d11.fn X G
  obtain ⟨f12, e12, F12, g12⟩ := d12.fn X G
  obtain ⟨f13, e13, F13, g13⟩ := d13.fn X G
  obtain ⟨f14, e14, F14, g14⟩ := d14.fn X G
  obtain ⟨f15, e15, F15, g15⟩ := d15.fn X G
  obtain ⟨f17, e17, F17, g17⟩ := d17.fn X G
  obtain ⟨f18, e18, F18, g18⟩ := d18.fn X G
  obtain ⟨f19, e19, F19, g19⟩ := d19.fn X G
  obtain ⟨f20, e20, F20, g20⟩ := d20.fn X G
  obtain ⟨f21, e21, F21, g21⟩ := d21.fn X G
  obtain ⟨f22, e22, F22, g22⟩ := d22.fn X G
  obtain ⟨f23, e23, F23, g23⟩ := d23.fn X G
  obtain ⟨f24, e24, F24, g24⟩ := d24.fn X G
  cases hfa.symm.trans g24
  refine ⟨e24, fun s v => ?_, fun base _ _ => ?_⟩
  · obtain ⟨oc, od, kV, doc, pm, an, cdv, ct, osl, rfl, lk, hcd⟩ := F24.ex
    exact .of_eq rfl
  · have bd3 : Binds K e3 ["state", "person"] [] := b2 F3 fun _ _ _ _ _ _ _ _ => rfl
    have t3 : Cal l.prog w K mg base "check_person" 1 ["state", "person"] spCheckP f3 e3 := ⟨ok_checkP F3 B, g3, F3.kp, bd3⟩
    have bd4 : Binds K e4 ["pointers", "person"] [] := b2 F4 fun _ _ _ _ _ _ _ _ => rfl
    have t4 : Cal l.prog w K mg base "route_from" 1 ["pointers", "person"] spRoute f4 e4 := ⟨ok_route F4 B, g4, F4.kp, bd4⟩
    have bd5 : Binds K e5 ["members", "first"] [] := b2 F5 fun _ _ _ _ _ _ _ _ => rfl
    have t5 : Cal l.prog w K mg base "turned" 1 ["members", "first"] spTurned f5 e5 := ⟨ok_turned F5, g5, F5.kp, bd5⟩
    have bd6 : Binds K e6 ["state", "route"] [] := b2 F6 fun _ _ _ _ _ _ _ _ => rfl
    have t6 : Cal l.prog w K mg base "ring_begin" 1 ["state", "route"] spBegin f6 e6 := ⟨ok_begin F6, g6, F6.kp, bd6⟩
    have bd7 : Binds K e7 ["state", "person"] [] := b2 F7 fun _ _ _ _ _ _ _ _ => rfl
    have t7 : Cal l.prog w K mg base "ring_of" 2 ["state", "person"] spRingOf f7 e7 := ⟨ok_ringOf F7 B t3 t4 t6 t5, g7, F7.kp, bd7⟩
    have bd8 : Binds K e8 ["state"] [] := b1 F8 fun _ _ _ _ _ _ _ => rfl
    have t8 : Cal l.prog w K mg base "rings" 3 ["state"] spRings f8 e8 := ⟨ok_rings F8 B t7, g8, F8.kp, bd8⟩
    have bd9 : Binds K e9 ["state", "person"] [] := b2 F9 fun _ _ _ _ _ _ _ _ => rfl
    have t9 : Cal l.prog w K mg base "height" 2 ["state", "person"] spHeight f9 e9 := ⟨ok_height F9 t3 t4 t6, g9, F9.kp, bd9⟩
    have bd11 : Binds K e11 ["state", "word"] [] := b2 F11 fun _ _ _ _ _ _ _ _ => rfl
    have t11 : Cal l.prog w K mg base "check_word" 2 ["state", "word"] spCheckW f11 e11 := ⟨ok_checkW F11 t3, g11, F11.kp, bd11⟩
    have bd13 : Binds K e13 ["state", "word"] [] := b2 F13 fun _ _ _ _ _ _ _ _ => rfl
    have t13 : Cal l.prog w K mg base "called_all" 3 ["state", "word"] spCalledA f13 e13 := ⟨ok_calledA F13 B t11, g13, F13.kp, bd13⟩
    have bd12 : Binds K e12 ["state", "person"] [] := b2 F12 fun _ _ _ _ _ _ _ _ => rfl
    have t12 : Cal l.prog w K mg base "called" 4 ["state", "person"] spCalled f12 e12 := ⟨ok_called F12 t13, g12, F12.kp, bd12⟩
    have bd14 : Binds K e14 ["state", "word"] [] := b2 F14 fun _ _ _ _ _ _ _ _ => rfl
    have t14 : Cal l.prog w K mg base "states_along" 5 ["state", "word"] spAlong f14 e14 := ⟨ok_along F14 B (t11.up (show 2 ≤ 4 by decide)) t12, g14, F14.kp, bd14⟩
    have bd15 : Binds K e15 ["state", "word"] [] := b2 F15 fun _ _ _ _ _ _ _ _ => rfl
    have t15 : Cal l.prog w K mg base "idle_calls" 6 ["state", "word"] spIdle f15 e15 := ⟨ok_idle F15 B t14, g15, F15.kp, bd15⟩
    have bd17 : Binds K e17 ["_law_script", "_law_k"] [] := b2 F17 fun _ _ _ _ _ _ _ _ => rfl
    have t17 : Cal l.prog w K mg base "_law_box" 1 ["_law_script", "_law_k"] (spBox K) f17 e17 := ⟨ok_box F17 B, g17, F17.kp, bd17⟩
    have bd18 : Binds K e18 psT [] := b2 F18 fun _ _ _ _ _ _ _ _ => rfl
    have t18 : Cal l.prog w K mg base "_law_take" 1 psT spTake f18 e18 := ⟨ok_take F18, g18, F18.kp, bd18⟩
    have bd19 : Binds K e19 ["_law_script", "_law_most"] [] := b2 F19 fun _ _ _ _ _ _ _ _ => rfl
    have t19 : Cal l.prog w K mg base "_law_cells" 1 ["_law_script", "_law_most"] (spCells K) f19 e19 := ⟨ok_cells F19 B, g19, F19.kp, bd19⟩
    have bd20 : Binds K e20 psSame [] := b2 F20 fun _ _ _ _ _ _ _ _ => rfl
    have t20 : Cal l.prog w K mg base "_law_same" 4 psSame (spSame 3) f20 e20 := ⟨(ok_same F20 B g20 bd20 3), g20, F20.kp, bd20⟩
    have bd21 : Binds K e21 ["_law_size"] [] := b1 F21 fun _ _ _ _ _ _ _ => rfl
    have t21 : Cal l.prog w K mg base "_law_ring_right" 8 ["_law_size"] spSize f21 e21 := ⟨ok_ringR F21 B (t14.up (show 5 ≤ 7 by decide)) (t8.up (show 3 ≤ 7 by decide)) (t15.up (show 6 ≤ 7 by decide)) (t20.up (show 4 ≤ 7 by decide)), g21, F21.kp, bd21⟩
    have bd22 : Binds K e22 ["_law_size"] [] := b1 F22 fun _ _ _ _ _ _ _ => rfl
    have t22 : Cal l.prog w K mg base "_law_line_right" 8 ["_law_size"] spSize f22 e22 := ⟨ok_lineR F22 B (t13.up (show 3 ≤ 7 by decide)) (t9.up (show 2 ≤ 7 by decide)) (t15.up (show 6 ≤ 7 by decide)) (t12.up (show 4 ≤ 7 by decide)) (t20.up (show 4 ≤ 7 by decide)), g22, F22.kp, bd22⟩
    have tR : Cal l.prog w K mg base "_law_right" 10 ["_law_box_here"] spRight f23 e23 := ⟨ok_right F23 B (t18.up (by decide)) (t21.up (by decide)) (t22.up (by decide)), g23, F23.kp, b1 F23 fun _ _ _ _ _ _ _ => rfl⟩
    exact ok_law F24 B (t19.up (by decide)) (t17.up (by decide)) tR
end Lp

open PySem PySem.W PyProof.Rows
set_option maxHeartbeats 0 in
theorem PySem.Challenge.cw_lookpast_k09_known_calls_holds : PySem.Challenge.rw_lookpast_k09_known_calls.Holds := by
  w_on; o_law; k_head; (case hw => w_witness2)
  k_fill
  refine L2.walk_of (l := PySem.Challenge.rw_lookpast_k09_known_calls) (n := 63) (k := 11) (x := "_law_script") (CX := fun _ => L2.CX0) (sp := fun w => Lp.spLaw _) rfl (by decide) rfl ⟨rfl, by decide, by decide⟩ (fun w h Y => PySem.W.kIn_of Y) ?F (fun _ _ a ns hl _ hS => ⟨a, ns, rfl, hS, hl, fun _ => rfl⟩) (fun _ _ _ _ _ h => h)
  case F =>
    intro w mg fa h KX G hmg
    refine' Lp.all_mk KX G hmg ?z ?d3 ?d4 ?d5 ?d6 ?d7 ?d8 ?d9 ?d11 ?d12 ?d13 ?d14 ?d15 ?d17 ?d18 ?d19 ?d20 ?d21 ?d22 ?d23 ?d24
    (case z => refine' ⟨?_, ?_, ?_, ?_, ?_, ?_, ?_, ?_, ?_, ?_, ?_, ?_, ?_, ?_, ?_, ?_, ?_, ?_⟩ <;> k_is)
    (case d3 => refine' Lp.dx_mk ?a ?l ?c ?k; (case a => k_is); (case l => k_is); (case c => k_is); (case k => k_is))
    (case d4 => refine' Lp.dx_mk ?a ?l ?c ?k; (case a => k_is); (case l => k_is); (case c => k_is); (case k => k_is))
    (case d5 => refine' Lp.dx_mk ?a ?l ?c ?k; (case a => k_is); (case l => k_is); (case c => k_is); (case k => k_is))
    (case d6 => refine' Lp.dx_mk ?a ?l ?c ?k; (case a => k_is); (case l => k_is); (case c => k_is); (case k => k_is))
    (case d7 => refine' Lp.dx_mk ?a ?l ?c ?k; (case a => k_is); (case l => k_is); (case c => k_is); (case k => k_is))
    (case d8 => refine' Lp.dx_mk ?a ?l ?c ?k; (case a => k_is); (case l => k_is); (case c => k_is); (case k => k_is))
    (case d9 => refine' Lp.dx_mk ?a ?l ?c ?k; (case a => k_is); (case l => k_is); (case c => k_is); (case k => k_is))
    (case d11 => refine' Lp.dx_mk ?a ?l ?c ?k; (case a => k_is); (case l => k_is); (case c => k_is); (case k => k_is))
    (case d12 => refine' Lp.dx_mk ?a ?l ?c ?k; (case a => k_is); (case l => k_is); (case c => k_is); (case k => k_is))
    (case d13 => refine' Lp.dx_mk ?a ?l ?c ?k; (case a => k_is); (case l => k_is); (case c => k_is); (case k => k_is))
    (case d14 => refine' Lp.dx_mk ?a ?l ?c ?k; (case a => k_is); (case l => k_is); (case c => k_is); (case k => k_is))
    (case d15 => refine' Lp.dx_mk ?a ?l ?c ?k; (case a => k_is); (case l => k_is); (case c => k_is); (case k => k_is))
    (case d17 => refine' Lp.dx_mk ?a ?l ?c ?k; (case a => k_is); (case l => k_is); (case c => k_is); (case k => k_is))
    (case d18 => refine' Lp.dx_mk ?a ?l ?c ?k; (case a => k_is); (case l => k_is); (case c => k_is); (case k => k_is))
    (case d19 => refine' Lp.dx_mk ?a ?l ?c ?k; (case a => k_is); (case l => k_is); (case c => k_is); (case k => k_is))
    (case d20 => refine' Lp.dx_mk ?a ?l ?c ?k; (case a => k_is); (case l => k_is); (case c => k_is); (case k => k_is))
    (case d21 => refine' Lp.dx_mk ?a ?l ?c ?k; (case a => k_is); (case l => k_is); (case c => k_is); (case k => k_is))
    (case d22 => refine' Lp.dx_mk ?a ?l ?c ?k; (case a => k_is); (case l => k_is); (case c => k_is); (case k => k_is))
    (case d23 => refine' Lp.dx_mk ?a ?l ?c ?k; (case a => k_is); (case l => k_is); (case c => k_is); (case k => k_is))
    (case d24 => refine' Lp.dx_mk ?a ?l ?c ?k; (case a => k_is); (case l => k_is); (case c => k_is); (case k => k_is))

