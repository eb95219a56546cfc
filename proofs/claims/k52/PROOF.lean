import PyProof.Rows.All
import Wide.All
import OpenK.AllK
import Wide.FinOn
import HandS.ForMost
import HandS.Wide
import HandS.IsInst
import HandS.Walk
import PySem.Challenge.RW_twodivisions_k52_check_numbers_of_texts
set_option Elab.async false
set_option maxRecDepth 100000
set_option maxHeartbeats 4000000
set_option linter.all false
namespace W1
open PySem L2
def top (i : Nat) : Stmt := PySem.Challenge.pw_twodivisions_k52_check_numbers_of_texts.main.body.getD i (.Pass ⟨0, 0, 0, 0⟩)
/-! ### own words: a def by its name, its promise by its name -/
/-- the def x of the text stands in the module -/
def Has (K : PySem.W.Frag) (mg : Str → Option Value) (x : Str) (st : Stmt) (ps : List Str) : Prop :=
  ∃ f fd, mg x = some (.ref f) ∧ Binds K fd ps [] ∧ Fun K x x st f fd
/-- the def x keeps the promise sp -/
def Ok (P : Program) (w : World) (K : PySem.W.Frag) (mg : Str → Option Value) (base : Heap) (k : Nat) (x : Str) (ps : List Str) (sp : Sp) : Prop :=
  ∃ f fd, mg x = some (.ref f) ∧ PySem.W.keepIn K (.ref f) = true ∧ Binds K fd ps [] ∧ FnOk P w K mg base CX0 k f fd ps sp
theorem pe_cO {X : Cx} {k : Nat} {x : Str} {ps : List Str} {sp : Sp} {p pos : Pos} {e : Expr} {es : List Expr} {t : TA} {E : XK} (o : Ok X.prog X.w X.K X.mg X.base k x ps sp) (hr : Room k X.A) (hx : Passes CX0 X E) (hg : Gl X x)
    (ha : PA X (e :: es) t) (hdb : (x == ("__debug__" : Str)) = false := by decide) (he : starEach (e :: es) X.env = (false, eval e X.env) :: starEach es X.env := by rfl) (hpl : (backTo pos (starEach es X.env)).any (·.1) = false := by rfl) :
    PE X (.Call (.Name x p) (e :: es) [] pos) (tCall sp [] E t) := by
  obtain ⟨f, fd, g, kp, b, G⟩ := o
  exact pe_call G hr hg g kp b .nil hx ha hdb he hpl
theorem pe_cO0 {X : Cx} {k : Nat} {x : Str} {ps : List Str} {sp : Sp} {p pos : Pos} {E : XK} (o : Ok X.prog X.w X.K X.mg X.base k x ps sp) (hr : Room k X.A) (hx : Passes CX0 X E) (hg : Gl X x) (hdb : (x == ("__debug__" : Str)) = false := by decide) :
    PE X (.Call (.Name x p) [] [] pos) (tCall sp [] E tNil) := by
  obtain ⟨f, fd, g, kp, b, G⟩ := o
  exact pe_call0 G hr hg g kp b .nil hx hdb
/-! ### numbers of a fair size -/
def Sm (i : Int) : Prop := -(2 ^ 250) < i ∧ i < 2 ^ 250
theorem Sm.nat {i : Int} (h : Sm i) : i.natAbs < 2 ^ 250 := by
  obtain ⟨h1, h2⟩ := h
  omega
section
variable {X : Cx}
theorem op_mulS : OpR X (binaryOp .Mult) (rI (fun i j => Sm i ∧ Sm j) fun i j => .int (i * j)) := by
  intro pins s σ H x y v u Q I rx ry h
  obtain ⟨i, j, rfl, rfl, ⟨h1, h2⟩, q⟩ := h
  exact op_mulW pins s σ H _ _ v u Q I rx ry ⟨i, j, rfl, rfl, wide_mul h1.nat h2.nat (by decide) (by decide) (by decide), q⟩
theorem op_divS : OpR X (binaryOp .FloorDiv) (rI (fun _ j => j ≠ 0 ∧ Sm j) fun i j => .int (i.fdiv j)) := opI fun i j _ _ _ _ _ hc q =>
  PyProof.Rows.floordiv_int hc.1 q (.inl (PyProof.noPylong_of_log2 (Nat.lt_of_lt_of_le (PySem.Flt.log2_lt_of (by decide : 0 < 250) hc.2.nat) (by decide))))
end
/-! ### heaps: all but the pool stays -/
def Keep (pp : Addr) (H H' : Hp) : Prop := ∀ b o, H b = some o → b ≠ pp → H' b = some o
theorem Keep.refl {pp : Addr} {H : Hp} : Keep pp H H := fun _ _ h _ => h
theorem Keep.trans {pp : Addr} {H H1 H2 : Hp} (a : Keep pp H H1) (b : Keep pp H1 H2) : Keep pp H H2 := fun c o h n => b c o (a c o h n) n
theorem Same.keep {pp : Addr} {H H' : Hp} (a : Same H H') : Keep pp H H' := fun b o h _ => a b o h
theorem Keep.seq {pp a : Addr} {K : PySem.W.Frag} {H H' : Hp} {xs : List V} (e : Keep pp H H') (n : a ≠ pp) (h : SqL K H a xs) : SqL K H' a xs := by
  rcases h with (h | ⟨o, h⟩) | h
  · exact .inl (.inl (e _ _ h n))
  · exact .inl (.inr ⟨o, e _ _ h n⟩)
  · exact .inr h
theorem Same.new {H : Hp} {p : Addr} {o : HO} (n : H p = none) : Same H (upd H p o) := fun b u h => by
  rw [upd_ne (ne_of_none h n)]
  exact h
/-- a pool of draws stands at pp -/
def PoolAt (H : Hp) (pp : Addr) : Prop := ∃ c s : Int, 0 ≤ s ∧ s < 2147483647 ∧ H pp = some (.lst [.int c, .int s])
theorem PoolAt.keep {H H' : Hp} {pp p : Addr} (h : PoolAt H p) (e : Keep pp H H') (n : p ≠ pp) : PoolAt H' p := by
  obtain ⟨c, s, h0, h1, h2⟩ := h
  exact ⟨c, s, h0, h1, e _ _ h2 n⟩
theorem PoolAt.same {H H' : Hp} {p : Addr} (h : PoolAt H p) (e : Same H H') : PoolAt H' p := by
  obtain ⟨c, s, h0, h1, h2⟩ := h
  exact ⟨c, s, h0, h1, e _ _ h2⟩
theorem PoolAt.ne {H : Hp} {p q : Addr} (h : PoolAt H p) (n : H q = none) : q ≠ p := by
  obtain ⟨c, s, h0, h1, h2⟩ := h
  exact (ne_of_none h2 n).symm
theorem Keep.free {pp l : Addr} {H H' : Hp} (e : Keep pp H H') (h : PoolAt H' pp) (n : H' l = none) : H l = none := by
  cases q : H l with
  | none => rfl
  | some o =>
    rw [e l o q (h.ne n)] at n
    cases n
theorem atI0 {α : Type} {x : α} {xs : List α} : atI (x :: xs) 0 = some x := atI_nat (j := 0) rfl
theorem atI1 {α : Type} {x y : α} {xs : List α} : atI (x :: y :: xs) 1 = some y := atI_nat (j := 1) rfl
theorem kIntInt {K : PySem.W.Frag} : PySem.W.kitOne K (.type "int") (.type "int") = some true := kit_ty (show kitB "int" "int" = some true by decide +kernel)
theorem kIntBool {K : PySem.W.Frag} : PySem.W.kitOne K (.type "int") (.type "bool") = some false := kit_ty (show kitB "int" "bool" = some false by decide +kernel)
theorem kStrStr {K : PySem.W.Frag} : PySem.W.kitOne K (.type "str") (.type "str") = some true := kit_ty (show kitB "str" "str" = some true by decide +kernel)
theorem n29 : (2147483629 : Int) ≠ 0 := by decide
theorem n47 : (2147483647 : Int) ≠ 0 := by decide
structure Txt52 (mg : Str → Option Value) : Prop where
  isinstance : mg "isinstance" = none
  int : mg "int" = none
  bool : mg "bool" = none
  len : mg "len" = none
  range : mg "range" = none
  max : mg "max" = none
  min : mg "min" = none
  ord : mg "ord" = none
  gMODULUS : ∃ t, mg "MODULUS" = some (.int 65521 t)
abbrev Txt (K : PySem.W.Frag) (mg : Str → Option Value) (aR : Addr) : Prop := Txt52 mg
theorem vne {i j : Int} (h : i ≠ j) : ¬ decide (V.int i = V.int j) = true := fun z => h (by injection of_decide_eq_true z)
theorem veq {i j : Int} (h : i = j) : decide (V.int i = V.int j) = true := decide_eq_true (by rw [h])
theorem sne {i j : Str} (h : i ≠ j) : ¬ decide (V.str i = V.str j) = true := fun z => h (by injection of_decide_eq_true z)
theorem of_veq {i j : Int} (h : decide (V.int i = V.int j) = true) : i = j := by injection of_decide_eq_true h
theorem of_seq {i j : Str} (h : decide (V.str i = V.str j) = true) : i = j := by injection of_decide_eq_true h
theorem of_vne {i j : Int} (h : ¬ decide (V.int i = V.int j) = true) : i ≠ j := fun z => h (by rw [z]; exact decide_eq_true rfl)
theorem of_sne {i j : Str} (h : ¬ decide (V.str i = V.str j) = true) : i ≠ j := fun z => h (by rw [z]; exact decide_eq_true rfl)
theorem iteN {c A B : Prop} [Decidable c] (h : ¬ c) (q : B) : if c then A else B := by
  rw [if_neg h]
  exact q
theorem iteP {c A B : Prop} [Decidable c] (h : c) (q : A) : if c then A else B := by
  rw [if_pos h]
  exact q
theorem bnot_dec {c : Prop} [Decidable c] (h : (!decide c) = true) : ¬ c := fun z => by
  rw [decide_eq_true z] at h
  cases h
theorem bnot_dec' {c : Prop} [Decidable c] (h : ¬ (!decide c) = true) : c := by
  by_cases z : c
  · exact z
  · exact absurd (by rw [decide_eq_false z]; rfl) h
section
variable {P : Program} {w : World} {K : PySem.W.Frag} {mg : Str → Option Value} {base : Heap} {aR : Addr}
abbrev s__law_pool : Stmt := top 4
theorem sc__law_pool : FnScope ["_law_script", "_law_k", "_law_cell", "_law_seed"] ["_law_script", "_law_k"] (defScope s__law_pool) := ⟨rfl, rfl, rfl, by decide +kernel, rfl, by decide +kernel, by decide +kernel⟩
def spPool (K : PySem.W.Frag) : Sp := fun vs H Q _ => ∃ (a : Addr) (ns : List Int) (k : Nat), vs = [.ref a, .int k] ∧ SqL K H a (ns.map V.int) ∧ k < 64 ∧ ∀ pp H', Same H H' → H pp = none → PoolAt H' pp → Q (.ref pp) H'
theorem seed_ok (c : Int) (k : Nat) (hk : k < 64) : Sm (7919 * (k : Int)) ∧ (c.fmod 2147483629 + 7919 * (k : Int) * (k : Int) + 31).natAbs < 2 ^ 64 := by
  have h1 := Int.fmod_nonneg_of_pos c (show (0 : Int) < 2147483629 by decide)
  have h2 := Int.fmod_lt_of_pos c (show (0 : Int) < 2147483629 by decide)
  have h3 : 0 ≤ 7919 * (k : Int) * (k : Int) := Int.mul_nonneg (by omega) (by omega)
  have h4 : 7919 * (k : Int) * (k : Int) ≤ 7919 * (k : Int) * 64 := Int.mul_le_mul_of_nonneg_left (by omega) (by omega)
  exact ⟨⟨by omega, by omega⟩, by omega⟩
theorem ok__law_pool (h : Has K mg "_law_pool" s__law_pool ["_law_script", "_law_k"]) (T : Txt K mg aR) : Ok P w K mg base 1 "_law_pool" ["_law_script", "_law_k"] (spPool K) := by
  obtain ⟨f, fd, g, b, F⟩ := h
  refine ⟨f, fd, g, F.kp, b, F.ok sc__law_pool (fun vs H Q E h => ?_) (fun cdv A outer s H vs Q E hr h => ?_)⟩
  · obtain ⟨a, ns, k, rfl, _⟩ := h
    rfl
  · obtain ⟨a, ns, k, rfl, hS, hk, q⟩ := h
    refine ⟨_, (pss_cons (ps_set (i := 2) sc__law_pool.nd rfl (Or.inl rfl) pe_int)
    (pss_cons (ps_if (pt_cmpR op_lt (pv 1) (pe_callB call_len_seq (by rfl) T.len (by decide +kernel) (pa_cons (pv 0) pa_nil)) (nomark _))
      (pss_one (ps_set (i := 2) sc__law_pool.nd rfl (Or.inl rfl) (pe_ix ix_list (pv 0) (pv 1) (fun _ _ => rfl))))
      pss_nil)
    (pss_cons (ps_set (i := 3) sc__law_pool.nd rfl (Or.inl rfl) (pe_op op_modN (pe_op op_pow (pe_op op_add (pe_op op_add (pe_op op_modN (pe_callTy call_int1 (by rfl) T.int (by decide +kernel) (pa_cons (pv 2) pa_nil)) pe_int) (pe_op op_mulS (pe_op op_mulS pe_int (pv 1)) (pv 1))) pe_int) pe_int) pe_int))
    (pss_cons (ps_if (pt_cmpR op_lt (pv 2) (pe_op op_pow pe_int pe_int) (nomark _))
      (pss_one (ps_set (i := 2) sc__law_pool.nd rfl (Or.inl rfl) pe_int))
      pss_nil)
    (pss_one (ps_ret (pe_lst (pa_cons (pv 2) (pa_cons (pv 3) pa_nil))))))))), ?_⟩
    have z0 : ∀ c : Int, 0 ≤ ((c.fmod 2147483629 + 7919 * (k : Int) * (k : Int) + 31) ^ (3 : Int).toNat).fmod 2147483647 := fun c => Int.fmod_nonneg_of_pos _ (by decide)
    have z1 : ∀ c : Int, ((c.fmod 2147483629 + 7919 * (k : Int) * (k : Int) + 31) ^ (3 : Int).toNat).fmod 2147483647 < 2147483647 := fun c => Int.fmod_lt_of_pos _ (by decide)
    refine ⟨_, rfl, _, rfl, _, _, rfl, .inl hS, _, _, rfl, rfl, _, rfl, ?_⟩
    refine ite2 (fun c1 => ?_) (fun c1 => ?_)
    · have hlt : k < ns.length := by
        have := of_decide_eq_true c1
        rw [List.length_map] at this
        omega
      refine ⟨_, rfl, _, rfl, a, _, _, .int ns[k], rfl, rfl, hS, atI_nat (by rw [List.getElem?_map, List.getElem?_eq_getElem hlt]; rfl), ?_⟩
      obtain ⟨k1, k2⟩ := seed_ok ns[k] k hk
      refine ⟨_, rfl, .inl ⟨_, rfl, _, _, rfl, rfl, n29, _, rfl, _, _, rfl, rfl, ⟨⟨by decide, by decide⟩, ⟨by omega, by omega⟩⟩, _, rfl, _, _, rfl, rfl, ⟨k1, ⟨by omega, by omega⟩⟩, _, _, rfl, rfl, _, _, rfl, rfl, _, _, rfl, rfl, ⟨by decide, by decide, k2⟩, _, _, rfl, rfl, n47, ?_⟩⟩
      refine ⟨_, rfl, _, _, rfl, rfl, ⟨by decide, by decide, by decide⟩, _, _, rfl, rfl, _, rfl, ?_⟩
      refine ite2 (fun c2 => ?_) (fun c2 => ?_)
      · refine ⟨_, rfl, _, rfl, (by show 2 ≤ sizeLine; decide), fun p hp => ?_⟩
        exact q p _ (Same.new hp) hp ⟨_, _, z0 ns[k], z1 ns[k], upd_same⟩
      · refine ⟨_, rfl, _, rfl, (by show 2 ≤ sizeLine; decide), fun p hp => ?_⟩
        exact q p _ (Same.new hp) hp ⟨_, _, z0 ns[k], z1 ns[k], upd_same⟩
    · obtain ⟨k1, k2⟩ := seed_ok 0 k hk
      refine ⟨_, rfl, .inl ⟨_, rfl, _, _, rfl, rfl, n29, _, rfl, _, _, rfl, rfl, ⟨⟨by decide, by decide⟩, ⟨by omega, by omega⟩⟩, _, rfl, _, _, rfl, rfl, ⟨k1, ⟨by omega, by omega⟩⟩, _, _, rfl, rfl, _, _, rfl, rfl, _, _, rfl, rfl, ⟨by decide, by decide, k2⟩, _, _, rfl, rfl, n47, ?_⟩⟩
      refine ⟨_, rfl, _, _, rfl, rfl, ⟨by decide, by decide, by decide⟩, _, _, rfl, rfl, _, rfl, ?_⟩
      refine ite2 (fun c2 => ?_) (fun c2 => ?_)
      · refine ⟨_, rfl, _, rfl, (by show 2 ≤ sizeLine; decide), fun p hp => ?_⟩
        exact q p _ (Same.new hp) hp ⟨_, _, z0 0, z1 0, upd_same⟩
      · refine ⟨_, rfl, _, rfl, (by show 2 ≤ sizeLine; decide), fun p hp => ?_⟩
        exact q p _ (Same.new hp) hp ⟨_, _, z0 0, z1 0, upd_same⟩
abbrev s__law_draw : Stmt := top 5
theorem sc__law_draw : FnScope ["_law_pool_here", "_law_many", "_law_digit"] ["_law_pool_here", "_law_many"] (defScope s__law_draw) := ⟨rfl, rfl, rfl, by decide +kernel, rfl, by decide +kernel, by decide +kernel⟩
def spDraw : Sp := fun vs H Q _ => ∃ (pp : Addr) (n : Int), vs = [.ref pp, .int n] ∧ 0 < n ∧ Sm n ∧ PoolAt H pp ∧ ∀ d H', 0 ≤ d → d < n → PoolAt H' pp → Keep pp H H' → Q (.int d) H'
theorem ok__law_draw (h : Has K mg "_law_draw" s__law_draw ["_law_pool_here", "_law_many"]) (T : Txt K mg aR) : Ok P w K mg base 1 "_law_draw" ["_law_pool_here", "_law_many"] spDraw := by
  obtain ⟨f, fd, g, b, F⟩ := h
  refine ⟨f, fd, g, F.kp, b, F.ok sc__law_draw (fun vs H Q E h => ?_) (fun cdv A outer s H vs Q E hr h => ?_)⟩
  · obtain ⟨pp, n, rfl, _⟩ := h
    rfl
  · obtain ⟨pp, n, rfl, hn, sn, ⟨c, z, z0, z1, hp⟩, q⟩ := h
    have hn0 : n ≠ 0 := by omega
    refine ⟨_, (pss_cons (ps_if (pt_cmpR op_gt (pe_ix ix_list (pv 0) pe_int (fun _ _ => rfl)) pe_int (nomark _))
      (pss_cons (ps_set (i := 2) sc__law_draw.nd rfl (Or.inl rfl) (pe_op op_modN (pe_callTy call_int1 (by rfl) T.int (by decide +kernel) (pa_cons (pe_ix ix_list (pv 0) pe_int (fun _ _ => rfl)) pa_nil)) (pv 1)))
      (pss_cons (ps_asg (pe_op op_divS (pe_ix ix_list (pv 0) pe_int (fun _ _ => rfl)) (pv 1)) (pg_sub (pv 0) pe_int set_list))
      (pss_one (ps_ret (pv 2)))))
      pss_nil)
    (pss_cons (ps_asg (pe_op op_modN (pe_callTy call_int1 (by rfl) T.int (by decide +kernel) (pa_cons (pe_op op_add (pe_op op_mulS (pe_ix ix_list (pv 0) pe_int (fun _ _ => rfl)) pe_int) pe_int) pa_nil)) pe_int) (pg_sub (pv 0) pe_int set_list))
    (pss_one (ps_ret (pe_op op_modN (pe_op op_divS (pe_op op_modN (pe_callTy call_int1 (by rfl) T.int (by decide +kernel) (pa_cons (pe_op op_mulS (pe_ix ix_list (pv 0) pe_int (fun _ _ => rfl)) (pe_ix ix_list (pv 0) pe_int (fun _ _ => rfl))) pa_nil)) pe_int) pe_int) (pv 1)))))), ?_⟩
    refine ⟨_, rfl, pp, _, _, _, rfl, rfl, SqL.of hp, atI0, _, _, rfl, rfl, _, rfl, ?_⟩
    refine ite2 (fun c1 => ?_) (fun c1 => ?_)
    · refine ⟨_, rfl, pp, _, _, _, rfl, rfl, SqL.of hp, atI0, .inl ⟨_, rfl, _, rfl, _, _, rfl, rfl, hn0, ?_⟩⟩
      refine ⟨_, rfl, pp, _, _, _, rfl, rfl, SqL.of hp, atI0, _, rfl, _, _, rfl, rfl, ⟨hn0, sn⟩, _, rfl, pp, _, _, 0, rfl, rfl, hp, rfl, ?_⟩
      refine ⟨_, rfl, ?_⟩
      exact q _ _ (Int.fmod_nonneg_of_pos _ hn) (Int.fmod_lt_of_pos _ hn) ⟨_, z, z0, z1, upd_same⟩ fun b o e nb => by
        rw [upd_ne nb]
        exact e
    · have s0 : 0 ≤ (z * 48271 + 11).fmod 2147483647 := Int.fmod_nonneg_of_pos _ (by decide)
      have s1 : (z * 48271 + 11).fmod 2147483647 < 2147483647 := Int.fmod_lt_of_pos _ (by decide)
      refine ⟨_, rfl, pp, _, _, _, rfl, rfl, SqL.of hp, atI1, _, _, rfl, rfl, ⟨⟨by omega, by omega⟩, ⟨by decide, by decide⟩⟩, _, _, rfl, rfl, .inl ⟨_, rfl, _, _, rfl, rfl, n47, _, rfl, pp, _, _, 1, rfl, rfl, hp, rfl, ?_⟩⟩
      have e2 : (upd H pp (.lst ([V.int c, V.int z].set 1 (.int ((z * 48271 + 11).fmod 2147483647))))) pp = some (.lst [V.int c, V.int ((z * 48271 + 11).fmod 2147483647)]) := upd_same
      refine ⟨_, rfl, pp, _, _, _, rfl, rfl, SqL.of e2, atI1, _, rfl, pp, _, _, _, rfl, rfl, SqL.of e2, atI1, _, _, rfl, rfl, ⟨⟨by omega, by omega⟩, ⟨by omega, by omega⟩⟩, .inl ⟨_, rfl, _, _, rfl, rfl, n29, _, _, rfl, rfl, ⟨by decide, ⟨by decide, by decide⟩⟩, _, rfl, _, _, rfl, rfl, hn0, ?_⟩⟩
      exact q _ _ (Int.fmod_nonneg_of_pos _ hn) (Int.fmod_lt_of_pos _ hn) ⟨_, _, s0, s1, e2⟩ fun b o e nb => by
        rw [upd_ne nb]
        exact e
abbrev s__law_choose : Stmt := top 6
theorem sc__law_choose : FnScope ["_law_pool_here", "_law_items"] ["_law_pool_here", "_law_items"] (defScope s__law_choose) := ⟨rfl, rfl, rfl, by decide +kernel, rfl, by decide +kernel, by decide +kernel⟩
def spChoose (K : PySem.W.Frag) : Sp := fun vs H Q _ => ∃ (pp l : Addr) (xs : List V), vs = [.ref pp, .ref l] ∧ SqL K H l xs ∧ l ≠ pp ∧ 0 < xs.length ∧ xs.length < 1000000 ∧ PoolAt H pp ∧ ∀ v H', v ∈ xs → PoolAt H' pp → Keep pp H H' → Q v H'
theorem ok__law_choose (h : Has K mg "_law_choose" s__law_choose ["_law_pool_here", "_law_items"]) (T : Txt K mg aR) (O__law_draw : Ok P w K mg base 1 "_law_draw" ["_law_pool_here", "_law_many"] spDraw) : Ok P w K mg base 2 "_law_choose" ["_law_pool_here", "_law_items"] (spChoose K) := by
  obtain ⟨f, fd, g, b, F⟩ := h
  refine ⟨f, fd, g, F.kp, b, F.ok sc__law_choose (fun vs H Q E h => ?_) (fun cdv A outer s H vs Q E hr h => ?_)⟩
  · obtain ⟨pp, l, xs, rfl, _⟩ := h
    rfl
  · obtain ⟨pp, l, xs, rfl, hS, hne, hl0, hl1, hP, q⟩ := h
    refine ⟨_, (pss_one (ps_ret (pe_ix ix_list (pv 1) (pe_cO O__law_draw (hr.mono (by decide)) pass0 rfl (pa_cons (pv 0) (pa_cons (pe_callB call_len_seq (by rfl) T.len (by decide +kernel) (pa_cons (pv 1) pa_nil)) pa_nil))) (fun _ _ => rfl)))), ?_⟩
    refine ⟨_, rfl, _, rfl, _, rfl, l, xs, rfl, .inl hS, pp, _, rfl, by omega, ⟨by omega, by omega⟩, hP, fun d H' d0 d1 P' k' => ?_⟩
    have hj : d.toNat < xs.length := by omega
    refine ⟨l, xs, d, xs[d.toNat], rfl, rfl, k'.seq hne hS, ?_, q _ H' (List.getElem_mem hj) P' k'⟩
    exact at_of (j := d.toNat) (by omega) (List.getElem?_eq_getElem hj)
end
/-! ### check numbers: the mathematics -/
def cstep (a : Int) (c : Nat) : Int := (a * 257 + (c : Int)).fmod 65521
def chk (b : Int) (cs : List Nat) : Int := cs.foldl cstep b
theorem cstep_lo (a : Int) (c : Nat) : 0 ≤ cstep a c := Int.fmod_nonneg_of_pos _ (by decide)
theorem cstep_hi (a : Int) (c : Nat) : cstep a c < 65521 := Int.fmod_lt_of_pos _ (by decide)
theorem chk_bd : ∀ (cs : List Nat) (b : Int), 0 ≤ b → b < 65521 → 0 ≤ chk b cs ∧ chk b cs < 65521
  | [], b, h0, h1 => ⟨h0, h1⟩
  | c :: cs, b, _, _ => chk_bd cs (cstep b c) (cstep_lo _ _) (cstep_hi _ _)
theorem chk_app (b : Int) (xs ys : List Nat) : chk b (xs ++ ys) = chk (chk b xs) ys := List.foldl_append
theorem chk_snoc (b : Int) (xs : List Nat) (c : Nat) : chk b (xs ++ [c]) = cstep (chk b xs) c := chk_app b xs [c]
/-- a multiple of 65521 that is 257 times something small is 0 -/
theorem small_zero {d k : Int} (e : 257 * d = 65521 * k) (h0 : -65521 < d) (h1 : d < 65521) : d = 0 := by
  have z : d = 65521 * (51499 * k - 202 * d) := by omega
  generalize 51499 * k - 202 * d = t at z
  omega
theorem fmod_sub {a b : Int} (e : a.fmod 65521 = b.fmod 65521) : ∃ k, a - b = 65521 * k := by
  refine ⟨a.fdiv 65521 - b.fdiv 65521, ?_⟩
  have h1 := Int.mul_fdiv_add_fmod a 65521
  have h2 := Int.mul_fdiv_add_fmod b 65521
  omega
theorem cstep_inj {a b : Int} {c : Nat} (a0 : 0 ≤ a) (a1 : a < 65521) (b0 : 0 ≤ b) (b1 : b < 65521) (e : cstep a c = cstep b c) : a = b := by
  obtain ⟨k, hk⟩ := fmod_sub e
  have := small_zero (d := a - b) (k := k) (by omega) (by omega) (by omega)
  omega
theorem cstep_sign {a : Int} {c d : Nat} (hc : c < 65521) (hd : d < 65521) (e : cstep a c = cstep a d) : c = d := by
  obtain ⟨k, hk⟩ := fmod_sub e
  omega
theorem chk_inj : ∀ (cs : List Nat) {a b : Int}, 0 ≤ a → a < 65521 → 0 ≤ b → b < 65521 → chk a cs = chk b cs → a = b
  | [], _, _, _, _, _, _, e => e
  | c :: cs, a, b, a0, a1, b0, b1, e => cstep_inj a0 a1 b0 b1 (chk_inj cs (cstep_lo _ _) (cstep_hi _ _) (cstep_lo _ _) (cstep_hi _ _) e)
/-- a text with one sign put otherwise -/
theorem chk_bent {xs ys : List Nat} {c d : Nat} (hc : c < 65521) (hd : d < 65521) : chk 0 (xs ++ [d] ++ ys) = chk 0 (xs ++ [c] ++ ys) ↔ d = c := by
  refine ⟨fun e => ?_, fun e => by rw [e]⟩
  have lo : (0 : Int) ≤ 0 ∧ (0 : Int) < 65521 := ⟨by decide, by decide⟩
  rw [chk_app, chk_app 0 (xs ++ [c])] at e
  have b1 := chk_bd (xs ++ [d]) 0 lo.1 lo.2
  have b2 := chk_bd (xs ++ [c]) 0 lo.1 lo.2
  have e2 := chk_inj ys b1.1 b1.2 b2.1 b2.2 e
  rw [chk_snoc, chk_snoc] at e2
  exact cstep_sign hd hc e2
/-- the signs of a text -/
abbrev sg (z : Str) : List Nat := z.cps.toList
def Fair (z : Str) : Prop := ∀ c ∈ sg z, c < 127
theorem sg_app (x y : Str) : sg (x ++ y) = sg x ++ sg y := by
  show (x.cps ++ y.cps).toList = _
  simp
theorem sg_len (x : Str) : (sg x).length = x.length := by simp [sg, Str.length]
theorem sg_inj {x y : Str} (h : sg x = sg y) : x = y := by
  obtain ⟨a⟩ := x
  obtain ⟨b⟩ := y
  have : a = b := Array.toList_inj.mp h
  rw [this]
section
variable {X : Cx}
theorem fold_arr (a : Array Nat) : ∀ (k : Nat) (acc : Array Nat), ((List.replicate k a).foldl (· ++ ·) acc).toList = acc.toList ++ (List.replicate k a.toList).flatten
  | 0, acc => by simp
  | k + 1, acc => by
    rw [List.replicate_succ, List.foldl_cons, fold_arr a k, List.replicate_succ, List.flatten_cons]
    simp [List.append_assoc]
/-- a short text, many times -/
def rRepS1 : R2 := fun x y H Q => ∃ (z : Str) (n : Int), x = .str z ∧ y = .int n ∧ 0 ≤ n ∧ n ≤ 1000 ∧ z.length ≤ 1000 ∧ ∀ r : Str, sg r = (List.replicate n.toNat (sg z)).flatten → Q (.str r) H
theorem op_repS1 : OpR X (binaryOp .Mult) rRepS1 := by
  intro pins s σ H x y v u Q I rx ry h
  obtain ⟨z, n, rfl, rfl, n0, n1, zl, q⟩ := h
  obtain ⟨t, rfl⟩ := rx
  obtain ⟨t', rfl⟩ := ry
  have big : z.length * n.toNat ≤ sizeLine := Nat.le_trans (Nat.mul_le_mul zl (show n.toNat ≤ 1000 by omega)) (by decide)
  refine PySem.P.mul_str ?_ (fun h1 h2 => ?_) (fun h1 h2 => ?_) ?_
  · rw [decide_eq_false (by omega), decide_eq_false (by omega)]
    rfl
  · have h3 : (1000 : Int) ≤ (2 ^ 63 - 1) / n := Int.le_ediv_of_mul_le (by omega) (by omega)
    omega
  · exact decide_eq_false (by omega)
  · by_cases e0 : n < 1
    · rw [if_pos e0]
      refine ⟨by show 0 ≤ sizeLine; decide, .str _, H, I.tok _, ⟨_, rfl⟩, q _ ?_⟩
      rw [show n.toNat = 0 by omega]
      rfl
    · rw [if_neg e0]
      by_cases e1 : (n == 1 || z.length == 0) = true
      · rw [if_pos e1]
        refine ⟨.str z, H, I, ⟨_, rfl⟩, q _ ?_⟩
        rcases Bool.or_eq_true _ _ ▸ e1 with e2 | e2
        · rw [show n.toNat = 1 by have := eq_of_beq e2; omega]
          simp
        · have : sg z = [] := List.eq_nil_of_length_eq_zero (by rw [sg_len]; exact eq_of_beq e2)
          rw [this]
          simp
      · rw [if_neg e1]
        have hf : sg (⟨(List.replicate n.toNat z.cps).foldl (· ++ ·) #[]⟩ : Str) = (List.replicate n.toNat (sg z)).flatten := by
          show ((List.replicate n.toNat z.cps).foldl (· ++ ·) #[]).toList = _
          rw [fold_arr]
          simp [sg]
        refine ⟨?_, .str _, H, I.tok _, ⟨_, rfl⟩, q _ hf⟩
        rw [← sg_len, hf]
        simp only [List.length_flatten, List.map_replicate, List.sum_replicate_nat, sg_len]
        rw [Nat.mul_comm]
        exact big
end
section
variable {P : Program} {w : World} {K : PySem.W.Frag} {mg : Str → Option Value} {base : Heap} {aR : Addr}
theorem sg_at {z : Str} {i c : Nat} (h : z.cps[i]? = some c) : (sg z)[i]? = some c := by
  show z.cps.toList[i]? = some c
  rw [Array.getElem?_toList]
  exact h
theorem take_snoc {α : Type} {xs : List α} {i : Nat} {c : α} (h : xs[i]? = some c) : xs.take (i + 1) = xs.take i ++ [c] := by
  rw [List.take_add_one, h]
  rfl
theorem take_all (z : Str) : (sg z).take z.cps.size = sg z := List.take_of_length_le (by simp [sg])
abbrev s_check_number : Stmt := top 2
abbrev N_check_number : List Str := ["text", "check", "letter"]
theorem sc_check_number : FnScope N_check_number ["text"] (defScope s_check_number) := ⟨rfl, rfl, rfl, by decide +kernel, rfl, by decide +kernel, by decide +kernel⟩
def spCheck : Sp := fun vs H Q _ => ∃ z : Str, vs = [.str z] ∧ Fair z ∧ Q (.int (chk 0 (sg z))) H
theorem ok_check_number (h : Has K mg "check_number" s_check_number ["text"]) (T : Txt K mg aR) : Ok P w K mg base 1 "check_number" ["text"] spCheck := by
  obtain ⟨f, fd, g, b, F⟩ := h
  refine ⟨f, fd, g, F.kp, b, F.ok sc_check_number (fun vs H Q E h => ?_) (fun cdv A outer s H vs Q E hr h => ?_)⟩
  · obtain ⟨z, rfl, _⟩ := h
    rfl
  · obtain ⟨z, rfl, fair, q⟩ := h
    obtain ⟨tP, hP⟩ := T.gMODULUS
    refine ⟨_, (pss_cons (ps_set (i := 1) sc_check_number.nd rfl (.inl rfl) pe_int)
      (pss_cons (ps_for PassesOwn.never rfl (pi_str (pv 0)) (pg_name (i := 2) sc_check_number.nd rfl (.inl rfl))
        (pss_one (ps_set (i := 1) sc_check_number.nd rfl (.inl rfl) (pe_op op_modN (pe_op op_add (pe_op op_mulS (pv 1) pe_int) (pe_callB call_ord (by rfl) T.ord (by decide +kernel) (pa_cons (pv 2) pa_nil))) (pe_glob (v := .int 65521) (by rfl) hP ⟨_, rfl⟩)))))
      (pss_one (ps_ret (pv 1))))), ?_⟩
    refine ⟨_, rfl, z, rfl, for_it walk_str (fun i σ H' => H' = H ∧ ∃ v : Option V, σ = [some (.str z), some (.int (chk 0 ((sg z).take i))), v]) ⟨rfl, none, rfl⟩ (fun _ _ _ _ _ => True.intro) ?_ ?_⟩
    · rintro i x σ H1 H2 hi ⟨rfl, v, rfl⟩ ⟨rfl, c, hc, rfl⟩
      have hc' := sg_at hc
      have bd := chk_bd ((sg z).take i) 0 (by decide) (by decide)
      refine ⟨_, rfl, _, _, rfl, rfl, ⟨⟨by omega, by omega⟩, ⟨by decide, by decide⟩⟩, _, rfl, _, rfl, rfl, _, _, rfl, rfl, _, _, rfl, rfl, (by show (65521 : Int) ≠ 0; decide), rfl, some (.str ⟨#[c]⟩), ?_⟩
      rw [take_snoc hc', chk_snoc]
      rfl
    · rintro σ H1 ⟨rfl, v, rfl⟩
      refine ⟨_, rfl, ?_⟩
      rw [take_all]
      exact q
abbrev s__law_check : Stmt := top 9
abbrev N__law_check : List Str := ["_law_begin", "_law_text_here", "_law_found", "_law_character_here"]
theorem sc__law_check : FnScope N__law_check ["_law_begin", "_law_text_here"] (defScope s__law_check) := ⟨rfl, rfl, rfl, by decide +kernel, rfl, by decide +kernel, by decide +kernel⟩
def spLawCheck : Sp := fun vs H Q _ => ∃ (b : Int) (z : Str), vs = [.int b, .str z] ∧ 0 ≤ b ∧ b < 65521 ∧ Fair z ∧ Q (.int (chk b (sg z))) H
theorem ok__law_check (h : Has K mg "_law_check" s__law_check ["_law_begin", "_law_text_here"]) (T : Txt K mg aR) : Ok P w K mg base 1 "_law_check" ["_law_begin", "_law_text_here"] spLawCheck := by
  obtain ⟨f, fd, g, b, F⟩ := h
  refine ⟨f, fd, g, F.kp, b, F.ok sc__law_check (fun vs H Q E h => ?_) (fun cdv A outer s H vs Q E hr h => ?_)⟩
  · obtain ⟨b, z, rfl, _⟩ := h
    rfl
  · obtain ⟨b, z, rfl, b0, b1, fair, q⟩ := h
    refine ⟨_, (pss_cons (ps_set (i := 2) sc__law_check.nd rfl (.inl rfl) (pv 0))
      (pss_cons (ps_for PassesOwn.never rfl (pi_str (pv 1)) (pg_name (i := 3) sc__law_check.nd rfl (.inl rfl))
        (pss_one (ps_set (i := 2) sc__law_check.nd rfl (.inl rfl) (pe_op op_modN (pe_callTy call_int1 (by rfl) T.int (by decide +kernel) (pa_cons (pe_op op_add (pe_op op_mulS (pv 2) pe_int) (pe_callB call_ord (by rfl) T.ord (by decide +kernel) (pa_cons (pv 3) pa_nil))) pa_nil)) pe_int))))
      (pss_one (ps_ret (pv 2))))), ?_⟩
    refine ⟨_, rfl, _, rfl, z, rfl, for_it walk_str (fun i σ H' => H' = H ∧ ∃ v : Option V, σ = [some (.int b), some (.str z), some (.int (chk b ((sg z).take i))), v]) ⟨rfl, none, rfl⟩ (fun _ _ _ _ _ => True.intro) ?_ ?_⟩
    · rintro i x σ H1 H2 hi ⟨rfl, v, rfl⟩ ⟨rfl, c, hc, rfl⟩
      have hc' := sg_at hc
      have bd := chk_bd ((sg z).take i) b b0 b1
      refine ⟨_, rfl, _, _, rfl, rfl, ⟨⟨by omega, by omega⟩, ⟨by decide, by decide⟩⟩, _, rfl, _, rfl, rfl, _, _, rfl, rfl, .inl ⟨_, rfl, _, _, rfl, rfl, (by show (65521 : Int) ≠ 0; decide), rfl, some (.str ⟨#[c]⟩), ?_⟩⟩
      rw [take_snoc hc', chk_snoc]
      rfl
    · rintro σ H1 ⟨rfl, v, rfl⟩
      refine ⟨_, rfl, ?_⟩
      rw [take_all]
      exact q
abbrev s__law_character : Stmt := top 7
abbrev N__law_character : List Str := ["_law_pool_here", "_law_signs"]
theorem sc__law_character : FnScope N__law_character ["_law_pool_here"] (defScope s__law_character) := ⟨rfl, rfl, rfl, by decide +kernel, rfl, by decide +kernel, by decide +kernel⟩
def spChar : Sp := fun vs H Q _ => ∃ pp, vs = [.ref pp] ∧ PoolAt H pp ∧ ∀ (c : Nat) H', c < 127 → PoolAt H' pp → Keep pp H H' → Q (.str ⟨#[c]⟩) H'
def signs : Str := "\n !\"#$&'()*+,-./0123456789:;<=>?@ABCDEFGHIJKLMNOPQRSTUVWXYZ[\\]^_`abcdefghijklmnopqrstuvwxyz{|}~"
theorem signs_len : signs.length = 95 := by decide +kernel
theorem signs_all : ∀ c ∈ signs.cps.toList, c < 127 := by decide +kernel
theorem ok__law_character (h : Has K mg "_law_character" s__law_character ["_law_pool_here"]) (T : Txt K mg aR) (O__law_draw : Ok P w K mg base 1 "_law_draw" ["_law_pool_here", "_law_many"] spDraw) : Ok P w K mg base 2 "_law_character" ["_law_pool_here"] spChar := by
  obtain ⟨f, fd, g, b, F⟩ := h
  refine ⟨f, fd, g, F.kp, b, F.ok sc__law_character (fun vs H Q E h => ?_) (fun cdv A outer s H vs Q E hr h => ?_)⟩
  · obtain ⟨pp, rfl, _⟩ := h
    rfl
  · obtain ⟨pp, rfl, hP, q⟩ := h
    refine ⟨_, (pss_cons (ps_set (i := 1) sc__law_character.nd rfl (.inl rfl) pe_str)
      (pss_one (ps_ret (pe_ix ix_str (pv 1) (pe_cO O__law_draw (hr.mono (by decide)) pass0 rfl (pa_cons (pv 0) (pa_cons (pe_callB call_len_str (by rfl) T.len (by decide +kernel) (pa_cons (pv 1) pa_nil)) pa_nil))) (fun _ _ => rfl))))), ?_⟩
    have big : signs.length ≤ sizeLine := by rw [signs_len]; decide
    refine ⟨_, rfl, _, rfl, _, rfl, signs, rfl, big, pp, _, rfl, by rw [signs_len]; decide, by rw [signs_len]; exact ⟨by decide, by decide⟩, hP, fun d H' d0 d1 P' k' => ?_⟩
    have hl : signs.cps.toList.length = signs.length := sg_len signs
    have hj : d.toNat < signs.cps.toList.length := by omega
    obtain ⟨j, rfl⟩ : ∃ j : Nat, d = j := ⟨d.toNat, (Int.toNat_of_nonneg d0).symm⟩
    rw [Int.toNat_natCast] at hj
    have ha : atI signs.cps.toList (j : Int) = some signs.cps.toList[j] := atI_nat (List.getElem?_eq_getElem hj)
    refine ⟨signs, (j : Int), signs.cps.toList[j], rfl, rfl, big, ha, ?_⟩
    exact q _ H' (signs_all _ (List.getElem_mem hj)) P' k'
end
section
variable {P : Program} {w : World} {K : PySem.W.Frag} {mg : Str → Option Value} {base : Heap} {aR : Addr}
theorem Keep.same_of {pp : Addr} {H H1 H2 : Hp} (k : Keep pp H1 H2) (s : Same H H1) (n : H pp = none) : Same H H2 := fun b o e => k b o (s b o e) (ne_of_none e n)
theorem join_ones : ∀ cs : List Nat, sg (Txt.join "" (cs.map fun c => ⟨#[c]⟩)) = cs := by
  intro cs
  have e : sg (Txt.join "" (cs.map fun c => ⟨#[c]⟩)) = TL.joinL (TL.tl "") ((cs.map fun c => (⟨#[c]⟩ : Str)).map TL.tl) := by
    rw [TL.join_eq]
    exact TL.tl_join _ _
  rw [e]
  clear e
  have e0 : TL.tl "" = [] := by decide +kernel
  rw [e0]
  induction cs with
  | nil => rfl
  | cons a r ih =>
    cases r with
    | nil => rfl
    | cons b r =>
      have ih' : TL.joinL [] (((b :: r).map fun c => (⟨#[c]⟩ : Str)).map TL.tl) = b :: r := ih
      show [a] ++ ([] ++ TL.joinL [] (((b :: r).map fun c => (⟨#[c]⟩ : Str)).map TL.tl)) = _
      rw [ih']
      rfl
theorem sum_ones : ∀ cs : List Nat, ((cs.map fun c => (⟨#[c]⟩ : Str)).map (·.length)).sum = cs.length
  | [] => rfl
  | c :: cs => by
    rw [List.map_cons, List.map_cons, List.sum_cons, sum_ones cs, List.length_cons]
    show 1 + cs.length = _
    omega
abbrev s__law_text : Stmt := top 8
abbrev N__law_text : List Str := ["_law_pool_here", "_law_many", "_law_turn"]
theorem sc__law_text : FnScope N__law_text ["_law_pool_here"] (defScope s__law_text) := ⟨rfl, rfl, rfl, by decide +kernel, rfl, by decide +kernel, by decide +kernel⟩
def spText : Sp := fun vs H Q _ => ∃ pp, vs = [.ref pp] ∧ PoolAt H pp ∧ ∀ (z : Str) H', Fair z → z.length ≤ 40 → PoolAt H' pp → Keep pp H H' → Q (.str z) H'
theorem ok__law_text (h : Has K mg "_law_text" s__law_text ["_law_pool_here"]) (T : Txt K mg aR) (O__law_draw : Ok P w K mg base 1 "_law_draw" ["_law_pool_here", "_law_many"] spDraw) (O__law_character : Ok P w K mg base 2 "_law_character" ["_law_pool_here"] spChar) : Ok P w K mg base 3 "_law_text" ["_law_pool_here"] spText := by
  obtain ⟨f, fd, g, b, F⟩ := h
  refine ⟨f, fd, g, F.kp, b, F.ok sc__law_text (fun vs H Q E h => ?_) (fun cdv A outer s H vs Q E hr h => ?_)⟩
  · obtain ⟨pp, rfl, _⟩ := h
    rfl
  · obtain ⟨pp, rfl, hP, q⟩ := h
    refine ⟨_, (pss_cons (ps_set (i := 1) sc__law_text.nd rfl (.inl rfl) (pe_cO O__law_draw (hr.mono (by decide)) pass0 rfl (pa_cons (pv 0) (pa_cons pe_int pa_nil))))
      (pss_cons (ps_if (pt_cmpR op_eq (pe_cO O__law_draw (hr.mono (by decide)) pass0 rfl (pa_cons (pv 0) (pa_cons pe_int pa_nil))) pe_int (nomark _))
        (pss_one (ps_ret (pe_op op_repS1 (pe_cO O__law_character (hr.mono (by decide)) pass0 rfl (pa_cons (pv 0) pa_nil)) (pv 1))))
        pss_nil)
      (pss_one (ps_ret (pe_join pe_str (pe_lc (own := [("_law_turn", 2)]) (g := (gName 2)) (tt := tYes) rfl sc__law_text.nd (pi_range1 (by rfl) T.range (pa_cons (pv 1) pa_nil)) (blkOk_by (N := N__law_text) (sc := defScope s__law_text) (by decide +kernel)) (fun _ _ _ _ _ => (pg_name (i := 2) sc__law_text.nd rfl (.inl rfl))) (fun _ _ _ _ _ => pts_nil) (fun _ _ _ _ _ => (pe_cO O__law_character (hr.mono (by decide)) pass0 rfl (pa_cons (pv 0) pa_nil))))))))), ?_⟩
    refine ⟨_, rfl, pp, 41, rfl, by decide, ⟨by decide, by decide⟩, hP, fun m H1 m0 m1 P1 k1 => ?_⟩
    refine ⟨_, rfl, pp, 3, rfl, by decide, ⟨by decide, by decide⟩, P1, fun d H2 d0 d1 P2 k2 => ?_⟩
    refine ⟨rfl, _, rfl, ite2 (fun c0 => ?_) (fun c0 => ?_)⟩
    · refine ⟨_, rfl, pp, rfl, P2, fun c H3 hc P3 k3 => ?_⟩
      refine ⟨_, rfl, ⟨#[c]⟩, m, rfl, rfl, m0, by omega, by show 1 ≤ 1000; decide, fun r hr => q r H3 ?_ ?_ P3 ((k1.trans k2).trans k3)⟩
      · intro x hx
        rw [hr] at hx
        obtain ⟨l, hl, hx⟩ := List.mem_flatten.mp hx
        rw [(List.mem_replicate.mp hl).2] at hx
        have : x = c := by simpa [sg] using hx
        omega
      · rw [← sg_len, hr]
        simp only [List.length_flatten, List.map_replicate, List.sum_replicate_nat]
        show m.toNat * 1 ≤ 40
        omega
    · refine ⟨⟨_, rfl⟩, _, rfl, m, rfl, by omega, by omega, fun D hD => ?_⟩
      have neD : D ≠ pp := P2.ne hD
      refine lc_range (n := m.toNat) (fun i H' => Keep pp H2 H' ∧ PoolAt H' pp ∧ ∃ cs : List Nat, H' D = some (.lst (cs.map fun c => V.str ⟨#[c]⟩)) ∧ cs.length = i ∧ ∀ c ∈ cs, c < 127) ⟨Same.keep (Same.new hD), P2.same (Same.new hD), [], upd_same, rfl, fun c e => nomatch e⟩ ?_ ?_
      · rintro i H' hi ⟨ki, Pi, cs, hcs, li, fi⟩
        refine ⟨rfl, ?_⟩
        unfold tYes
        dsimp only
        rw [if_pos rfl]
        refine ⟨_, rfl, pp, rfl, Pi, fun c H3 hc P3 k3 => ?_⟩
        have h3 := k3 _ _ hcs neD
        refine ⟨_, h3, by rw [List.length_map, li]; exact Nat.lt_of_lt_of_le hi (Nat.le_trans (by omega : _ ≤ 40) (by decide)), fun b o e nb => ?_, ?_, cs ++ [c], ?_, ?_, fun x hx => ?_⟩
        · rw [upd_ne (ne_of_none e hD)]
          exact k3 _ _ (ki _ _ e nb) nb
        · obtain ⟨c0, z, z0, z1, hp⟩ := P3
          exact ⟨c0, z, z0, z1, by rw [upd_ne (Ne.symm neD)]; exact hp⟩
        · rw [upd_same, List.map_append]
          rfl
        · rw [List.length_append, li]
          rfl
        · rcases List.mem_append.mp hx with hx | hx
          · exact fi x hx
          · rw [List.mem_singleton.mp hx]
            exact hc
      · rintro H3 ⟨k3, P3, cs, hcs, li, fi⟩
        refine ⟨"", D, cs.map fun c => ⟨#[c]⟩, rfl, rfl, .inl (SqL.of (by rw [hcs, List.map_map]; rfl)), ?_, q _ H3 ?_ ?_ P3 ((k1.trans k2).trans k3)⟩
        · rw [sum_ones, li, List.length_map, li]
          show m.toNat + m.toNat * 0 ≤ _
          omega
        · intro x hx
          rw [join_ones] at hx
          exact fi x hx
        · rw [← sg_len, join_ones, li]
          omega
/-! ### the law -/
theorem cut_lo (z : Str) (i : Nat) : sg (cutS z none (some (i : Int))) = (sg z).take i := by
  show (((z.cps.toList.drop (HT.sIx z.length 0 none)).take (HT.sIx z.length z.length (some (i : Int)) - HT.sIx z.length 0 none)).toArray).toList = _
  rw [HT.sIx_none, HT.sIx_nat]
  simp only [List.drop_zero, Nat.sub_zero, List.toList_toArray]
  show z.cps.toList.take (min i z.length) = z.cps.toList.take i
  have hl : z.cps.toList.length = z.length := sg_len z
  by_cases h : i ≤ z.length
  · rw [Nat.min_eq_left h]
  · rw [Nat.min_eq_right (by omega), List.take_of_length_le (by omega), List.take_of_length_le (by omega)]
theorem cut_hi (z : Str) (i : Nat) : sg (cutS z (some (i : Int)) none) = (sg z).drop i := by
  show (((z.cps.toList.drop (HT.sIx z.length 0 (some (i : Int)))).take (HT.sIx z.length z.length none - HT.sIx z.length 0 (some (i : Int)))).toArray).toList = _
  rw [HT.sIx_none, HT.sIx_nat]
  simp only [List.toList_toArray]
  show (z.cps.toList.drop (min i z.length)).take (z.length - min i z.length) = z.cps.toList.drop i
  have hl : z.cps.toList.length = z.length := sg_len z
  rw [List.take_of_length_le (by rw [List.length_drop]; omega)]
  by_cases h : i ≤ z.length
  · rw [Nat.min_eq_left h]
  · rw [Nat.min_eq_right (by omega), List.drop_of_length_le (by omega), List.drop_of_length_le (by omega)]
theorem Fair.app {x y : Str} (a : Fair x) (b : Fair y) : Fair (x ++ y) := fun c hc => by
  rw [sg_app] at hc
  exact (List.mem_append.mp hc).elim (a c) (b c)
theorem parts_at {xs : List Nat} {i c : Nat} (h : xs[i]? = some c) : xs = xs.take i ++ [c] ++ xs.drop (i + 1) := by
  obtain ⟨h1, h2⟩ := List.getElem?_eq_some_iff.mp h
  rw [← take_snoc h]
  exact (List.take_append_drop _ _).symm
theorem bent_iff {xs ys : List Nat} {c d : Nat} : xs ++ [d] ++ ys = xs ++ [c] ++ ys ↔ d = c := by
  refine ⟨fun e => ?_, fun e => by rw [e]⟩
  have e1 := List.append_cancel_right e
  have e2 := List.append_cancel_left e1
  injection e2
abbrev s_law : Stmt := top 10
abbrev N_law : List Str := ["_law_script", "_law_k", "_law_pool_here", "_law_one", "_law_other", "_law_value", "_law_at", "_law_new", "_law_bent"]
theorem sc_law : FnScope N_law ["_law_script"] (defScope s_law) := ⟨rfl, rfl, rfl, by decide +kernel, rfl, by decide +kernel, by decide +kernel⟩
def spLaw (K : PySem.W.Frag) : Sp := fun vs H Q _ => ∃ (a : Addr) (ns : List Int), vs = [.ref a] ∧ SqL K H a (ns.map V.int) ∧ ns.length ≤ 63 ∧ ∀ H', Q (.bl true) H'
theorem dec_iff {A B : Prop} [Decidable A] [Decidable B] (h : A ↔ B) : decide A = decide B := decide_eq_decide.mpr h
theorem vi_iff {i j : Int} : V.int i = V.int j ↔ i = j := ⟨fun h => by injection h, fun h => by rw [h]⟩
theorem vs_iff {i j : Str} : V.str i = V.str j ↔ i = j := ⟨fun h => by injection h, fun h => by rw [h]⟩
theorem ok_law {f : Addr} {fd : FuncData} (F : Fun K "law" "law" s_law f fd) (T : Txt K mg aR) (O_check_number : Ok P w K mg base 1 "check_number" ["text"] spCheck) (O__law_pool : Ok P w K mg base 1 "_law_pool" ["_law_script", "_law_k"] (spPool K)) (O__law_draw : Ok P w K mg base 1 "_law_draw" ["_law_pool_here", "_law_many"] spDraw)
    (O__law_character : Ok P w K mg base 2 "_law_character" ["_law_pool_here"] spChar) (O__law_text : Ok P w K mg base 3 "_law_text" ["_law_pool_here"] spText) (O__law_check : Ok P w K mg base 1 "_law_check" ["_law_begin", "_law_text_here"] spLawCheck) :
    FnOk P w K mg base CX0 4 f fd ["_law_script"] (spLaw K) := by
  refine F.ok sc_law (fun vs H Q E h => ?_) (fun cdv A outer s H vs Q E hr h => ?_)
  · obtain ⟨a, ns, rfl, _⟩ := h
    rfl
  · obtain ⟨a, ns, rfl, hS, hlen, q⟩ := h
    refine ⟨_, (pss_cons (ps_for PassesOwn.never rfl (pi_range1 (by rfl) T.range (pa_cons (pe_callB (call_max2 rfl) (by rfl) T.max (by decide +kernel) (pa_cons pe_int (pa_cons (pe_callB (call_min2 rfl) (by rfl) T.min (by decide +kernel) (pa_cons (pe_callB call_len_seq (by rfl) T.len (by decide +kernel) (pa_cons (pv 0) pa_nil)) (pa_cons pe_int pa_nil))) pa_nil))) pa_nil)) (pg_name (i := 1) sc_law.nd rfl (.inl rfl))
        (pss_cons (ps_set (i := 2) sc_law.nd rfl (.inl rfl) (pe_cO O__law_pool (hr.mono (by decide)) pass0 rfl (pa_cons (pv 0) (pa_cons (pv 1) pa_nil))))
        (pss_cons (ps_par (by rfl) sc_law.nd (i := 3) (j := 4) rfl rfl (by decide) rfl rfl (pa_cons (pe_cO O__law_text (hr.mono (by decide)) pass0 rfl (pa_cons (pv 2) pa_nil)) (pa_cons (pe_cO O__law_text (hr.mono (by decide)) pass0 rfl (pa_cons (pv 2) pa_nil)) pa_nil)) (by rfl))
        (pss_cons (ps_set (i := 5) sc_law.nd rfl (.inl rfl) (pe_cO O_check_number (hr.mono (by decide)) pass0 rfl (pa_cons (pv 3) pa_nil)))
        (pss_cons (ps_if (PW.pt (pw_or (pt_val (pe_callB call_isi (by rfl) T.isinstance (by decide +kernel) (pa_cons (pv 5) (pa_cons (pe_bltn (v := .ty "bool") (by rfl) T.bool (by decide +kernel) rfl) pa_nil)))) (pw_or (pt_not (pt_val (pe_callB call_isi (by rfl) T.isinstance (by decide +kernel) (pa_cons (pv 5) (pa_cons (pe_bltn (v := .ty "int") (by rfl) T.int (by decide +kernel) rfl) pa_nil))))) (pw_or1 (pt_cmpR op_ne (pv 5) (pe_cO O__law_check (hr.mono (by decide)) pass0 rfl (pa_cons pe_int (pa_cons (pv 3) pa_nil))) (nomark _))))))
          (pss_one (ps_ret pe_bl))
          pss_nil)
        (pss_cons (ps_if (pt_cmpR op_ne (pe_cO O_check_number (hr.mono (by decide)) pass0 rfl (pa_cons (pe_op op_add_str (pv 3) (pv 4)) pa_nil)) (pe_cO O__law_check (hr.mono (by decide)) pass0 rfl (pa_cons (pv 5) (pa_cons (pv 4) pa_nil))) (nomark _))
          (pss_one (ps_ret pe_bl))
          pss_nil)
        (pss_one (ps_if (pt_cmpR op_ne (pv 3) pe_str (nomark _))
          (pss_cons (ps_par (by rfl) sc_law.nd (i := 6) (j := 7) rfl rfl (by decide) rfl rfl (pa_cons (pe_cO O__law_draw (hr.mono (by decide)) pass0 rfl (pa_cons (pv 2) (pa_cons (pe_callB call_len_str (by rfl) T.len (by decide +kernel) (pa_cons (pv 3) pa_nil)) pa_nil))) (pa_cons (pe_cO O__law_character (hr.mono (by decide)) pass0 rfl (pa_cons (pv 2) pa_nil)) pa_nil)) (by rfl))
          (pss_cons (ps_set (i := 8) sc_law.nd rfl (.inl rfl) (pe_op op_add_str (pe_op op_add_str (pe_slice sl_str (pv 3) po_none (po_some (pv 6))) (pv 7)) (pe_slice sl_str (pv 3) (po_some (pe_op op_add (pv 6) pe_int)) po_none)))
          (pss_cons (ps_if (pt_cmpR op_ne (pe_cmpR op_eq (pe_cO O_check_number (hr.mono (by decide)) pass0 rfl (pa_cons (pv 8) pa_nil)) (pv 5) (nomark _)) (pe_cmpR op_eq (pv 8) (pv 3) (nomark _)) (nomark _))
            (pss_one (ps_ret pe_bl))
            pss_nil)
          (pss_one (ps_if (pt_cmpR op_ne (pe_cmpR op_eq (pe_cO O_check_number (hr.mono (by decide)) pass0 rfl (pa_cons (pe_op op_add_str (pv 8) (pv 4)) pa_nil)) (pe_cO O_check_number (hr.mono (by decide)) pass0 rfl (pa_cons (pe_op op_add_str (pv 3) (pv 4)) pa_nil)) (nomark _)) (pe_cmpR op_eq (pv 8) (pv 3) (nomark _)) (nomark _))
            (pss_one (ps_ret pe_bl))
            pss_nil)))))
          pss_nil))))))))
      (pss_one (ps_ret pe_bl))), ?_⟩
    refine ⟨_, rfl, a, _, rfl, .inl hS, _, _, rfl, _, _, rfl, ?_⟩
    rw [List.length_map]
    have hn : ∃ n : Int, n = (if (if (16 : Int) < (ns.length : Int) then (16 : Int) else (ns.length : Int)) > 1 then (if (16 : Int) < (ns.length : Int) then (16 : Int) else (ns.length : Int)) else 1) ∧ 0 ≤ n ∧ n ≤ 16 := by
      refine ⟨_, rfl, ?_, ?_⟩ <;> split <;> split <;> omega
    obtain ⟨n, en, n0, n1⟩ := hn
    rw [← en]
    refine ⟨n, rfl, by omega, by omega, for_range (n := n.toNat) (fun i σ H' => Same H H' ∧ ∃ v1 v2 v3 v4 v5 v6 v7 v8 : Option V, σ = [some (.ref a), v1, v2, v3, v4, v5, v6, v7, v8]) ⟨fun _ _ e => e, none, none, none, none, none, none, none, none, rfl⟩ ?_ ?_⟩
    · rintro i σ H1 hi ⟨s1, v1, v2, v3, v4, v5, v6, v7, v8, rfl⟩
      refine ⟨_, rfl, _, rfl, a, ns, i, by rw [Int.zero_add]; rfl, s1.seq hS, by omega, fun pp H2 s2 hpp P2 => ?_⟩
      have npp : H1 pp = none := hpp
      refine ⟨_, rfl, pp, rfl, P2, fun x H3 fx lx P3 k3 => ?_⟩
      refine ⟨_, rfl, pp, rfl, P3, fun y H4 fy ly P4 k4 => ?_⟩
      refine ⟨_, _, rfl, ?_⟩
      have bx := chk_bd (sg x) 0 (by decide) (by decide)
      have big : ∀ u v : Str, u.length ≤ 100 → v.length ≤ 100 → u.length + v.length ≤ sizeLine := fun u v hu hv => Nat.le_trans (show u.length + v.length ≤ 200 by omega) (by decide)
      refine ⟨_, rfl, x, rfl, fx, ?_⟩
      refine ⟨_, rfl, _, _, _, _, _, rfl, .ty _, .base (.int _), kIntBool, _, rfl, iteN (by decide) ?_⟩
      refine ⟨_, rfl, _, _, _, _, _, rfl, .ty _, .base (.int _), kIntInt, _, rfl, iteN (by decide) ?_⟩
      refine ⟨_, rfl, _, rfl, 0, x, rfl, by decide, by decide, fx, rfl, _, rfl, ?_⟩
      refine iteN (by simp) ?_
      refine ⟨_, rfl, _, rfl, x, y, rfl, rfl, big x y (by omega) (by omega), x ++ y, rfl, fx.app fy, _, rfl, _, rfl, chk 0 (sg x), y, rfl, bx.1, bx.2, fy, rfl, _, rfl, ?_⟩
      rw [sg_app, chk_app]
      refine iteN (by simp) ?_
      refine ⟨_, rfl, rfl, _, rfl, ite2 (fun c0 => ?_) (fun c0 => ?_)⟩
      · have x0 : 0 < x.length := by
          refine Nat.pos_of_ne_zero fun e => bnot_dec c0 ?_
          have : sg x = [] := List.eq_nil_of_length_eq_zero (by rw [sg_len]; exact e)
          rw [sg_inj (x := x) (y := "") (by rw [this]; decide +kernel)]
        have bigx : x.length ≤ sizeLine := Nat.le_trans lx (by decide)
        refine ⟨_, rfl, _, rfl, x, rfl, bigx, pp, _, rfl, by omega, ⟨by omega, by omega⟩, P4, fun d H5 d0 d1 P5 k5 => ?_⟩
        refine ⟨_, rfl, pp, rfl, P5, fun c H6 hc P6 k6 => ?_⟩
        obtain ⟨j, rfl⟩ : ∃ j : Nat, d = j := ⟨d.toNat, by omega⟩
        have hj : j < (sg x).length := by rw [sg_len]; omega
        have hj2 : (sg x)[j]? = some (sg x)[j] := List.getElem?_eq_getElem hj
        have xc := parts_at hj2
        have fc : (sg x)[j] < 127 := fx _ (List.getElem_mem hj)
        generalize (sg x)[j] = c' at xc fc
        refine ⟨_, _, rfl, ?_⟩
        have lt := cut_lo x j
        have ld : sg (cutS x (some ((j : Int) + 1)) none) = (sg x).drop (j + 1) := cut_hi x (j + 1)
        have l1 : (cutS x none (some (j : Int))).length ≤ 40 := by
          rw [← sg_len, lt, List.length_take, sg_len]
          omega
        have l2 : (cutS x (some ((j : Int) + 1)) none).length ≤ 40 := by
          rw [← sg_len, ld, List.length_drop, sg_len]
          omega
        have l3 : (⟨#[c]⟩ : Str).length = 1 := rfl
        have l4 : (cutS x none (some (j : Int)) ++ (⟨#[c]⟩ : Str)).length ≤ 41 := by
          rw [← sg_len, sg_app, List.length_append, sg_len, sg_len]
          omega
        have sgb : sg (cutS x none (some (j : Int)) ++ (⟨#[c]⟩ : Str) ++ cutS x (some ((j : Int) + 1)) none) = (sg x).take j ++ [c] ++ (sg x).drop (j + 1) := by
          rw [sg_app, sg_app, lt, ld]
        refine ⟨_, rfl, _, rfl, _, rfl, x, rfl, bigx, _, rfl, _, _, rfl, rfl, big _ _ (by omega) (by omega), _, rfl, _, rfl, _, _, rfl, rfl, _, rfl, x, rfl, bigx, _, _, rfl, rfl, big _ (cutS x (some ((j : Int) + 1)) none) (by omega) (by omega), ?_⟩
        have lb : (cutS x none (some (j : Int)) ++ (⟨#[c]⟩ : Str) ++ cutS x (some ((j : Int) + 1)) none).length ≤ 81 := by
          rw [← sg_len, sg_app, List.length_append, sg_len, sg_len]
          omega
        show _
        generalize cutS x none (some (j : Int)) ++ (⟨#[c]⟩ : Str) ++ cutS x (some ((j : Int) + 1)) none = bz at sgb lb
        have fb : Fair bz := fun e he => by
          rw [sgb] at he
          rcases List.mem_append.mp he with he | he
          · rcases List.mem_append.mp he with he | he
            · exact fx e (List.mem_of_mem_take he)
            · rw [List.mem_singleton.mp he]
              exact hc
          · exact fx e (List.mem_of_mem_drop he)
        have same : bz = x ↔ c = c' := ⟨fun e => bent_iff.mp (sgb.symm.trans ((congrArg sg e).trans xc)), fun e => sg_inj (sgb.trans ((bent_iff.mpr e).trans xc.symm))⟩
        have k1 : chk 0 (sg bz) = chk 0 (sg x) ↔ bz = x := by
          rw [same, sgb]
          exact (iff_of_eq (congrArg (chk 0 ((sg x).take j ++ [c] ++ (sg x).drop (j + 1)) = chk 0 ·) xc)).trans (chk_bent (by omega) (by omega))
        have bb := chk_bd (sg bz) 0 (by decide) (by decide)
        have k2 : chk 0 (sg (bz ++ y)) = chk 0 (sg (x ++ y)) ↔ bz = x := by
          rw [sg_app, sg_app, chk_app, chk_app, ← k1]
          exact ⟨fun e => chk_inj (sg y) bb.1 bb.2 bx.1 bx.2 e, fun e => by rw [e]⟩
        refine ⟨_, rfl, bz, rfl, fb, _, rfl, rfl, _, rfl, _, rfl, rfl, rfl, _, rfl, ?_⟩
        rw [dec_iff (vi_iff.trans (k1.trans vs_iff.symm))]
        refine iteN (by simp) ?_
        refine ⟨_, rfl, _, rfl, bz, y, rfl, rfl, big bz y (by omega) (by omega), bz ++ y, rfl, fb.app fy, _, rfl, _, rfl, x, y, rfl, rfl, big x y (by omega) (by omega), x ++ y, rfl, fx.app fy, rfl, _, rfl, _, rfl, rfl, rfl, _, rfl, ?_⟩
        rw [dec_iff (vi_iff.trans (k2.trans vs_iff.symm))]
        refine iteN (by simp) ?_
        exact ⟨Keep.same_of (((k3.trans k4).trans k5).trans k6) (s1.trans s2) (s1.free npp), _, _, _, _, _, _, _, _, rfl⟩
      · exact ⟨Keep.same_of (k3.trans k4) (s1.trans s2) (s1.free npp), _, _, _, _, _, _, _, _, rfl⟩
    · rintro σ H1 ⟨s1, v1, v2, v3, v4, v5, v6, v7, v8, rfl⟩
      exact q H1
end
/-! ### what the top has written -/
theorem all_mk {l : PySem.W.OpenLaw} {w : World} {K : PySem.W.Frag} {h : Heap} {mg : Str → Option Value} {fa f1 f2 f3 f4 f5 f6 f7 : Addr} (X : K.In h) (G : h.Ns mainGlobals mg) (hfa : mg "law" = some (.ref fa))
    {od1 an1 od2 an2 od3 an3 od4 an4 od5 an5 od6 an6 od7 an7 : Option Addr} {sl1 sl2 sl3 sl4 sl5 sl6 sl7 : Array (Option Value)} {oc1 kV1 dc1 pm1 cd1 ct1 oc2 kV2 dc2 pm2 cd2 ct2 oc3 kV3 dc3 pm3 cd3 ct3 oc4 kV4 dc4 pm4 cd4 ct4 oc5 kV5 dc5 pm5 cd5 ct5 oc6 kV6 dc6 pm6 cd6 ct6 oc7 kV7 dc7 pm7 cd7 ct7 : Value} {tP : Tok}
    (a1 : PySem.W.nsIn K mainGlobals "check_number" = some (some (.ref f1))) (l1 : K.lookup f1 = some ⟨oc1, od1, .func (PySem.W.fnOf "check_number" "check_number" (defArgs s_check_number) (defBody s_check_number) (defScope s_check_number) .none kV1 dc1 pm1 an1 cd1 ct1), sl1⟩) (c1 : PySem.W.codeIn K cd1 "check_number" = true) (k1 : PySem.W.keepIn K (.ref f1) = true)
    (a2 : PySem.W.nsIn K mainGlobals "_law_pool" = some (some (.ref f2))) (l2 : K.lookup f2 = some ⟨oc2, od2, .func (PySem.W.fnOf "_law_pool" "_law_pool" (defArgs s__law_pool) (defBody s__law_pool) (defScope s__law_pool) .none kV2 dc2 pm2 an2 cd2 ct2), sl2⟩) (c2 : PySem.W.codeIn K cd2 "_law_pool" = true) (k2 : PySem.W.keepIn K (.ref f2) = true)
    (a3 : PySem.W.nsIn K mainGlobals "_law_draw" = some (some (.ref f3))) (l3 : K.lookup f3 = some ⟨oc3, od3, .func (PySem.W.fnOf "_law_draw" "_law_draw" (defArgs s__law_draw) (defBody s__law_draw) (defScope s__law_draw) .none kV3 dc3 pm3 an3 cd3 ct3), sl3⟩) (c3 : PySem.W.codeIn K cd3 "_law_draw" = true) (k3 : PySem.W.keepIn K (.ref f3) = true)
    (a4 : PySem.W.nsIn K mainGlobals "_law_character" = some (some (.ref f4))) (l4 : K.lookup f4 = some ⟨oc4, od4, .func (PySem.W.fnOf "_law_character" "_law_character" (defArgs s__law_character) (defBody s__law_character) (defScope s__law_character) .none kV4 dc4 pm4 an4 cd4 ct4), sl4⟩) (c4 : PySem.W.codeIn K cd4 "_law_character" = true) (k4 : PySem.W.keepIn K (.ref f4) = true)
    (a5 : PySem.W.nsIn K mainGlobals "_law_text" = some (some (.ref f5))) (l5 : K.lookup f5 = some ⟨oc5, od5, .func (PySem.W.fnOf "_law_text" "_law_text" (defArgs s__law_text) (defBody s__law_text) (defScope s__law_text) .none kV5 dc5 pm5 an5 cd5 ct5), sl5⟩) (c5 : PySem.W.codeIn K cd5 "_law_text" = true) (k5 : PySem.W.keepIn K (.ref f5) = true)
    (a6 : PySem.W.nsIn K mainGlobals "_law_check" = some (some (.ref f6))) (l6 : K.lookup f6 = some ⟨oc6, od6, .func (PySem.W.fnOf "_law_check" "_law_check" (defArgs s__law_check) (defBody s__law_check) (defScope s__law_check) .none kV6 dc6 pm6 an6 cd6 ct6), sl6⟩) (c6 : PySem.W.codeIn K cd6 "_law_check" = true) (k6 : PySem.W.keepIn K (.ref f6) = true)
    (a7 : PySem.W.nsIn K mainGlobals "law" = some (some (.ref f7))) (l7 : K.lookup f7 = some ⟨oc7, od7, .func (PySem.W.fnOf "law" "law" (defArgs s_law) (defBody s_law) (defScope s_law) .none kV7 dc7 pm7 an7 cd7 ct7), sl7⟩) (c7 : PySem.W.codeIn K cd7 "law" = true) (k7 : PySem.W.keepIn K (.ref f7) = true)
    (aP : PySem.W.nsIn K mainGlobals "MODULUS" = some (some (.int 65521 tP)))
    (z1 : PySem.W.nsIn K mainGlobals "isinstance" = some none) (z2 : PySem.W.nsIn K mainGlobals "int" = some none) (z3 : PySem.W.nsIn K mainGlobals "bool" = some none) (z4 : PySem.W.nsIn K mainGlobals "len" = some none) (z5 : PySem.W.nsIn K mainGlobals "range" = some none) (z6 : PySem.W.nsIn K mainGlobals "max" = some none) (z7 : PySem.W.nsIn K mainGlobals "min" = some none) (z8 : PySem.W.nsIn K mainGlobals "ord" = some none) :
    ∃ fd : FuncData, (∀ (s : Shared) (v : Value), BindsTo s fd ⟨[v], []⟩ [("_law_script", v)]) ∧ ∀ base : Heap, K.In base → base.Ns mainGlobals mg → FnOk l.prog w K mg base CX0 4 fa fd ["_law_script"] (spLaw K) := by
  have e := hfa.symm.trans (PySem.W.mg_of X G a7)
  cases e
  have T : Txt K mg 0 := ⟨PySem.W.mg_none_of X G z1, PySem.W.mg_none_of X G z2, PySem.W.mg_none_of X G z3, PySem.W.mg_none_of X G z4, PySem.W.mg_none_of X G z5, PySem.W.mg_none_of X G z6, PySem.W.mg_none_of X G z7, PySem.W.mg_none_of X G z8, ⟨_, PySem.W.mg_of X G aP⟩⟩
  have D_check_number : Has K mg "check_number" s_check_number ["text"] := ⟨f1, _, PySem.W.mg_of X G a1, (fun_mk (st := s_check_number) l1 c1 k1).binds (ps := ["text"]) fun _ _ _ _ _ _ us hl => match us, hl with | [_], _ => rfl, fun_mk (st := s_check_number) l1 c1 k1⟩
  have D__law_pool : Has K mg "_law_pool" s__law_pool ["_law_script", "_law_k"] := ⟨f2, _, PySem.W.mg_of X G a2, (fun_mk (st := s__law_pool) l2 c2 k2).binds (ps := ["_law_script", "_law_k"]) fun _ _ _ _ _ _ us hl => match us, hl with | [_, _], _ => rfl, fun_mk (st := s__law_pool) l2 c2 k2⟩
  have D__law_draw : Has K mg "_law_draw" s__law_draw ["_law_pool_here", "_law_many"] := ⟨f3, _, PySem.W.mg_of X G a3, (fun_mk (st := s__law_draw) l3 c3 k3).binds (ps := ["_law_pool_here", "_law_many"]) fun _ _ _ _ _ _ us hl => match us, hl with | [_, _], _ => rfl, fun_mk (st := s__law_draw) l3 c3 k3⟩
  have D__law_character : Has K mg "_law_character" s__law_character ["_law_pool_here"] := ⟨f4, _, PySem.W.mg_of X G a4, (fun_mk (st := s__law_character) l4 c4 k4).binds (ps := ["_law_pool_here"]) fun _ _ _ _ _ _ us hl => match us, hl with | [_], _ => rfl, fun_mk (st := s__law_character) l4 c4 k4⟩
  have D__law_text : Has K mg "_law_text" s__law_text ["_law_pool_here"] := ⟨f5, _, PySem.W.mg_of X G a5, (fun_mk (st := s__law_text) l5 c5 k5).binds (ps := ["_law_pool_here"]) fun _ _ _ _ _ _ us hl => match us, hl with | [_], _ => rfl, fun_mk (st := s__law_text) l5 c5 k5⟩
  have D__law_check : Has K mg "_law_check" s__law_check ["_law_begin", "_law_text_here"] := ⟨f6, _, PySem.W.mg_of X G a6, (fun_mk (st := s__law_check) l6 c6 k6).binds (ps := ["_law_begin", "_law_text_here"]) fun _ _ _ _ _ _ us hl => match us, hl with | [_, _], _ => rfl, fun_mk (st := s__law_check) l6 c6 k6⟩
  refine ⟨PySem.W.fnOf "law" "law" (defArgs s_law) (defBody s_law) (defScope s_law) .none kV7 dc7 pm7 an7 cd7 ct7, fun s v => .of_eq rfl, fun base _ _ => ?_⟩
  have O1 := ok_check_number (P := l.prog) (w := w) (base := base) D_check_number T
  have O2 := ok__law_pool (P := l.prog) (w := w) (base := base) D__law_pool T
  have O3 := ok__law_draw (P := l.prog) (w := w) (base := base) D__law_draw T
  have O4 := ok__law_character D__law_character T O3
  have O5 := ok__law_text D__law_text T O3 O4
  have O6 := ok__law_check (P := l.prog) (w := w) (base := base) D__law_check T
  exact ok_law (fun_mk (st := s_law) l7 c7 k7) T O1 O2 O3 O4 O5 O6
theorem walk {l : PySem.W.OpenLaw} {q : Program} {loose : List Str} {XP : (Str → Option Value) → Heap → Prop} {YP : World → Heap → Prop} {d : DefRec} {K : Params → PySem.W.Frag} (hn : l.most = some 63) (hdf : d.params.defaults = [])
    (hY : ∀ (w : World) (h : Heap), YP w h → (K w.params).In h)
    (F : ∀ (w : World) (mg : Str → Option Value) (fa : Addr) (h : Heap), (K w.params).In h → h.Ns mainGlobals mg → mg d.name = some (.ref fa) →
      ∃ fd : FuncData, (∀ (s : Shared) (u : Value), BindsTo s fd ⟨[u], []⟩ [("_law_script", u)]) ∧ ∀ base : Heap, (K w.params).In base → base.Ns mainGlobals mg → FnOk l.prog w (K w.params) mg base CX0 4 fa fd ["_law_script"] (spLaw (K w.params))) :
    PySem.W.WalkO q loose XP YP l.row.toRowW d [] (fun f vs => PySem.call f vs) :=
  L2.walk_of (n := 63) (k := 4) (x := "_law_script") (CX := fun _ => CX0) (sp := fun w => spLaw (K w.params)) hn (by decide) hdf ⟨rfl, by decide, by decide⟩ hY F (fun _ _ a ns hl _ hS => ⟨a, ns, rfl, hS, hl, fun _ => rfl⟩) fun _ _ _ _ _ z => z
end W1
open PySem PySem.W PyProof.Rows
set_option maxRecDepth 100000 in
set_option maxHeartbeats 0 in
theorem PySem.Challenge.cw_twodivisions_k52_check_numbers_of_texts_holds : PySem.Challenge.rw_twodivisions_k52_check_numbers_of_texts.Holds := by
  w_on; o_law; k_head; (case hw => w_witness2)
  k_fill
  refine W1.walk (l := PySem.Challenge.rw_twodivisions_k52_check_numbers_of_texts) rfl rfl (fun w h Y => PySem.W.kIn_of Y) ?F
  case F =>
    intro w mg fa h KX G hmg
    refine' W1.all_mk KX G hmg ?a1 ?l1 ?c1 ?k1 ?a2 ?l2 ?c2 ?k2 ?a3 ?l3 ?c3 ?k3 ?a4 ?l4 ?c4 ?k4 ?a5 ?l5 ?c5 ?k5 ?a6 ?l6 ?c6 ?k6 ?a7 ?l7 ?c7 ?k7 ?aP ?z1 ?z2 ?z3 ?z4 ?z5 ?z6 ?z7 ?z8
    (case a1 => k_is); (case l1 => k_is); (case c1 => k_is); (case k1 => k_is)
    (case a2 => k_is); (case l2 => k_is); (case c2 => k_is); (case k2 => k_is)
    (case a3 => k_is); (case l3 => k_is); (case c3 => k_is); (case k3 => k_is)
    (case a4 => k_is); (case l4 => k_is); (case c4 => k_is); (case k4 => k_is)
    (case a5 => k_is); (case l5 => k_is); (case c5 => k_is); (case k5 => k_is)
    (case a6 => k_is); (case l6 => k_is); (case c6 => k_is); (case k6 => k_is)
    (case a7 => k_is); (case l7 => k_is); (case c7 => k_is); (case k7 => k_is)
    (case aP => k_is)
    (case z1 => k_is); (case z2 => k_is); (case z3 => k_is); (case z4 => k_is); (case z5 => k_is); (case z6 => k_is); (case z7 => k_is); (case z8 => k_is)
