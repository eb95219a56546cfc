import PyProof.Rows.All
import Wide.All
import OpenK.AllK
import Wide.FinOn
import HandS.ForMost
import HandS.Wide
import HandS.IsInst
import PySem.Challenge.RW_twodivisions_k01_five_rules_of_division
set_option Elab.async false
set_option maxRecDepth 100000
set_option maxHeartbeats 4000000
set_option linter.all false
namespace W1
open PySem L2
def top (i : Nat) : Stmt := PySem.Challenge.pw_twodivisions_k01_five_rules_of_division.main.body.getD i (.Pass ⟨0, 0, 0, 0⟩)
/-! ### own words: a def by its name, its promise by its name -/
/-- the def x of the text stands in the module -/
def Has (K : PySem.W.Frag) (mg : Str → Option Value) (x : Str) (st : Stmt) (ps : List Str) : Prop :=
  ∃ f fd, mg x = some (.ref f) ∧ Binds K fd ps [] ∧ Fun K x x st f fd
/-- the def x keeps the promise sp -/
def Ok (P : Program) (w : World) (K : PySem.W.Frag) (mg : Str → Option Value) (base : Heap) (k : Nat) (x : Str) (ps : List Str) (sp : Sp) : Prop :=
  ∃ f fd, mg x = some (.ref f) ∧ PySem.W.keepIn K (.ref f) = true ∧ Binds K fd ps [] ∧ FnOk P w K mg base CX0 k f fd ps sp
theorem pe_cO {X : Cx} {k : Nat} {x : Str} {ps : List Str} {sp : Sp} {p pos : Pos} {e : Expr} {es : List Expr} {t : TA} {E : XK} (o : Ok X.prog X.w X.K X.mg X.base k x ps sp) (hr : Room k X.A) (hx : Passes CX0 X E) (hg : Gl X x)
    (ha : PA X (e :: es) t) (hdb : (x == ("__debug__" : Str)) = false := by decide) (he : starEach (e :: es) X.env = (false, eval e X.env) :: starEach es X.env := by rfl) (hpl : (backTo pos (starEach es X.env)).any (·.1) = false := by rfl) :
    PE X (.Call (.Name x p) (e :: es) [] pos) (tCall sp [] E t) := by
  obtain ⟨f, fd, g, kp, b, G⟩ := o
  exact pe_call G hr hg g kp b .nil hx ha hdb he hpl
theorem pe_cO0 {X : Cx} {k : Nat} {x : Str} {ps : List Str} {sp : Sp} {p pos : Pos} {E : XK} (o : Ok X.prog X.w X.K X.mg X.base k x ps sp) (hr : Room k X.A) (hx : Passes CX0 X E) (hg : Gl X x) (hdb : (x == ("__debug__" : Str)) = false := by decide) :
    PE X (.Call (.Name x p) [] [] pos) (tCall sp [] E tNil) := by
  obtain ⟨f, fd, g, kp, b, G⟩ := o
  exact pe_call0 G hr hg g kp b .nil hx hdb
/-! ### numbers of a fair size -/
def Sm (i : Int) : Prop := -(2 ^ 250) < i ∧ i < 2 ^ 250
theorem Sm.nat {i : Int} (h : Sm i) : i.natAbs < 2 ^ 250 := by
  obtain ⟨h1, h2⟩ := h
  omega
section
variable {X : Cx}
theorem op_mulS : OpR X (binaryOp .Mult) (rI (fun i j => Sm i ∧ Sm j) fun i j => .int (i * j)) := by
  intro pins s σ H x y v u Q I rx ry h
  obtain ⟨i, j, rfl, rfl, ⟨h1, h2⟩, q⟩ := h
  exact op_mulW pins s σ H _ _ v u Q I rx ry ⟨i, j, rfl, rfl, wide_mul h1.nat h2.nat (by decide) (by decide) (by decide), q⟩
theorem op_divS : OpR X (binaryOp .FloorDiv) (rI (fun _ j => j ≠ 0 ∧ Sm j) fun i j => .int (i.fdiv j)) := opI fun i j _ _ _ _ _ hc q =>
  PyProof.Rows.floordiv_int hc.1 q (.inl (PyProof.noPylong_of_log2 (Nat.lt_of_lt_of_le (PySem.Flt.log2_lt_of (by decide : 0 < 250) hc.2.nat) (by decide))))
end
/-! ### heaps: all but the pool stays -/
def Keep (pp : Addr) (H H' : Hp) : Prop := ∀ b o, H b = some o → b ≠ pp → H' b = some o
theorem Keep.refl {pp : Addr} {H : Hp} : Keep pp H H := fun _ _ h _ => h
theorem Keep.trans {pp : Addr} {H H1 H2 : Hp} (a : Keep pp H H1) (b : Keep pp H1 H2) : Keep pp H H2 := fun c o h n => b c o (a c o h n) n
theorem Same.keep {pp : Addr} {H H' : Hp} (a : Same H H') : Keep pp H H' := fun b o h _ => a b o h
theorem Keep.seq {pp a : Addr} {K : PySem.W.Frag} {H H' : Hp} {xs : List V} (e : Keep pp H H') (n : a ≠ pp) (h : SqL K H a xs) : SqL K H' a xs := by
  rcases h with (h | ⟨o, h⟩) | h
  · exact .inl (.inl (e _ _ h n))
  · exact .inl (.inr ⟨o, e _ _ h n⟩)
  · exact .inr h
theorem Same.new {H : Hp} {p : Addr} {o : HO} (n : H p = none) : Same H (upd H p o) := fun b u h => by
  rw [upd_ne (ne_of_none h n)]
  exact h
/-- a pool of draws stands at pp -/
def PoolAt (H : Hp) (pp : Addr) : Prop := ∃ c s : Int, 0 ≤ s ∧ s < 2147483647 ∧ H pp = some (.lst [.int c, .int s])
theorem PoolAt.keep {H H' : Hp} {pp p : Addr} (h : PoolAt H p) (e : Keep pp H H') (n : p ≠ pp) : PoolAt H' p := by
  obtain ⟨c, s, h0, h1, h2⟩ := h
  exact ⟨c, s, h0, h1, e _ _ h2 n⟩
theorem PoolAt.same {H H' : Hp} {p : Addr} (h : PoolAt H p) (e : Same H H') : PoolAt H' p := by
  obtain ⟨c, s, h0, h1, h2⟩ := h
  exact ⟨c, s, h0, h1, e _ _ h2⟩
theorem PoolAt.ne {H : Hp} {p q : Addr} (h : PoolAt H p) (n : H q = none) : q ≠ p := by
  obtain ⟨c, s, h0, h1, h2⟩ := h
  exact (ne_of_none h2 n).symm
theorem Keep.free {pp l : Addr} {H H' : Hp} (e : Keep pp H H') (h : PoolAt H' pp) (n : H' l = none) : H l = none := by
  cases q : H l with
  | none => rfl
  | some o =>
    rw [e l o q (h.ne n)] at n
    cases n
theorem atI0 {α : Type} {x : α} {xs : List α} : atI (x :: xs) 0 = some x := atI_nat (j := 0) rfl
theorem atI1 {α : Type} {x y : α} {xs : List α} : atI (x :: y :: xs) 1 = some y := atI_nat (j := 1) rfl
theorem kIntInt {K : PySem.W.Frag} : PySem.W.kitOne K (.type "int") (.type "int") = some true := kit_ty (show kitB "int" "int" = some true by decide +kernel)
theorem kIntBool {K : PySem.W.Frag} : PySem.W.kitOne K (.type "int") (.type "bool") = some false := kit_ty (show kitB "int" "bool" = some false by decide +kernel)
theorem kStrStr {K : PySem.W.Frag} : PySem.W.kitOne K (.type "str") (.type "str") = some true := kit_ty (show kitB "str" "str" = some true by decide +kernel)
theorem n29 : (2147483629 : Int) ≠ 0 := by decide
theorem n47 : (2147483647 : Int) ≠ 0 := by decide
/-! ### the mathematics of division -/
def Md (i : Int) : Prop := -(2 ^ 200) < i ∧ i < 2 ^ 200
theorem Md.sm {i : Int} (h : Md i) : Sm i := by
  obtain ⟨h1, h2⟩ := h
  exact ⟨by omega, by omega⟩
theorem fdiv_facts (x b : Int) (hb : b ≠ 0) : (0 < b → 0 ≤ x - x.fdiv b * b ∧ x - x.fdiv b * b < b) ∧ (b < 0 → b < x - x.fdiv b * b ∧ x - x.fdiv b * b ≤ 0) := by
  refine ⟨fun h => ?_, fun h => ?_⟩
  · have e := Int.mul_fdiv_add_fmod x b
    have h1 := Int.fmod_nonneg_of_pos x h
    have h2 := Int.fmod_lt_of_pos x h
    rw [Int.mul_comm] at e
    omega
  · have h' : 0 < -b := by omega
    have e := Int.mul_fdiv_add_fmod (-x) (-b)
    have h1 := Int.fmod_nonneg_of_pos (-x) h'
    have h2 := Int.fmod_lt_of_pos (-x) h'
    rw [Int.neg_fdiv_neg, Int.neg_mul, Int.mul_comm] at e
    omega
/-- the five rules, as the document's table tells them -/
def five : List Str := ["down", "up", "zero", "positive", "near"]
structure IsDiv (r : Str) (x b q d : Int) : Prop where
  eq : x = q * b + d
  lt : -b < d ∧ d < b ∨ b < d ∧ d < -b
  down : r = "down" → (0 < b → 0 ≤ d) ∧ (b < 0 → d ≤ 0)
  up : r = "up" → (0 < b → d ≤ 0) ∧ (b < 0 → 0 ≤ d)
  zero : r = "zero" → (0 ≤ x → 0 ≤ d) ∧ (x ≤ 0 → d ≤ 0)
  pos : r = "positive" → 0 ≤ d
  near : r = "near" → (0 < b → -b < 2 * d ∧ 2 * d ≤ b) ∧ (b < 0 → b < 2 * d ∧ 2 * d ≤ -b)
theorem same_of {b q d q' d' : Int} (hb : b ≠ 0) (e : q * b + d = q' * b + d') (h1 : d - d' < b ∨ d - d' < -b) (h2 : d' - d < b ∨ d' - d < -b) (h3 : 0 < b → d - d' < b ∧ d' - d < b) (h4 : b < 0 → d - d' < -b ∧ d' - d < -b) : q = q' ∧ d = d' := by
  have e1 : (q - q') * b = d' - d := by
    rw [Int.sub_mul]
    omega
  have hq : q - q' = 0 := by
    by_cases z : q - q' = 0
    · exact z
    · exfalso
      by_cases hp : 0 < b
      · obtain ⟨h5, h6⟩ := h3 hp
        by_cases g : 1 ≤ q - q'
        · have := Int.mul_le_mul_of_nonneg_right g (Int.le_of_lt hp)
          omega
        · have g' : q - q' ≤ -1 := by omega
          have := Int.mul_le_mul_of_nonneg_right g' (Int.le_of_lt hp)
          omega
      · have hn : b < 0 := by omega
        obtain ⟨h5, h6⟩ := h4 hn
        have e2 : (q - q') * (-b) = d - d' := by
          rw [Int.mul_neg]
          omega
        by_cases g : 1 ≤ q - q'
        · have := Int.mul_le_mul_of_nonneg_right g (show 0 ≤ -b by omega)
          omega
        · have g' : q - q' ≤ -1 := by omega
          have := Int.mul_le_mul_of_nonneg_right g' (show 0 ≤ -b by omega)
          omega
  have hq' : q = q' := by omega
  subst hq'
  exact ⟨rfl, by omega⟩
theorem IsDiv.uniq {r : Str} {x b q d q' d' : Int} (hr : r ∈ five) (hb : b ≠ 0) (a : IsDiv r x b q d) (c : IsDiv r x b q' d') : q = q' ∧ d = d' := by
  have l1 := a.lt
  have l2 := c.lt
  have e : q * b + d = q' * b + d' := a.eq.symm.trans c.eq
  have key : ∀ (_ : 0 < b → d - d' < b ∧ d' - d < b) (_ : b < 0 → d - d' < -b ∧ d' - d < -b), q = q' ∧ d = d' := fun h3 h4 =>
    same_of hb e (by omega) (by omega) h3 h4
  simp only [five, List.mem_cons, List.not_mem_nil, or_false] at hr
  rcases hr with rfl | rfl | rfl | rfl | rfl
  · have z1 := a.down rfl
    have z2 := c.down rfl
    exact key (by omega) (by omega)
  · have z1 := a.up rfl
    have z2 := c.up rfl
    exact key (by omega) (by omega)
  · have z1 := a.zero rfl
    have z2 := c.zero rfl
    exact key (by omega) (by omega)
  · have z1 := a.pos rfl
    have z2 := c.pos rfl
    exact key (by omega) (by omega)
  · have z1 := a.near rfl
    have z2 := c.near rfl
    exact key (by omega) (by omega)
def ab (i : Int) : Int := if i < 0 then -i else i
theorem ab_neg {i : Int} (h : i < 0) : ab i = -i := if_pos h
theorem ab_pos {i : Int} (h : 0 ≤ i) : ab i = i := if_neg (by omega)
/-- whether goes_up says yes -/
def Goes (r : Str) (rest b : Int) : Prop := r = "up" ∨ r = "positive" ∧ rest < 0 ∨ r = "near" ∧ (ab b < 2 * ab rest ∨ 2 * ab rest = ab b ∧ rest < 0)
theorem five_ne : ("down" : Str) ≠ "up" ∧ ("down" : Str) ≠ "zero" ∧ ("down" : Str) ≠ "positive" ∧ ("down" : Str) ≠ "near" ∧ ("up" : Str) ≠ "zero" ∧ ("up" : Str) ≠ "positive" ∧ ("up" : Str) ≠ "near" ∧
    ("zero" : Str) ≠ "positive" ∧ ("zero" : Str) ≠ "near" ∧ ("positive" : Str) ≠ "near" := by decide +kernel
/-- the program's division is the document's: the higher quotient -/
theorem div_high {r r' : Str} {x b low : Int} (hr : r ∈ five) (hb : b ≠ 0) (el : low = x.fdiv b) (hr' : r' = r ∧ ¬ (r = "zero" ∧ low < 0) ∨ r = "zero" ∧ low < 0 ∧ r' = "up") (h0 : x - low * b ≠ 0) (g : Goes r' (x - low * b) b) : IsDiv r x b (low + 1) (x - low * b - b) := by
  obtain ⟨f1, f2⟩ := fdiv_facts x b hb
  rw [← el] at f1 f2
  have em : (low + 1) * b = low * b + b := by rw [Int.add_mul, Int.one_mul]
  have e0 : x = (low + 1) * b + (x - low * b - b) := by omega
  have hlow : low < 0 → (0 < b → low * b ≤ -b) ∧ (b < 0 → -b ≤ low * b) := fun hl => by
    refine ⟨fun hp => ?_, fun hn => ?_⟩
    · have := Int.mul_le_mul_of_nonneg_right (show low ≤ -1 by omega) (Int.le_of_lt hp)
      omega
    · have := Int.mul_le_mul_of_nonneg_right (show low ≤ -1 by omega) (show 0 ≤ -b by omega)
      rw [Int.mul_neg] at this
      omega
  generalize low * b = m at *
  have ab2 : (0 < b → ab b = b) ∧ (b < 0 → ab b = -b) := ⟨fun h => ab_pos (by omega), fun h => ab_neg h⟩
  have ab1 : (0 ≤ x - m → ab (x - m) = x - m) ∧ (x - m < 0 → ab (x - m) = -(x - m)) := ⟨fun h => ab_pos (by omega), fun h => ab_neg h⟩
  obtain ⟨n1, n2, n3, n4, n5, n6, n7, n8, n9, n10⟩ := five_ne
  simp only [five, List.mem_cons, List.not_mem_nil, or_false] at hr
  rcases hr with rfl | rfl | rfl | rfl | rfl
  · rcases hr' with ⟨rfl, _⟩ | ⟨z, _⟩
    · rcases g with z | ⟨z, _⟩ | ⟨z, _⟩
      · exact absurd z n1
      · exact absurd z n3
      · exact absurd z n4
    · exact absurd z n2
  · exact ⟨e0, by omega, fun z => absurd z.symm n1, fun _ => by omega, fun z => absurd z n5, fun z => absurd z n6, fun z => absurd z n7⟩
  · rcases hr' with ⟨rfl, z⟩ | ⟨_, hl, rfl⟩
    · rcases g with z | ⟨z, _⟩ | ⟨z, _⟩
      · exact absurd z n5.symm
      · exact absurd z n8
      · exact absurd z n9
    · have hl' := hlow hl
      refine ⟨e0, by omega, fun z => absurd z.symm n2, fun z => absurd z.symm n5, fun _ => ?_, fun z => absurd z n8, fun z => absurd z n9⟩
      by_cases hp : 0 < b <;> omega
  · rcases hr' with ⟨rfl, _⟩ | ⟨z, _⟩
    · rcases g with z | ⟨_, z⟩ | ⟨z, _⟩
      · exact absurd z n6.symm
      · exact ⟨e0, by omega, fun z => absurd z.symm n3, fun z => absurd z.symm n6, fun z => absurd z.symm n8, fun _ => by omega, fun z => absurd z n10⟩
      · exact absurd z n10
    · exact absurd z n8.symm
  · rcases hr' with ⟨rfl, _⟩ | ⟨z, _⟩
    · rcases g with z | ⟨z, _⟩ | ⟨_, z⟩
      · exact absurd z n7.symm
      · exact absurd z n10.symm
      · exact ⟨e0, by omega, fun z => absurd z.symm n4, fun z => absurd z.symm n7, fun z => absurd z.symm n9, fun z => absurd z.symm n10, fun _ => by omega⟩
    · exact absurd z n9.symm
/-- .. the lower quotient -/
theorem div_low {r r' : Str} {x b low : Int} (hr : r ∈ five) (hb : b ≠ 0) (el : low = x.fdiv b) (hr' : r' = r ∧ ¬ (r = "zero" ∧ low < 0) ∨ r = "zero" ∧ low < 0 ∧ r' = "up") (g : x - low * b = 0 ∨ ¬ Goes r' (x - low * b) b) : IsDiv r x b low (x - low * b) := by
  obtain ⟨f1, f2⟩ := fdiv_facts x b hb
  rw [← el] at f1 f2
  have e0 : x = low * b + (x - low * b) := by omega
  have hlow : 0 ≤ low → (0 < b → 0 ≤ low * b) ∧ (b < 0 → low * b ≤ 0) := fun hl => by
    refine ⟨fun hp => Int.mul_nonneg hl (Int.le_of_lt hp), fun hn => ?_⟩
    have := Int.mul_nonneg hl (show 0 ≤ -b by omega)
    rw [Int.mul_neg] at this
    omega
  generalize e9 : low * b = m at *
  have e1 : x = low * b + (x - m) := by
    rw [e9]
    exact e0
  have ab2 : (0 < b → ab b = b) ∧ (b < 0 → ab b = -b) := ⟨fun h => ab_pos (by omega), fun h => ab_neg h⟩
  have ab1 : (0 ≤ x - m → ab (x - m) = x - m) ∧ (x - m < 0 → ab (x - m) = -(x - m)) := ⟨fun h => ab_pos (by omega), fun h => ab_neg h⟩
  obtain ⟨n1, n2, n3, n4, n5, n6, n7, n8, n9, n10⟩ := five_ne
  simp only [five, List.mem_cons, List.not_mem_nil, or_false] at hr
  rcases hr with rfl | rfl | rfl | rfl | rfl
  · exact ⟨e1, by omega, fun _ => by omega, fun z => absurd z n1, fun z => absurd z n2, fun z => absurd z n3, fun z => absurd z n4⟩
  · rcases hr' with ⟨rfl, _⟩ | ⟨z, _⟩
    · have g' : x - m = 0 := g.elim id fun z => absurd (Or.inl rfl) z
      exact ⟨e1, by omega, fun z => absurd z.symm n1, fun _ => by omega, fun z => absurd z n5, fun z => absurd z n6, fun z => absurd z n7⟩
    · exact absurd z n5
  · refine ⟨e1, by omega, fun z => absurd z.symm n2, fun z => absurd z.symm n5, fun _ => ?_, fun z => absurd z n8, fun z => absurd z n9⟩
    rcases hr' with ⟨rfl, z⟩ | ⟨_, hl, rfl⟩
    · have hl : 0 ≤ low := by
        by_cases q : low < 0
        · exact absurd ⟨rfl, q⟩ z
        · omega
      have := hlow hl
      by_cases hp : 0 < b <;> omega
    · have g' : x - m = 0 := g.elim id fun z => absurd (Or.inl rfl) z
      omega
  · rcases hr' with ⟨rfl, _⟩ | ⟨z, _⟩
    · have g' : x - m = 0 ∨ 0 ≤ x - m := g.elim .inl fun z => .inr (by
        by_cases q : x - m < 0
        · exact absurd (Or.inr (Or.inl ⟨rfl, q⟩)) z
        · omega)
      exact ⟨e1, by omega, fun z => absurd z.symm n3, fun z => absurd z.symm n6, fun z => absurd z.symm n8, fun _ => by omega, fun z => absurd z n10⟩
    · exact absurd z n8.symm
  · rcases hr' with ⟨rfl, _⟩ | ⟨z, _⟩
    · have g' : x - m = 0 ∨ ¬ (ab b < 2 * ab (x - m) ∨ 2 * ab (x - m) = ab b ∧ x - m < 0) := g.elim .inl fun z => .inr fun q => z (Or.inr (Or.inr ⟨rfl, q⟩))
      exact ⟨e1, by omega, fun z => absurd z.symm n4, fun z => absurd z.symm n7, fun z => absurd z.symm n9, fun z => absurd z.symm n10, fun _ => by omega⟩
    · exact absurd z n9.symm
/-! ### what the module has -/
structure Txt (K : PySem.W.Frag) (mg : Str → Option Value) (aR : Addr) : Prop where
  isinstance : mg "isinstance" = none
  int : mg "int" = none
  bool : mg "bool" = none
  str : mg "str" = none
  abs : mg "abs" = none
  len : mg "len" = none
  list : mg "list" = none
  range : mg "range" = none
  max : mg "max" = none
  min : mg "min" = none
  gRULES : mg "RULES" = some (.ref aR)
  tRULES : ∀ H, SqT K H aR (five.map V.str)
theorem vne {i j : Int} (h : i ≠ j) : ¬ decide (V.int i = V.int j) = true := fun z => h (by injection of_decide_eq_true z)
theorem veq {i j : Int} (h : i = j) : decide (V.int i = V.int j) = true := decide_eq_true (by rw [h])
theorem sne {i j : Str} (h : i ≠ j) : ¬ decide (V.str i = V.str j) = true := fun z => h (by injection of_decide_eq_true z)
theorem of_veq {i j : Int} (h : decide (V.int i = V.int j) = true) : i = j := by injection of_decide_eq_true h
theorem of_seq {i j : Str} (h : decide (V.str i = V.str j) = true) : i = j := by injection of_decide_eq_true h
theorem of_vne {i j : Int} (h : ¬ decide (V.int i = V.int j) = true) : i ≠ j := fun z => h (by rw [z]; exact decide_eq_true rfl)
theorem of_sne {i j : Str} (h : ¬ decide (V.str i = V.str j) = true) : i ≠ j := fun z => h (by rw [z]; exact decide_eq_true rfl)
theorem iteN {c A B : Prop} [Decidable c] (h : ¬ c) (q : B) : if c then A else B := by
  rw [if_neg h]
  exact q
theorem iteP {c A B : Prop} [Decidable c] (h : c) (q : A) : if c then A else B := by
  rw [if_pos h]
  exact q
theorem bnot_dec {c : Prop} [Decidable c] (h : (!decide c) = true) : ¬ c := fun z => by
  rw [decide_eq_true z] at h
  cases h
theorem bnot_dec' {c : Prop} [Decidable c] (h : ¬ (!decide c) = true) : c := by
  by_cases z : c
  · exact z
  · exact absurd (by rw [decide_eq_false z]; rfl) h
section
variable {P : Program} {w : World} {K : PySem.W.Frag} {mg : Str → Option Value} {base : Heap} {aR : Addr}
abbrev s_is_integer : Stmt := top 7
theorem sc_is_integer : FnScope ["value"] ["value"] (defScope s_is_integer) := ⟨rfl, rfl, rfl, by decide +kernel, rfl, by decide +kernel, by decide +kernel⟩
/-- is_integer of an integer -/
def spIsInt : Sp := fun vs H Q _ => ∃ i : Int, vs = [.int i] ∧ Q (.bl true) H
theorem ok_is_integer (h : Has K mg "is_integer" s_is_integer ["value"]) (T : Txt K mg aR) : Ok P w K mg base 1 "is_integer" ["value"] spIsInt := by
  obtain ⟨f, fd, g, b, F⟩ := h
  refine ⟨f, fd, g, F.kp, b, F.ok sc_is_integer (fun vs H Q E h => ?_) (fun cdv A outer s H vs Q E hr h => ?_)⟩
  · obtain ⟨i, rfl, _⟩ := h
    rfl
  · obtain ⟨i, rfl, q⟩ := h
    refine ⟨_, (pss_one (ps_ret (pe_and (pe_callB call_isi (by rfl) T.isinstance (by decide +kernel) (pa_cons (pv 0) (pa_cons (pe_bltn (v := .ty "int") (by rfl) T.int (by decide +kernel) rfl) pa_nil))) (pe_one (pe_not (pe_callB call_isi (by rfl) T.isinstance (by decide +kernel) (pa_cons (pv 0) (pa_cons (pe_bltn (v := .ty "bool") (by rfl) T.bool (by decide +kernel) rfl) pa_nil)))))))), ?_⟩
    refine ⟨_, rfl, _, _, _, _, _, rfl, .ty _, .base (.int _), kIntInt, _, rfl, ?_⟩
    refine iteT ?_
    refine ⟨_, rfl, _, _, _, _, _, rfl, .ty _, .base (.int _), kIntBool, _, rfl, ?_⟩
    exact q
abbrev s_is_between : Stmt := top 8
theorem sc_is_between : FnScope ["value", "low", "high"] ["value", "low", "high"] (defScope s_is_between) := ⟨rfl, rfl, rfl, by decide +kernel, rfl, by decide +kernel, by decide +kernel⟩
def spBetween : Sp := fun vs H Q _ => ∃ i lo hi : Int, vs = [.int i, .int lo, .int hi] ∧ lo ≤ i ∧ i ≤ hi ∧ Q (.bl true) H
theorem ok_is_between (h : Has K mg "is_between" s_is_between ["value", "low", "high"]) (T : Txt K mg aR) (O_is_integer : Ok P w K mg base 1 "is_integer" ["value"] spIsInt) : Ok P w K mg base 2 "is_between" ["value", "low", "high"] spBetween := by
  obtain ⟨f, fd, g, b, F⟩ := h
  refine ⟨f, fd, g, F.kp, b, F.ok sc_is_between (fun vs H Q E h => ?_) (fun cdv A outer s H vs Q E hr h => ?_)⟩
  · obtain ⟨i, lo, hi, rfl, _⟩ := h
    rfl
  · obtain ⟨i, lo, hi, rfl, h1, h2, q⟩ := h
    refine ⟨_, (pss_one (ps_ret (pe_and (pe_cO O_is_integer (hr.mono (by decide)) pass0 rfl (pa_cons (pv 0) pa_nil)) (pe_one (pe_chain op_le op_le (pv 1) (pv 0) (pv 2)))))), ?_⟩
    refine ⟨_, rfl, _, rfl, _, rfl, ?_⟩
    refine iteT ?_
    refine ⟨_, rfl, _, rfl, _, _, rfl, rfl, _, rfl, ?_⟩
    refine iteP (decide_eq_true h1) ?_
    refine ⟨_, rfl, _, _, rfl, rfl, ?_⟩
    show Q (.bl (decide (i ≤ hi))) H
    rw [decide_eq_true h2]
    exact q
abbrev s_is_rule : Stmt := top 9
theorem sc_is_rule : FnScope ["value"] ["value"] (defScope s_is_rule) := ⟨rfl, rfl, rfl, by decide +kernel, rfl, by decide +kernel, by decide +kernel⟩
def spIsRule : Sp := fun vs H Q _ => ∃ r : Str, vs = [.str r] ∧ r ∈ five ∧ Q (.bl true) H
theorem in_five {r : Str} (h : r ∈ five) : inV (.str r) (five.map V.str) = true := by
  simp only [five, List.mem_cons, List.not_mem_nil, or_false] at h
  rcases h with rfl | rfl | rfl | rfl | rfl <;> decide +kernel
theorem ok_is_rule (h : Has K mg "is_rule" s_is_rule ["value"]) (T : Txt K mg aR) : Ok P w K mg base 1 "is_rule" ["value"] spIsRule := by
  obtain ⟨f, fd, g, b, F⟩ := h
  refine ⟨f, fd, g, F.kp, b, F.ok sc_is_rule (fun vs H Q E h => ?_) (fun cdv A outer s H vs Q E hr h => ?_)⟩
  · obtain ⟨r, rfl, _⟩ := h
    rfl
  · obtain ⟨r, rfl, h1, q⟩ := h
    refine ⟨_, (pss_one (ps_ret (pe_and (pe_callB call_isi (by rfl) T.isinstance (by decide +kernel) (pa_cons (pv 0) (pa_cons (pe_bltn (v := .ty "str") (by rfl) T.str (by decide +kernel) rfl) pa_nil))) (pe_one (pe_cmpR op_in_seq (pv 0) (pe_glob (v := .ref aR) rfl T.gRULES rfl) (by rfl)))))), ?_⟩
    refine ⟨_, rfl, _, _, _, _, _, rfl, .ty _, .base (.str _), kStrStr, _, rfl, ?_⟩
    refine iteT ?_
    refine ⟨_, rfl, _, _, rfl, .inr (T.tRULES _), rfl, rfl, ?_⟩
    show Q (.bl (inV (.str r) (five.map V.str))) H
    rw [in_five h1]
    exact q
abbrev s_is_sign : Stmt := top 10
theorem sc_is_sign : FnScope ["value"] ["value"] (defScope s_is_sign) := ⟨rfl, rfl, rfl, by decide +kernel, rfl, by decide +kernel, by decide +kernel⟩
def spIsSign : Sp := fun vs H Q _ => ∃ i : Int, vs = [.int i] ∧ (i = 1 ∨ i = -1) ∧ Q (.bl true) H
theorem ok_is_sign (h : Has K mg "is_sign" s_is_sign ["value"]) (O_is_between : Ok P w K mg base 2 "is_between" ["value", "low", "high"] spBetween) : Ok P w K mg base 3 "is_sign" ["value"] spIsSign := by
  obtain ⟨f, fd, g, b, F⟩ := h
  refine ⟨f, fd, g, F.kp, b, F.ok sc_is_sign (fun vs H Q E h => ?_) (fun cdv A outer s H vs Q E hr h => ?_)⟩
  · obtain ⟨r, rfl, _⟩ := h
    rfl
  · obtain ⟨i, rfl, h1, q⟩ := h
    refine ⟨_, (pss_one (ps_ret (pe_and (pe_cO O_is_between (hr.mono (by decide)) pass0 rfl (pa_cons (pv 0) (pa_cons (pe_un un_neg pe_int) (pa_cons pe_int pa_nil)))) (pe_one (pe_cmpR op_ne (pv 0) pe_int (nomark _)))))), ?_⟩
    refine ⟨_, rfl, _, rfl, _, _, _, rfl, by omega, by omega, _, rfl, ?_⟩
    refine iteT ?_
    refine ⟨_, rfl, rfl, ?_⟩
    rw [show (!decide (V.int i = V.int 0)) = true by rw [decide_eq_false (by intro z; injection z; omega)]; rfl]
    exact q
abbrev s_is_base : Stmt := top 11
theorem sc_is_base : FnScope ["value"] ["value"] (defScope s_is_base) := ⟨rfl, rfl, rfl, by decide +kernel, rfl, by decide +kernel, by decide +kernel⟩
def IsBase (i : Int) : Prop := -10 ≤ i ∧ i ≤ 10 ∧ 2 ≤ ab i
def spIsBase : Sp := fun vs H Q _ => ∃ i : Int, vs = [.int i] ∧ IsBase i ∧ Q (.bl true) H
theorem ok_is_base (h : Has K mg "is_base" s_is_base ["value"]) (T : Txt K mg aR) (O_is_between : Ok P w K mg base 2 "is_between" ["value", "low", "high"] spBetween) : Ok P w K mg base 3 "is_base" ["value"] spIsBase := by
  obtain ⟨f, fd, g, b, F⟩ := h
  refine ⟨f, fd, g, F.kp, b, F.ok sc_is_base (fun vs H Q E h => ?_) (fun cdv A outer s H vs Q E hr h => ?_)⟩
  · obtain ⟨r, rfl, _⟩ := h
    rfl
  · obtain ⟨i, rfl, ⟨h1, h2, h3⟩, q⟩ := h
    refine ⟨_, (pss_one (ps_ret (pe_and (pe_cO O_is_between (hr.mono (by decide)) pass0 rfl (pa_cons (pv 0) (pa_cons (pe_un un_neg pe_int) (pa_cons pe_int pa_nil)))) (pe_one (pe_cmpR op_ge (pe_callB call_abs (by rfl) T.abs (by decide +kernel) (pa_cons (pv 0) pa_nil)) pe_int (nomark _)))))), ?_⟩
    refine ⟨_, rfl, _, rfl, _, _, _, rfl, by omega, by omega, _, rfl, ?_⟩
    refine iteT ?_
    refine ⟨_, rfl, _, rfl, _, _, rfl, rfl, ?_⟩
    show Q (.bl (decide (2 ≤ ab i))) H
    rw [decide_eq_true h3]
    exact q
abbrev s_rule_names : Stmt := top 13
theorem sc_rule_names : FnScope [] [] (defScope s_rule_names) := ⟨rfl, rfl, rfl, by decide +kernel, rfl, by decide +kernel, by decide +kernel⟩
def spNames : Sp := fun vs H Q _ => vs = [] ∧ ∀ l, H l = none → Q (.ref l) (upd H l (.lst (five.map V.str)))
theorem ok_rule_names (h : Has K mg "rule_names" s_rule_names []) (T : Txt K mg aR) : Ok P w K mg base 1 "rule_names" [] spNames := by
  obtain ⟨f, fd, g, b, F⟩ := h
  refine ⟨f, fd, g, F.kp, b, F.ok sc_rule_names (fun vs H Q E h => ?_) (fun cdv A outer s H vs Q E hr h => ?_)⟩
  · obtain ⟨rfl, _⟩ := h
    rfl
  · obtain ⟨rfl, q⟩ := h
    refine ⟨_, (pss_one (ps_ret (pe_callTy call_list_of (by rfl) T.list (by decide +kernel) (pa_cons (pe_glob (v := .ref aR) rfl T.gRULES rfl) pa_nil)))), ?_⟩
    exact ⟨_, _, rfl, .inr (T.tRULES _), q⟩
abbrev s_goes_up : Stmt := top 14
theorem sc_goes_up : FnScope ["rule", "rest", "base"] ["rule", "rest", "base"] (defScope s_goes_up) := ⟨rfl, rfl, rfl, by decide +kernel, rfl, by decide +kernel, by decide +kernel⟩
def spGoes : Sp := fun vs H Q _ => ∃ (r : Str) (i b : Int), vs = [.str r, .int i, .int b] ∧ Sm i ∧ Sm b ∧ (Goes r i b → Q (.bl true) H) ∧ (¬ Goes r i b → Q (.bl false) H)
theorem sm_ab {i : Int} (h : Sm i) : Sm (ab i) := by
  obtain ⟨h1, h2⟩ := h
  unfold ab
  split <;> exact ⟨by omega, by omega⟩
theorem sm_two : Sm 2 := ⟨by omega, by omega⟩
theorem ok_goes_up (h : Has K mg "goes_up" s_goes_up ["rule", "rest", "base"]) (T : Txt K mg aR) : Ok P w K mg base 1 "goes_up" ["rule", "rest", "base"] spGoes := by
  obtain ⟨f, fd, g, b, F⟩ := h
  refine ⟨f, fd, g, F.kp, b, F.ok sc_goes_up (fun vs H Q E h => ?_) (fun cdv A outer s H vs Q E hr h => ?_)⟩
  · obtain ⟨r, i, b, rfl, _⟩ := h
    rfl
  · obtain ⟨r, i, b, rfl, s1, s2, q1, q2⟩ := h
    refine ⟨_, (pss_cons (ps_if (pt_cmpR op_eq (pv 0) pe_str (nomark _))
      (pss_one (ps_ret pe_bl))
      pss_nil)
    (pss_cons (ps_if (pt_cmpR op_eq (pv 0) pe_str (nomark _))
      (pss_one (ps_ret (pe_cmpR op_lt (pv 1) pe_int (nomark _))))
      pss_nil)
    (pss_cons (ps_if (pt_cmpR op_eq (pv 0) pe_str (nomark _))
      (pss_one (ps_ret (pe_or (pe_cmpR op_gt (pe_op op_mulS pe_int (pe_callB call_abs (by rfl) T.abs (by decide +kernel) (pa_cons (pv 1) pa_nil))) (pe_callB call_abs (by rfl) T.abs (by decide +kernel) (pa_cons (pv 2) pa_nil)) (nomark _)) (pe_one (pe_and (pe_cmpR op_eq (pe_op op_mulS pe_int (pe_callB call_abs (by rfl) T.abs (by decide +kernel) (pa_cons (pv 1) pa_nil))) (pe_callB call_abs (by rfl) T.abs (by decide +kernel) (pa_cons (pv 2) pa_nil)) (nomark _)) (pe_one (pe_cmpR op_lt (pv 1) pe_int (nomark _))))))))
      pss_nil)
    (pss_one (ps_ret pe_bl))))), ?_⟩
    obtain ⟨n1, n2, n3, n4, n5, n6, n7, n8, n9, n10⟩ := five_ne
    refine ⟨_, rfl, rfl, _, rfl, ?_⟩
    refine ite2 (fun c1 => ?_) (fun c1 => ?_)
    · exact q1 (.inl (of_seq c1))
    · have c1 := of_sne c1
      refine ⟨_, rfl, rfl, _, rfl, ?_⟩
      refine ite2 (fun c2 => ?_) (fun c2 => ?_)
      · have c2 := of_seq c2
        subst c2
        refine ⟨_, rfl, _, _, rfl, rfl, ?_⟩
        show Q (.bl (decide (i < 0))) H
        by_cases hi : i < 0
        · rw [decide_eq_true hi]
          exact q1 (.inr (.inl ⟨rfl, hi⟩))
        · rw [decide_eq_false hi]
          refine q2 fun z => ?_
          rcases z with z | ⟨_, z⟩ | ⟨z, _⟩
          · exact c1 z
          · exact hi z
          · exact n10 z
      · have c2 := of_sne c2
        refine ⟨_, rfl, rfl, _, rfl, ?_⟩
        refine ite2 (fun c3 => ?_) (fun c3 => ?_)
        · have c3 := of_seq c3
          subst c3
          refine ⟨_, rfl, _, rfl, _, _, rfl, rfl, ⟨sm_two, sm_ab s1⟩, _, rfl, _, rfl, _, _, rfl, rfl, _, rfl, ?_⟩
          show if decide (ab b < 2 * ab i) = true then Q (.bl true) H else _
          refine ite2 (fun c4 => ?_) (fun c4 => ?_)
          · exact q1 (.inr (.inr ⟨rfl, .inl (of_decide_eq_true c4)⟩))
          · have c4 : ¬ ab b < 2 * ab i := fun z => c4 (decide_eq_true z)
            refine ⟨_, rfl, _, rfl, _, _, rfl, rfl, ⟨sm_two, sm_ab s1⟩, _, rfl, _, rfl, rfl, _, rfl, ?_⟩
            show if decide (V.int (2 * ab i) = V.int (ab b)) = true then _ else Q (.bl false) H
            refine ite2 (fun c5 => ?_) (fun c5 => ?_)
            · refine ⟨_, rfl, _, _, rfl, rfl, ?_⟩
              show Q (.bl (decide (i < 0))) H
              by_cases hi : i < 0
              · rw [decide_eq_true hi]
                exact q1 (.inr (.inr ⟨rfl, .inr ⟨of_veq c5, hi⟩⟩))
              · rw [decide_eq_false hi]
                refine q2 fun z => ?_
                rcases z with z | ⟨z, _⟩ | ⟨_, z | ⟨_, z⟩⟩
                · exact c1 z
                · exact c2 z
                · exact c4 z
                · exact hi z
            · have c5 := of_vne c5
              refine q2 fun z => ?_
              rcases z with z | ⟨z, _⟩ | ⟨_, z | ⟨z, _⟩⟩
              · exact c1 z
              · exact c2 z
              · exact c4 z
              · exact c5 z
        · have c3 := of_sne c3
          refine q2 fun z => ?_
          rcases z with z | ⟨z, _⟩ | ⟨z, _⟩
          · exact c1 z
          · exact c2 z
          · exact c3 z
end
section
variable {P : Program} {w : World} {K : PySem.W.Frag} {mg : Str → Option Value} {base : Heap} {aR : Addr}
abbrev s_divide : Stmt := top 15
theorem sc_divide : FnScope ["rule", "x", "base", "low", "rest"] ["rule", "x", "base"] (defScope s_divide) := ⟨rfl, rfl, rfl, by decide +kernel, rfl, by decide +kernel, by decide +kernel⟩
def spDivide : Sp := fun vs H Q _ => ∃ (r : Str) (x b : Int), vs = [.str r, .int x, .int b] ∧ r ∈ five ∧ b ≠ 0 ∧ Md x ∧ Md b ∧ ∀ q d p, IsDiv r x b q d → H p = none → Q (.ref p) (upd H p (.tup [.int q, .int d]))
theorem low_sm {x b : Int} (h : Md x) : Sm (x.fdiv b) := by
  have := Int.natAbs_fdiv_le_natAbs x b
  obtain ⟨h1, h2⟩ := h
  exact ⟨by omega, by omega⟩
theorem rest_sm {x b : Int} (hb : b ≠ 0) (h : Md b) : Sm (x - x.fdiv b * b) := by
  obtain ⟨f1, f2⟩ := fdiv_facts x b hb
  obtain ⟨h1, h2⟩ := h
  exact ⟨by omega, by omega⟩
theorem ok_divide (h : Has K mg "divide" s_divide ["rule", "x", "base"]) (O_is_rule : Ok P w K mg base 1 "is_rule" ["value"] spIsRule) (O_is_integer : Ok P w K mg base 1 "is_integer" ["value"] spIsInt) (O_goes_up : Ok P w K mg base 1 "goes_up" ["rule", "rest", "base"] spGoes) :
    Ok P w K mg base 2 "divide" ["rule", "x", "base"] spDivide := by
  obtain ⟨f, fd, g, b, F⟩ := h
  refine ⟨f, fd, g, F.kp, b, F.ok sc_divide (fun vs H Q E h => ?_) (fun cdv A outer s H vs Q E hr h => ?_)⟩
  · obtain ⟨r, i, b, rfl, _⟩ := h
    rfl
  · obtain ⟨r, x, b, rfl, h5, hb, mx, mb, q⟩ := h
    refine ⟨_, (pss_cons (ps_if (pt_not (pt_val (pe_cO O_is_rule (hr.mono (by decide)) pass0 rfl (pa_cons (pv 0) pa_nil))))
      (pss_one ps_never)
      pss_nil)
    (pss_cons (ps_if (pt_not (pt_val (pe_cO O_is_integer (hr.mono (by decide)) pass0 rfl (pa_cons (pv 1) pa_nil))))
      (pss_one ps_never)
      pss_nil)
    (pss_cons (ps_if (PW.pt (pw_or (pt_not (pt_val (pe_cO O_is_integer (hr.mono (by decide)) pass0 rfl (pa_cons (pv 2) pa_nil)))) (pw_or1 (pt_cmpR op_eq (pv 2) pe_int (nomark _)))))
      (pss_one ps_never)
      pss_nil)
    (pss_cons (ps_set (i := 3) sc_divide.nd rfl (Or.inl rfl) (pe_op op_divS (pv 1) (pv 2)))
    (pss_cons (ps_set (i := 4) sc_divide.nd rfl (Or.inl rfl) (pe_op op_sub (pv 1) (pe_op op_mulS (pv 3) (pv 2))))
    (pss_cons (ps_if (PW.pt (pw_and (pt_cmpR op_eq (pv 0) pe_str (nomark _)) (pw_and1 (pt_cmpR op_lt (pv 3) pe_int (nomark _)))))
      (pss_one (ps_set (i := 0) sc_divide.nd rfl (Or.inl rfl) pe_str))
      pss_nil)
    (pss_cons (ps_if (PW.pt (pw_and (pt_cmpR op_ne (pv 4) pe_int (nomark _)) (pw_and1 (pt_val (pe_cO O_goes_up (hr.mono (by decide)) pass0 rfl (pa_cons (pv 0) (pa_cons (pv 4) (pa_cons (pv 2) pa_nil))))))))
      (pss_one (ps_ret (pe_tup (pa_cons (pe_op op_add (pv 3) pe_int) (pa_cons (pe_op op_sub (pv 4) (pv 2)) pa_nil)))))
      pss_nil)
    (pss_one (ps_ret (pe_tup (pa_cons (pv 3) (pa_cons (pv 4) pa_nil)))))))))))), ?_⟩
    refine ⟨_, rfl, r, rfl, h5, _, rfl, ?_⟩
    refine iteF ?_
    refine ⟨_, rfl, _, rfl, _, rfl, ?_⟩
    refine iteF ?_
    refine ⟨_, rfl, _, rfl, _, rfl, ?_⟩
    refine iteF ?_
    refine ⟨_, rfl, rfl, _, rfl, ?_⟩
    refine iteN (vne hb) ?_
    refine ⟨_, rfl, _, rfl, _, _, rfl, rfl, ⟨hb, mb.sm⟩, ?_⟩
    refine ⟨_, rfl, _, rfl, _, rfl, _, _, rfl, rfl, ⟨low_sm mx, mb.sm⟩, _, _, rfl, rfl, ?_⟩
    refine ⟨_, rfl, rfl, _, rfl, ?_⟩
    have leaf : ∀ r' : Str, (r' = r ∧ ¬ (r = "zero" ∧ x.fdiv b < 0) ∨ r = "zero" ∧ x.fdiv b < 0 ∧ r' = "up") →
        (x - x.fdiv b * b ≠ 0 → Goes r' (x - x.fdiv b * b) b → IsDiv r x b (x.fdiv b + 1) (x - x.fdiv b * b - b)) ∧ ((x - x.fdiv b * b = 0 ∨ ¬ Goes r' (x - x.fdiv b * b) b) → IsDiv r x b (x.fdiv b) (x - x.fdiv b * b)) :=
      fun r' hr' => ⟨fun h0 g => div_high h5 hb rfl hr' h0 g, fun g => div_low h5 hb rfl hr' g⟩
    refine ite2 (fun c1 => ?_) (fun c1 => ?_)
    · refine ⟨_, rfl, _, _, rfl, rfl, _, rfl, ?_⟩
      refine ite2 (fun c2 => ?_) (fun c2 => ?_)
      · obtain ⟨l1, l2⟩ := leaf "up" (.inr ⟨of_seq c1, of_decide_eq_true c2, rfl⟩)
        refine ⟨_, rfl, rfl, _, rfl, ?_⟩
        refine ite2 (fun c3 => ?_) (fun c3 => ?_)
        · have c3 : x - x.fdiv b * b ≠ 0 := fun z => bnot_dec c3 (congrArg V.int z)
          refine ⟨_, rfl, _, rfl, _, rfl, _, _, _, rfl, rest_sm hb mb, mb.sm, fun g => ?_, fun g => ?_⟩
          · refine ⟨_, rfl, ?_⟩
            refine iteT ?_
            refine ⟨_, rfl, _, _, rfl, rfl, _, rfl, _, rfl, _, _, rfl, rfl, (by show 2 ≤ sizeLine; decide), fun p hp => ?_⟩
            exact q _ _ p (l1 c3 g) hp
          · refine ⟨_, rfl, ?_⟩
            refine iteF ?_
            refine ⟨_, rfl, _, rfl, (by show 2 ≤ sizeLine; decide), fun p hp => ?_⟩
            exact q _ _ p (l2 (.inr g)) hp
        · have c3 : x - x.fdiv b * b = 0 := of_veq (decide_eq_true (bnot_dec' c3))
          refine iteF ?_
          refine ⟨_, rfl, _, rfl, (by show 2 ≤ sizeLine; decide), fun p hp => ?_⟩
          exact q _ _ p (l2 (.inl c3)) hp
      · obtain ⟨l1, l2⟩ := leaf r (.inl ⟨rfl, fun z => c2 (decide_eq_true z.2)⟩)
        refine ⟨_, rfl, rfl, _, rfl, ?_⟩
        refine ite2 (fun c3 => ?_) (fun c3 => ?_)
        · have c3 : x - x.fdiv b * b ≠ 0 := fun z => bnot_dec c3 (congrArg V.int z)
          refine ⟨_, rfl, _, rfl, _, rfl, _, _, _, rfl, rest_sm hb mb, mb.sm, fun g => ?_, fun g => ?_⟩
          · refine ⟨_, rfl, ?_⟩
            refine iteT ?_
            refine ⟨_, rfl, _, _, rfl, rfl, _, rfl, _, rfl, _, _, rfl, rfl, (by show 2 ≤ sizeLine; decide), fun p hp => ?_⟩
            exact q _ _ p (l1 c3 g) hp
          · refine ⟨_, rfl, ?_⟩
            refine iteF ?_
            refine ⟨_, rfl, _, rfl, (by show 2 ≤ sizeLine; decide), fun p hp => ?_⟩
            exact q _ _ p (l2 (.inr g)) hp
        · have c3 : x - x.fdiv b * b = 0 := of_veq (decide_eq_true (bnot_dec' c3))
          refine iteF ?_
          refine ⟨_, rfl, _, rfl, (by show 2 ≤ sizeLine; decide), fun p hp => ?_⟩
          exact q _ _ p (l2 (.inl c3)) hp
    · obtain ⟨l1, l2⟩ := leaf r (.inl ⟨rfl, fun z => of_sne c1 z.1⟩)
      refine iteF ?_
      refine ⟨_, rfl, rfl, _, rfl, ?_⟩
      refine ite2 (fun c3 => ?_) (fun c3 => ?_)
      · have c3 : x - x.fdiv b * b ≠ 0 := fun z => bnot_dec c3 (congrArg V.int z)
        refine ⟨_, rfl, _, rfl, _, rfl, _, _, _, rfl, rest_sm hb mb, mb.sm, fun g => ?_, fun g => ?_⟩
        · refine ⟨_, rfl, ?_⟩
          refine iteT ?_
          refine ⟨_, rfl, _, _, rfl, rfl, _, rfl, _, rfl, _, _, rfl, rfl, (by show 2 ≤ sizeLine; decide), fun p hp => ?_⟩
          exact q _ _ p (l1 c3 g) hp
        · refine ⟨_, rfl, ?_⟩
          refine iteF ?_
          refine ⟨_, rfl, _, rfl, (by show 2 ≤ sizeLine; decide), fun p hp => ?_⟩
          exact q _ _ p (l2 (.inr g)) hp
      · have c3 : x - x.fdiv b * b = 0 := of_veq (decide_eq_true (bnot_dec' c3))
        refine iteF ?_
        refine ⟨_, rfl, _, rfl, (by show 2 ≤ sizeLine; decide), fun p hp => ?_⟩
        exact q _ _ p (l2 (.inl c3)) hp
abbrev s_carry : Stmt := top 16
theorem sc_carry : FnScope ["rule", "sign", "base", "figure", "quotient", "remainder"] ["rule", "sign", "base", "figure"] (defScope s_carry) := ⟨rfl, rfl, rfl, by decide +kernel, rfl, by decide +kernel, by decide +kernel⟩
def spCarry : Sp := fun vs H Q _ => ∃ (r : Str) (z b f : Int), vs = [.str r, .int z, .int b, .int f] ∧ r ∈ five ∧ (z = 1 ∨ z = -1) ∧ IsBase b ∧ 0 ≤ f ∧ f ≤ ab b ∧
  ∀ q d p H', IsDiv r (z * f) b q d → Same H H' → H p = none → H' p = some (.tup [.int (ab q), .int d]) → Q (.ref p) H'
theorem IsBase.bounds {b : Int} (h : IsBase b) : b ≠ 0 ∧ Md b ∧ ab b ≤ 10 ∧ 2 ≤ ab b := by
  obtain ⟨h1, h2, h3⟩ := h
  have h4 : ab b = b ∨ ab b = -b := by
    unfold ab
    split
    · exact .inr rfl
    · exact .inl rfl
  exact ⟨by omega, ⟨by omega, by omega⟩, by omega, h3⟩
theorem ok_carry (h : Has K mg "carry" s_carry ["rule", "sign", "base", "figure"]) (T : Txt K mg aR) (O_is_rule : Ok P w K mg base 1 "is_rule" ["value"] spIsRule) (O_is_sign : Ok P w K mg base 3 "is_sign" ["value"] spIsSign)
    (O_is_base : Ok P w K mg base 3 "is_base" ["value"] spIsBase) (O_is_between : Ok P w K mg base 2 "is_between" ["value", "low", "high"] spBetween) (O_divide : Ok P w K mg base 2 "divide" ["rule", "x", "base"] spDivide) :
    Ok P w K mg base 4 "carry" ["rule", "sign", "base", "figure"] spCarry := by
  obtain ⟨f, fd, g, b, F⟩ := h
  refine ⟨f, fd, g, F.kp, b, F.ok sc_carry (fun vs H Q E h => ?_) (fun cdv A outer s H vs Q E hr h => ?_)⟩
  · obtain ⟨r, z, b, f, rfl, _⟩ := h
    rfl
  · obtain ⟨r, z, b, f, rfl, h5, hz, hb, f0, f1, q⟩ := h
    obtain ⟨b0, mb, b1, b2⟩ := hb.bounds
    refine ⟨_, (pss_cons (ps_if (pt_not (pt_val (pe_cO O_is_rule (hr.mono (by decide)) pass0 rfl (pa_cons (pv 0) pa_nil))))
      (pss_one ps_never)
      pss_nil)
    (pss_cons (ps_if (pt_not (pt_val (pe_cO O_is_sign (hr.mono (by decide)) pass0 rfl (pa_cons (pv 1) pa_nil))))
      (pss_one ps_never)
      pss_nil)
    (pss_cons (ps_if (pt_not (pt_val (pe_cO O_is_base (hr.mono (by decide)) pass0 rfl (pa_cons (pv 2) pa_nil))))
      (pss_one ps_never)
      pss_nil)
    (pss_cons (ps_if (pt_not (pt_val (pe_cO O_is_between (hr.mono (by decide)) pass0 rfl (pa_cons (pv 3) (pa_cons pe_int (pa_cons (pe_callB call_abs (by rfl) T.abs (by decide +kernel) (pa_cons (pv 2) pa_nil)) pa_nil))))))
      (pss_one ps_never)
      pss_nil)
    (pss_cons (ps_asg (pe_cO O_divide (hr.mono (by decide)) pass0 rfl (pa_cons (pv 0) (pa_cons (pe_op op_mulS (pv 1) (pv 3)) (pa_cons (pv 2) pa_nil)))) (pg_tup (by rfl) (pgs_cons (pg_name (i := 4) sc_carry.nd rfl (.inl rfl)) (pgs_cons (pg_name (i := 5) sc_carry.nd rfl (.inl rfl)) pgs_nil))))
    (pss_one (ps_ret (pe_tup (pa_cons (pe_callB call_abs (by rfl) T.abs (by decide +kernel) (pa_cons (pv 4) pa_nil)) (pa_cons (pv 5) pa_nil)))))))))), ?_⟩
    refine ⟨_, rfl, r, rfl, h5, _, rfl, ?_⟩
    refine iteF ?_
    refine ⟨_, rfl, z, rfl, hz, _, rfl, ?_⟩
    refine iteF ?_
    refine ⟨_, rfl, b, rfl, hb, _, rfl, ?_⟩
    refine iteF ?_
    refine ⟨_, rfl, _, rfl, _, rfl, f, 0, ab b, rfl, f0, f1, _, rfl, ?_⟩
    refine iteF ?_
    have hm : Md (z * f) := by
      rcases hz with rfl | rfl
      · exact ⟨by omega, by omega⟩
      · exact ⟨by omega, by omega⟩
    refine ⟨_, rfl, _, rfl, _, rfl, _, _, rfl, rfl, ⟨⟨by omega, by omega⟩, ⟨by omega, by omega⟩⟩, _, rfl, r, z * f, b, rfl, h5, b0, hm, mb, fun qq d p hd hp => ?_⟩
    refine ⟨_, _, rfl, SqT.of upd_same, rfl, _, _, rfl, _, _, rfl, rfl, ?_⟩
    refine ⟨_, rfl, _, rfl, _, rfl, (by show 2 ≤ sizeLine; decide), fun p2 hp2 => ?_⟩
    have s1 : Same H (upd H p (.tup [.int qq, .int d])) := Same.new hp
    exact q qq d p2 _ hd (s1.trans (Same.new hp2)) (s1.free hp2) upd_same
end
section
variable {P : Program} {w : World} {K : PySem.W.Frag} {mg : Str → Option Value} {base : Heap} {aR : Addr}
abbrev s__law_pool : Stmt := top 18
theorem sc__law_pool : FnScope ["_law_script", "_law_k", "_law_cell", "_law_seed"] ["_law_script", "_law_k"] (defScope s__law_pool) := ⟨rfl, rfl, rfl, by decide +kernel, rfl, by decide +kernel, by decide +kernel⟩
def spPool (K : PySem.W.Frag) : Sp := fun vs H Q _ => ∃ (a : Addr) (ns : List Int) (k : Nat), vs = [.ref a, .int k] ∧ SqL K H a (ns.map V.int) ∧ k < 64 ∧ ∀ pp H', Same H H' → H pp = none → PoolAt H' pp → Q (.ref pp) H'
theorem seed_ok (c : Int) (k : Nat) (hk : k < 64) : Sm (7919 * (k : Int)) ∧ (c.fmod 2147483629 + 7919 * (k : Int) * (k : Int) + 31).natAbs < 2 ^ 64 := by
  have h1 := Int.fmod_nonneg_of_pos c (show (0 : Int) < 2147483629 by decide)
  have h2 := Int.fmod_lt_of_pos c (show (0 : Int) < 2147483629 by decide)
  have h3 : 0 ≤ 7919 * (k : Int) * (k : Int) := Int.mul_nonneg (by omega) (by omega)
  have h4 : 7919 * (k : Int) * (k : Int) ≤ 7919 * (k : Int) * 64 := Int.mul_le_mul_of_nonneg_left (by omega) (by omega)
  exact ⟨⟨by omega, by omega⟩, by omega⟩
theorem ok__law_pool (h : Has K mg "_law_pool" s__law_pool ["_law_script", "_law_k"]) (T : Txt K mg aR) : Ok P w K mg base 1 "_law_pool" ["_law_script", "_law_k"] (spPool K) := by
  obtain ⟨f, fd, g, b, F⟩ := h
  refine ⟨f, fd, g, F.kp, b, F.ok sc__law_pool (fun vs H Q E h => ?_) (fun cdv A outer s H vs Q E hr h => ?_)⟩
  · obtain ⟨a, ns, k, rfl, _⟩ := h
    rfl
  · obtain ⟨a, ns, k, rfl, hS, hk, q⟩ := h
    refine ⟨_, (pss_cons (ps_set (i := 2) sc__law_pool.nd rfl (Or.inl rfl) pe_int)
    (pss_cons (ps_if (pt_cmpR op_lt (pv 1) (pe_callB call_len_seq (by rfl) T.len (by decide +kernel) (pa_cons (pv 0) pa_nil)) (nomark _))
      (pss_one (ps_set (i := 2) sc__law_pool.nd rfl (Or.inl rfl) (pe_ix ix_list (pv 0) (pv 1) (fun _ _ => rfl))))
      pss_nil)
    (pss_cons (ps_set (i := 3) sc__law_pool.nd rfl (Or.inl rfl) (pe_op op_modN (pe_op op_pow (pe_op op_add (pe_op op_add (pe_op op_modN (pe_callTy call_int1 (by rfl) T.int (by decide +kernel) (pa_cons (pv 2) pa_nil)) pe_int) (pe_op op_mulS (pe_op op_mulS pe_int (pv 1)) (pv 1))) pe_int) pe_int) pe_int))
    (pss_cons (ps_if (pt_cmpR op_lt (pv 2) (pe_op op_pow pe_int pe_int) (nomark _))
      (pss_one (ps_set (i := 2) sc__law_pool.nd rfl (Or.inl rfl) pe_int))
      pss_nil)
    (pss_one (ps_ret (pe_lst (pa_cons (pv 2) (pa_cons (pv 3) pa_nil))))))))), ?_⟩
    have z0 : ∀ c : Int, 0 ≤ ((c.fmod 2147483629 + 7919 * (k : Int) * (k : Int) + 31) ^ (3 : Int).toNat).fmod 2147483647 := fun c => Int.fmod_nonneg_of_pos _ (by decide)
    have z1 : ∀ c : Int, ((c.fmod 2147483629 + 7919 * (k : Int) * (k : Int) + 31) ^ (3 : Int).toNat).fmod 2147483647 < 2147483647 := fun c => Int.fmod_lt_of_pos _ (by decide)
    refine ⟨_, rfl, _, rfl, _, _, rfl, .inl hS, _, _, rfl, rfl, _, rfl, ?_⟩
    refine ite2 (fun c1 => ?_) (fun c1 => ?_)
    · have hlt : k < ns.length := by
        have := of_decide_eq_true c1
        rw [List.length_map] at this
        omega
      refine ⟨_, rfl, _, rfl, a, _, _, .int ns[k], rfl, rfl, hS, atI_nat (by rw [List.getElem?_map, List.getElem?_eq_getElem hlt]; rfl), ?_⟩
      obtain ⟨k1, k2⟩ := seed_ok ns[k] k hk
      refine ⟨_, rfl, .inl ⟨_, rfl, _, _, rfl, rfl, n29, _, rfl, _, _, rfl, rfl, ⟨⟨by decide, by decide⟩, ⟨by omega, by omega⟩⟩, _, rfl, _, _, rfl, rfl, ⟨k1, ⟨by omega, by omega⟩⟩, _, _, rfl, rfl, _, _, rfl, rfl, _, _, rfl, rfl, ⟨by decide, by decide, k2⟩, _, _, rfl, rfl, n47, ?_⟩⟩
      refine ⟨_, rfl, _, _, rfl, rfl, ⟨by decide, by decide, by decide⟩, _, _, rfl, rfl, _, rfl, ?_⟩
      refine ite2 (fun c2 => ?_) (fun c2 => ?_)
      · refine ⟨_, rfl, _, rfl, (by show 2 ≤ sizeLine; decide), fun p hp => ?_⟩
        exact q p _ (Same.new hp) hp ⟨_, _, z0 ns[k], z1 ns[k], upd_same⟩
      · refine ⟨_, rfl, _, rfl, (by show 2 ≤ sizeLine; decide), fun p hp => ?_⟩
        exact q p _ (Same.new hp) hp ⟨_, _, z0 ns[k], z1 ns[k], upd_same⟩
    · obtain ⟨k1, k2⟩ := seed_ok 0 k hk
      refine ⟨_, rfl, .inl ⟨_, rfl, _, _, rfl, rfl, n29, _, rfl, _, _, rfl, rfl, ⟨⟨by decide, by decide⟩, ⟨by omega, by omega⟩⟩, _, rfl, _, _, rfl, rfl, ⟨k1, ⟨by omega, by omega⟩⟩, _, _, rfl, rfl, _, _, rfl, rfl, _, _, rfl, rfl, ⟨by decide, by decide, k2⟩, _, _, rfl, rfl, n47, ?_⟩⟩
      refine ⟨_, rfl, _, _, rfl, rfl, ⟨by decide, by decide, by decide⟩, _, _, rfl, rfl, _, rfl, ?_⟩
      refine ite2 (fun c2 => ?_) (fun c2 => ?_)
      · refine ⟨_, rfl, _, rfl, (by show 2 ≤ sizeLine; decide), fun p hp => ?_⟩
        exact q p _ (Same.new hp) hp ⟨_, _, z0 0, z1 0, upd_same⟩
      · refine ⟨_, rfl, _, rfl, (by show 2 ≤ sizeLine; decide), fun p hp => ?_⟩
        exact q p _ (Same.new hp) hp ⟨_, _, z0 0, z1 0, upd_same⟩
abbrev s__law_draw : Stmt := top 19
theorem sc__law_draw : FnScope ["_law_pool_here", "_law_many", "_law_digit"] ["_law_pool_here", "_law_many"] (defScope s__law_draw) := ⟨rfl, rfl, rfl, by decide +kernel, rfl, by decide +kernel, by decide +kernel⟩
def spDraw : Sp := fun vs H Q _ => ∃ (pp : Addr) (n : Int), vs = [.ref pp, .int n] ∧ 0 < n ∧ Sm n ∧ PoolAt H pp ∧ ∀ d H', 0 ≤ d → d < n → PoolAt H' pp → Keep pp H H' → Q (.int d) H'
theorem ok__law_draw (h : Has K mg "_law_draw" s__law_draw ["_law_pool_here", "_law_many"]) (T : Txt K mg aR) : Ok P w K mg base 1 "_law_draw" ["_law_pool_here", "_law_many"] spDraw := by
  obtain ⟨f, fd, g, b, F⟩ := h
  refine ⟨f, fd, g, F.kp, b, F.ok sc__law_draw (fun vs H Q E h => ?_) (fun cdv A outer s H vs Q E hr h => ?_)⟩
  · obtain ⟨pp, n, rfl, _⟩ := h
    rfl
  · obtain ⟨pp, n, rfl, hn, sn, ⟨c, z, z0, z1, hp⟩, q⟩ := h
    have hn0 : n ≠ 0 := by omega
    refine ⟨_, (pss_cons (ps_if (pt_cmpR op_gt (pe_ix ix_list (pv 0) pe_int (fun _ _ => rfl)) pe_int (nomark _))
      (pss_cons (ps_set (i := 2) sc__law_draw.nd rfl (Or.inl rfl) (pe_op op_modN (pe_callTy call_int1 (by rfl) T.int (by decide +kernel) (pa_cons (pe_ix ix_list (pv 0) pe_int (fun _ _ => rfl)) pa_nil)) (pv 1)))
      (pss_cons (ps_asg (pe_op op_divS (pe_ix ix_list (pv 0) pe_int (fun _ _ => rfl)) (pv 1)) (pg_sub (pv 0) pe_int set_list))
      (pss_one (ps_ret (pv 2)))))
      pss_nil)
    (pss_cons (ps_asg (pe_op op_modN (pe_callTy call_int1 (by rfl) T.int (by decide +kernel) (pa_cons (pe_op op_add (pe_op op_mulS (pe_ix ix_list (pv 0) pe_int (fun _ _ => rfl)) pe_int) pe_int) pa_nil)) pe_int) (pg_sub (pv 0) pe_int set_list))
    (pss_one (ps_ret (pe_op op_modN (pe_op op_divS (pe_op op_modN (pe_callTy call_int1 (by rfl) T.int (by decide +kernel) (pa_cons (pe_op op_mulS (pe_ix ix_list (pv 0) pe_int (fun _ _ => rfl)) (pe_ix ix_list (pv 0) pe_int (fun _ _ => rfl))) pa_nil)) pe_int) pe_int) (pv 1)))))), ?_⟩
    refine ⟨_, rfl, pp, _, _, _, rfl, rfl, SqL.of hp, atI0, _, _, rfl, rfl, _, rfl, ?_⟩
    refine ite2 (fun c1 => ?_) (fun c1 => ?_)
    · refine ⟨_, rfl, pp, _, _, _, rfl, rfl, SqL.of hp, atI0, .inl ⟨_, rfl, _, rfl, _, _, rfl, rfl, hn0, ?_⟩⟩
      refine ⟨_, rfl, pp, _, _, _, rfl, rfl, SqL.of hp, atI0, _, rfl, _, _, rfl, rfl, ⟨hn0, sn⟩, _, rfl, pp, _, _, 0, rfl, rfl, hp, rfl, ?_⟩
      refine ⟨_, rfl, ?_⟩
      exact q _ _ (Int.fmod_nonneg_of_pos _ hn) (Int.fmod_lt_of_pos _ hn) ⟨_, z, z0, z1, upd_same⟩ fun b o e nb => by
        rw [upd_ne nb]
        exact e
    · have s0 : 0 ≤ (z * 48271 + 11).fmod 2147483647 := Int.fmod_nonneg_of_pos _ (by decide)
      have s1 : (z * 48271 + 11).fmod 2147483647 < 2147483647 := Int.fmod_lt_of_pos _ (by decide)
      refine ⟨_, rfl, pp, _, _, _, rfl, rfl, SqL.of hp, atI1, _, _, rfl, rfl, ⟨⟨by omega, by omega⟩, ⟨by decide, by decide⟩⟩, _, _, rfl, rfl, .inl ⟨_, rfl, _, _, rfl, rfl, n47, _, rfl, pp, _, _, 1, rfl, rfl, hp, rfl, ?_⟩⟩
      have e2 : (upd H pp (.lst ([V.int c, V.int z].set 1 (.int ((z * 48271 + 11).fmod 2147483647))))) pp = some (.lst [V.int c, V.int ((z * 48271 + 11).fmod 2147483647)]) := upd_same
      refine ⟨_, rfl, pp, _, _, _, rfl, rfl, SqL.of e2, atI1, _, rfl, pp, _, _, _, rfl, rfl, SqL.of e2, atI1, _, _, rfl, rfl, ⟨⟨by omega, by omega⟩, ⟨by omega, by omega⟩⟩, .inl ⟨_, rfl, _, _, rfl, rfl, n29, _, _, rfl, rfl, ⟨by decide, ⟨by decide, by decide⟩⟩, _, rfl, _, _, rfl, rfl, hn0, ?_⟩⟩
      exact q _ _ (Int.fmod_nonneg_of_pos _ hn) (Int.fmod_lt_of_pos _ hn) ⟨_, _, s0, s1, e2⟩ fun b o e nb => by
        rw [upd_ne nb]
        exact e
abbrev s__law_choose : Stmt := top 20
theorem sc__law_choose : FnScope ["_law_pool_here", "_law_items"] ["_law_pool_here", "_law_items"] (defScope s__law_choose) := ⟨rfl, rfl, rfl, by decide +kernel, rfl, by decide +kernel, by decide +kernel⟩
def spChoose (K : PySem.W.Frag) : Sp := fun vs H Q _ => ∃ (pp l : Addr) (xs : List V), vs = [.ref pp, .ref l] ∧ SqL K H l xs ∧ l ≠ pp ∧ 0 < xs.length ∧ xs.length < 1000000 ∧ PoolAt H pp ∧ ∀ v H', v ∈ xs → PoolAt H' pp → Keep pp H H' → Q v H'
theorem ok__law_choose (h : Has K mg "_law_choose" s__law_choose ["_law_pool_here", "_law_items"]) (T : Txt K mg aR) (O__law_draw : Ok P w K mg base 1 "_law_draw" ["_law_pool_here", "_law_many"] spDraw) : Ok P w K mg base 2 "_law_choose" ["_law_pool_here", "_law_items"] (spChoose K) := by
  obtain ⟨f, fd, g, b, F⟩ := h
  refine ⟨f, fd, g, F.kp, b, F.ok sc__law_choose (fun vs H Q E h => ?_) (fun cdv A outer s H vs Q E hr h => ?_)⟩
  · obtain ⟨pp, l, xs, rfl, _⟩ := h
    rfl
  · obtain ⟨pp, l, xs, rfl, hS, hne, hl0, hl1, hP, q⟩ := h
    refine ⟨_, (pss_one (ps_ret (pe_ix ix_list (pv 1) (pe_cO O__law_draw (hr.mono (by decide)) pass0 rfl (pa_cons (pv 0) (pa_cons (pe_callB call_len_seq (by rfl) T.len (by decide +kernel) (pa_cons (pv 1) pa_nil)) pa_nil))) (fun _ _ => rfl)))), ?_⟩
    refine ⟨_, rfl, _, rfl, _, rfl, l, xs, rfl, .inl hS, pp, _, rfl, by omega, ⟨by omega, by omega⟩, hP, fun d H' d0 d1 P' k' => ?_⟩
    have hj : d.toNat < xs.length := by omega
    refine ⟨l, xs, d, xs[d.toNat], rfl, rfl, k'.seq hne hS, ?_, q _ H' (List.getElem_mem hj) P' k'⟩
    exact at_of (j := d.toNat) (by omega) (List.getElem?_eq_getElem hj)
end
section
variable {P : Program} {w : World} {K : PySem.W.Frag} {mg : Str → Option Value} {base : Heap} {aR : Addr}
theorem sm_b (c : Bool) : Sm (if c = true then 1 else 0) := by
  cases c <;> exact ⟨by decide, by decide⟩
def sp (b : Int) : Int := 1 - 2 * (if decide (b < 0) = true then 1 else 0)
theorem sp_of (b : Int) : b < 0 ∧ sp b = -1 ∨ 0 ≤ b ∧ sp b = 1 := by
  by_cases h : b < 0
  · exact .inl ⟨h, by unfold sp; rw [decide_eq_true h]; rfl⟩
  · exact .inr ⟨by omega, by unfold sp; rw [decide_eq_false h]; rfl⟩
theorem sp_sm (b : Int) : Sm (sp b) := by
  rcases sp_of b with ⟨_, h⟩ | ⟨_, h⟩ <;> (rw [h]; exact ⟨by decide, by decide⟩)
theorem part_of (x : Int) {b : Int} (hb : b ≠ 0) : 0 ≤ x.fmod (ab b) ∧ x.fmod (ab b) < ab b ∧ 0 < ab b := by
  have h : 0 < ab b := by
    unfold ab
    split <;> omega
  exact ⟨Int.fmod_nonneg_of_pos _ h, Int.fmod_lt_of_pos _ h, h⟩
def lp (x b : Int) (c : Bool) : Int := x.fmod (ab b) - ab b * (if c = true then 1 else 0)
theorem lp_or {x b : Int} {c : Bool} : lp x b c = x.fmod (ab b) ∨ lp x b c = x.fmod (ab b) - ab b := by
  unfold lp
  cases c
  · exact .inl (by simp)
  · exact .inr (by simp)
theorem lp_t {x b : Int} : lp x b true = x.fmod (ab b) - ab b := by unfold lp; simp
theorem lp_f {x b : Int} : lp x b false = x.fmod (ab b) := by unfold lp; simp
theorem ab_or (b : Int) : ab b = b ∧ 0 ≤ b ∨ ab b = -b ∧ b < 0 := by
  by_cases h : b < 0
  · exact .inr ⟨ab_neg h, h⟩
  · exact .inl ⟨ab_pos (by omega), by omega⟩
theorem lq_sm {x b p : Int} (hb : b ≠ 0) (mx : Md x) (mb : Md b) (hp : p = x.fmod (ab b) ∨ p = x.fmod (ab b) - ab b) : Sm ((x - p).fdiv (ab b)) := by
  have h := Int.natAbs_fdiv_le_natAbs (x - p) (ab b)
  obtain ⟨h1, h2, h3⟩ := part_of x hb
  obtain ⟨m1, m2⟩ := mx
  obtain ⟨m3, m4⟩ := mb
  have := ab_or b
  exact ⟨by omega, by omega⟩
theorem ldiv_eq {x b p : Int} (hb : b ≠ 0) (hp : p = x.fmod (ab b) ∨ p = x.fmod (ab b) - ab b) : x = (x - p).fdiv (ab b) * sp b * b + p := by
  obtain ⟨h1, h2, h3⟩ := part_of x hb
  have e := Int.mul_fdiv_add_fmod x (ab b)
  have key : ∃ m, x - p = ab b * m := by
    rcases hp with rfl | rfl
    · exact ⟨x.fdiv (ab b), by omega⟩
    · refine ⟨x.fdiv (ab b) + 1, ?_⟩
      rw [Int.mul_add, Int.mul_one]
      omega
  obtain ⟨m, em⟩ := key
  have e1 : (x - p).fdiv (ab b) = m := by
    rw [em, Int.fdiv_eq_ediv_of_nonneg _ (by omega), Int.mul_ediv_cancel_left _ (by omega)]
  rw [e1]
  have e2 : sp b * b = ab b := by
    rcases sp_of b with ⟨z, h⟩ | ⟨z, h⟩
    · rw [h, ab_neg z]
      omega
    · rw [h, ab_pos z]
      omega
  rw [Int.mul_assoc, e2, Int.mul_comm]
  omega
theorem ldiv_down {x b : Int} (hb : b ≠ 0) (c : Bool) (h1 : c = true → b < 0 ∧ 0 < x.fmod (ab b)) (h2 : c = false → ¬ (b < 0 ∧ 0 < x.fmod (ab b))) : IsDiv "down" x b ((x - lp x b c).fdiv (ab b) * sp b) (lp x b c) := by
  obtain ⟨n1, n2, n3, n4, n5, n6, n7, n8, n9, n10⟩ := five_ne
  obtain ⟨p1, p2, p3⟩ := part_of x hb
  have ho := ab_or b
  have e := ldiv_eq (p := lp x b c) hb lp_or
  cases c
  · have h2 := h2 rfl
    refine ⟨e, ?_, fun _ => ?_, fun z => absurd z n1, fun z => absurd z n2, fun z => absurd z n3, fun z => absurd z n4⟩ <;> rw [lp_f] <;> omega
  · have h1 := h1 rfl
    refine ⟨e, ?_, fun _ => ?_, fun z => absurd z n1, fun z => absurd z n2, fun z => absurd z n3, fun z => absurd z n4⟩ <;> rw [lp_t] <;> omega
theorem ldiv_up {x b : Int} (hb : b ≠ 0) (c : Bool) (h1 : c = true → 0 < b ∧ 0 < x.fmod (ab b)) (h2 : c = false → ¬ (0 < b ∧ 0 < x.fmod (ab b))) : IsDiv "up" x b ((x - lp x b c).fdiv (ab b) * sp b) (lp x b c) := by
  obtain ⟨n1, n2, n3, n4, n5, n6, n7, n8, n9, n10⟩ := five_ne
  obtain ⟨p1, p2, p3⟩ := part_of x hb
  have ho := ab_or b
  have e := ldiv_eq (p := lp x b c) hb lp_or
  cases c
  · have h2 := h2 rfl
    refine ⟨e, ?_, fun z => absurd z.symm n1, fun _ => ?_, fun z => absurd z n5, fun z => absurd z n6, fun z => absurd z n7⟩ <;> rw [lp_f] <;> omega
  · have h1 := h1 rfl
    refine ⟨e, ?_, fun z => absurd z.symm n1, fun _ => ?_, fun z => absurd z n5, fun z => absurd z n6, fun z => absurd z n7⟩ <;> rw [lp_t] <;> omega
theorem fmod_of_neg {x b : Int} (hb : b ≠ 0) (hx : 0 ≤ x) (h : x < ab b) : x.fmod (ab b) = x := by
  obtain ⟨p1, p2, p3⟩ := part_of x hb
  rw [Int.fmod_eq_emod_of_nonneg _ (by omega)]
  exact Int.emod_eq_of_lt hx h
theorem ldiv_zero {x b : Int} (hb : b ≠ 0) (c : Bool) (h1 : c = true → x < 0 ∧ 0 < x.fmod (ab b)) (h2 : c = false → ¬ (x < 0 ∧ 0 < x.fmod (ab b))) : IsDiv "zero" x b ((x - lp x b c).fdiv (ab b) * sp b) (lp x b c) := by
  obtain ⟨n1, n2, n3, n4, n5, n6, n7, n8, n9, n10⟩ := five_ne
  obtain ⟨p1, p2, p3⟩ := part_of x hb
  have ho := ab_or b
  have e := ldiv_eq (p := lp x b c) hb lp_or
  cases c
  · have h2 := h2 rfl
    refine ⟨e, ?_, fun z => absurd z.symm n2, fun z => absurd z.symm n5, fun _ => ?_, fun z => absurd z n8, fun z => absurd z n9⟩
    · rw [lp_f]
      omega
    · rw [lp_f]
      refine ⟨fun _ => p1, fun z => ?_⟩
      by_cases z0 : x = 0
      · subst z0
        rw [fmod_of_neg hb (by omega) (by omega)]
        omega
      · omega
  · have h1 := h1 rfl
    refine ⟨e, ?_, fun z => absurd z.symm n2, fun z => absurd z.symm n5, fun _ => ?_, fun z => absurd z n8, fun z => absurd z n9⟩ <;> rw [lp_t] <;> omega
theorem ldiv_near {x b : Int} (hb : b ≠ 0) (c : Bool) (h1 : c = true → ab b < 2 * x.fmod (ab b)) (h2 : c = false → ¬ ab b < 2 * x.fmod (ab b)) : IsDiv "near" x b ((x - lp x b c).fdiv (ab b) * sp b) (lp x b c) := by
  obtain ⟨n1, n2, n3, n4, n5, n6, n7, n8, n9, n10⟩ := five_ne
  obtain ⟨p1, p2, p3⟩ := part_of x hb
  have ho := ab_or b
  have e := ldiv_eq (p := lp x b c) hb lp_or
  cases c
  · have h2 := h2 rfl
    refine ⟨e, ?_, fun z => absurd z.symm n4, fun z => absurd z.symm n7, fun z => absurd z.symm n9, fun z => absurd z.symm n10, fun _ => ?_⟩ <;> rw [lp_f] <;> omega
  · have h1 := h1 rfl
    refine ⟨e, ?_, fun z => absurd z.symm n4, fun z => absurd z.symm n7, fun z => absurd z.symm n9, fun z => absurd z.symm n10, fun _ => ?_⟩ <;> rw [lp_t] <;> omega
theorem ldiv_positive {x b : Int} (hb : b ≠ 0) : IsDiv "positive" x b ((x - x.fmod (ab b)).fdiv (ab b) * sp b) (x.fmod (ab b)) := by
  obtain ⟨n1, n2, n3, n4, n5, n6, n7, n8, n9, n10⟩ := five_ne
  obtain ⟨p1, p2, p3⟩ := part_of x hb
  have ho := ab_or b
  exact ⟨ldiv_eq hb (.inl rfl), by omega, fun z => absurd z.symm n3, fun z => absurd z.symm n6, fun z => absurd z.symm n8, fun _ => p1, fun z => absurd z n10⟩
abbrev s__law_divide : Stmt := top 21
theorem sc__law_divide : FnScope ["_law_rule", "_law_x", "_law_base", "_law_size", "_law_spun", "_law_part"] ["_law_rule", "_law_x", "_law_base"] (defScope s__law_divide) := ⟨rfl, rfl, rfl, by decide +kernel, rfl, by decide +kernel, by decide +kernel⟩
theorem ok__law_divide (h : Has K mg "_law_divide" s__law_divide ["_law_rule", "_law_x", "_law_base"]) (T : Txt K mg aR) : Ok P w K mg base 1 "_law_divide" ["_law_rule", "_law_x", "_law_base"] spDivide := by
  obtain ⟨f, fd, g, b, F⟩ := h
  refine ⟨f, fd, g, F.kp, b, F.ok sc__law_divide (fun vs H Q E h => ?_) (fun cdv A outer s H vs Q E hr h => ?_)⟩
  · obtain ⟨r, i, b, rfl, _⟩ := h
    rfl
  · obtain ⟨r, x, b, rfl, h5, hb, mx, mb, q⟩ := h
    obtain ⟨p1, p2, p3⟩ := part_of x hb
    have hs0 : ab b ≠ 0 := by omega
    have hsz : Sm (ab b) := sm_ab mb.sm
    refine ⟨_, (pss_cons (ps_par (by rfl) sc__law_divide.nd (i := 3) (j := 4) rfl rfl (by decide) rfl rfl (pa_cons (pe_callB call_abs (by rfl) T.abs (by decide +kernel) (pa_cons (pv 2) pa_nil)) (pa_cons (pe_op op_sub pe_int (pe_op op_mulS pe_int (pe_callTy call_int1 (by rfl) T.int (by decide +kernel) (pa_cons (pe_cmpR op_lt (pv 2) pe_int (nomark _)) pa_nil)))) pa_nil)) (by rfl))
    (pss_cons (ps_set (i := 5) sc__law_divide.nd rfl (Or.inl rfl) (pe_op op_modN (pe_callTy call_int1 (by rfl) T.int (by decide +kernel) (pa_cons (pv 1) pa_nil)) (pv 3)))
    (pss_cons (ps_if (pt_cmpR op_eq (pv 0) pe_str (nomark _))
      (pss_one (ps_set (i := 5) sc__law_divide.nd rfl (Or.inl rfl) (pe_op op_sub (pv 5) (pe_op op_mulS (pv 3) (pe_callTy call_int1 (by rfl) T.int (by decide +kernel) (pa_cons (pe_and (pe_cmpR op_lt (pv 2) pe_int (nomark _)) (pe_one (pe_cmpR op_gt (pv 5) pe_int (nomark _)))) pa_nil))))))
      (pss_one (ps_if (pt_cmpR op_eq (pv 0) pe_str (nomark _))
        (pss_one (ps_set (i := 5) sc__law_divide.nd rfl (Or.inl rfl) (pe_op op_sub (pv 5) (pe_op op_mulS (pv 3) (pe_callTy call_int1 (by rfl) T.int (by decide +kernel) (pa_cons (pe_and (pe_cmpR op_gt (pv 2) pe_int (nomark _)) (pe_one (pe_cmpR op_gt (pv 5) pe_int (nomark _)))) pa_nil))))))
        (pss_one (ps_if (pt_cmpR op_eq (pv 0) pe_str (nomark _))
          (pss_one (ps_set (i := 5) sc__law_divide.nd rfl (Or.inl rfl) (pe_op op_sub (pv 5) (pe_op op_mulS (pv 3) (pe_callTy call_int1 (by rfl) T.int (by decide +kernel) (pa_cons (pe_and (pe_cmpR op_lt (pv 1) pe_int (nomark _)) (pe_one (pe_cmpR op_gt (pv 5) pe_int (nomark _)))) pa_nil))))))
          (pss_one (ps_if (pt_cmpR op_eq (pv 0) pe_str (nomark _))
            (pss_one (ps_set (i := 5) sc__law_divide.nd rfl (Or.inl rfl) (pe_op op_sub (pv 5) (pe_op op_mulS (pv 3) (pe_callTy call_int1 (by rfl) T.int (by decide +kernel) (pa_cons (pe_cmpR op_gt (pe_op op_mulS pe_int (pv 5)) (pv 3) (nomark _)) pa_nil))))))
            pss_nil)))))))
    (pss_one (ps_ret (pe_tup (pa_cons (pe_op op_mulS (pe_op op_divS (pe_op op_sub (pv 1) (pv 5)) (pv 3)) (pv 4)) (pa_cons (pv 5) pa_nil)))))))), ?_⟩
    refine ⟨_, rfl, _, rfl, _, rfl, _, _, rfl, rfl, .inr ⟨_, rfl, _, _, rfl, rfl, ⟨sm_two, sm_b _⟩, _, _, rfl, rfl, _, _, rfl, ?_⟩⟩
    refine ⟨_, rfl, .inl ⟨_, rfl, _, rfl, _, _, rfl, rfl, hs0, ?_⟩⟩
    have tt : ∀ z : Str, decide (V.str z = V.str z) = true := fun z => decide_eq_true rfl
    simp only [five, List.mem_cons, List.not_mem_nil, or_false] at h5
    rcases h5 with rfl | rfl | rfl | rfl | rfl
    · refine ⟨_, rfl, rfl, _, rfl, ?_⟩
      refine iteP (tt _) ?_
      refine ⟨_, rfl, _, rfl, _, rfl, _, _, rfl, rfl, _, rfl, ?_⟩
      refine ite2 (fun c1 => ?_) (fun c1 => ?_)
      · have c1 := of_decide_eq_true c1
        refine ⟨_, rfl, _, _, rfl, rfl, .inr ⟨_, rfl, _, _, rfl, rfl, ⟨sm_ab mb.sm, sm_b _⟩, _, _, rfl, rfl, ?_⟩⟩
        refine ⟨_, rfl, _, rfl, _, _, rfl, rfl, _, rfl, _, _, rfl, rfl, ⟨hs0, hsz⟩, _, rfl, _, _, rfl, rfl, ⟨lq_sm hb mx mb (lp_or (c := (decide (0 < x.fmod (ab b))))), sp_sm b⟩, _, rfl, (by show 2 ≤ sizeLine; decide), fun p hp => q _ _ p (ldiv_down hb (decide (0 < x.fmod (ab b))) (fun z => ⟨c1, of_decide_eq_true z⟩) (fun z h => of_decide_eq_false z h.2)) hp⟩
      · have c1 := fun z => c1 (decide_eq_true z)
        refine .inr ⟨_, rfl, _, _, rfl, rfl, ⟨sm_ab mb.sm, sm_b _⟩, _, _, rfl, rfl, ?_⟩
        refine ⟨_, rfl, _, rfl, _, _, rfl, rfl, _, rfl, _, _, rfl, rfl, ⟨hs0, hsz⟩, _, rfl, _, _, rfl, rfl, ⟨lq_sm hb mx mb (lp_or (c := false)), sp_sm b⟩, _, rfl, (by show 2 ≤ sizeLine; decide), fun p hp => q _ _ p (ldiv_down hb false (fun z => nomatch z) (fun _ h => c1 h.1)) hp⟩
    · refine ⟨_, rfl, rfl, _, rfl, ?_⟩
      refine iteN (sne (by decide +kernel)) ?_
      refine ⟨_, rfl, rfl, _, rfl, ?_⟩
      refine iteP (tt _) ?_
      refine ⟨_, rfl, _, rfl, _, rfl, _, _, rfl, rfl, _, rfl, ?_⟩
      refine ite2 (fun c1 => ?_) (fun c1 => ?_)
      · have c1 := of_decide_eq_true c1
        refine ⟨_, rfl, _, _, rfl, rfl, .inr ⟨_, rfl, _, _, rfl, rfl, ⟨sm_ab mb.sm, sm_b _⟩, _, _, rfl, rfl, ?_⟩⟩
        refine ⟨_, rfl, _, rfl, _, _, rfl, rfl, _, rfl, _, _, rfl, rfl, ⟨hs0, hsz⟩, _, rfl, _, _, rfl, rfl, ⟨lq_sm hb mx mb (lp_or (c := (decide (0 < x.fmod (ab b))))), sp_sm b⟩, _, rfl, (by show 2 ≤ sizeLine; decide), fun p hp => q _ _ p (ldiv_up hb (decide (0 < x.fmod (ab b))) (fun z => ⟨c1, of_decide_eq_true z⟩) (fun z h => of_decide_eq_false z h.2)) hp⟩
      · have c1 := fun z => c1 (decide_eq_true z)
        refine .inr ⟨_, rfl, _, _, rfl, rfl, ⟨sm_ab mb.sm, sm_b _⟩, _, _, rfl, rfl, ?_⟩
        refine ⟨_, rfl, _, rfl, _, _, rfl, rfl, _, rfl, _, _, rfl, rfl, ⟨hs0, hsz⟩, _, rfl, _, _, rfl, rfl, ⟨lq_sm hb mx mb (lp_or (c := false)), sp_sm b⟩, _, rfl, (by show 2 ≤ sizeLine; decide), fun p hp => q _ _ p (ldiv_up hb false (fun z => nomatch z) (fun _ h => c1 h.1)) hp⟩
    · refine ⟨_, rfl, rfl, _, rfl, ?_⟩
      refine iteN (sne (by decide +kernel)) ?_
      refine ⟨_, rfl, rfl, _, rfl, ?_⟩
      refine iteN (sne (by decide +kernel)) ?_
      refine ⟨_, rfl, rfl, _, rfl, ?_⟩
      refine iteP (tt _) ?_
      refine ⟨_, rfl, _, rfl, _, rfl, _, _, rfl, rfl, _, rfl, ?_⟩
      refine ite2 (fun c1 => ?_) (fun c1 => ?_)
      · have c1 := of_decide_eq_true c1
        refine ⟨_, rfl, _, _, rfl, rfl, .inr ⟨_, rfl, _, _, rfl, rfl, ⟨sm_ab mb.sm, sm_b _⟩, _, _, rfl, rfl, ?_⟩⟩
        refine ⟨_, rfl, _, rfl, _, _, rfl, rfl, _, rfl, _, _, rfl, rfl, ⟨hs0, hsz⟩, _, rfl, _, _, rfl, rfl, ⟨lq_sm hb mx mb (lp_or (c := (decide (0 < x.fmod (ab b))))), sp_sm b⟩, _, rfl, (by show 2 ≤ sizeLine; decide), fun p hp => q _ _ p (ldiv_zero hb (decide (0 < x.fmod (ab b))) (fun z => ⟨c1, of_decide_eq_true z⟩) (fun z h => of_decide_eq_false z h.2)) hp⟩
      · have c1 := fun z => c1 (decide_eq_true z)
        refine .inr ⟨_, rfl, _, _, rfl, rfl, ⟨sm_ab mb.sm, sm_b _⟩, _, _, rfl, rfl, ?_⟩
        refine ⟨_, rfl, _, rfl, _, _, rfl, rfl, _, rfl, _, _, rfl, rfl, ⟨hs0, hsz⟩, _, rfl, _, _, rfl, rfl, ⟨lq_sm hb mx mb (lp_or (c := false)), sp_sm b⟩, _, rfl, (by show 2 ≤ sizeLine; decide), fun p hp => q _ _ p (ldiv_zero hb false (fun z => nomatch z) (fun _ h => c1 h.1)) hp⟩
    · refine ⟨_, rfl, rfl, _, rfl, ?_⟩
      refine iteN (sne (by decide +kernel)) ?_
      refine ⟨_, rfl, rfl, _, rfl, ?_⟩
      refine iteN (sne (by decide +kernel)) ?_
      refine ⟨_, rfl, rfl, _, rfl, ?_⟩
      refine iteN (sne (by decide +kernel)) ?_
      refine ⟨_, rfl, rfl, _, rfl, ?_⟩
      refine iteN (sne (by decide +kernel)) ?_
      refine ⟨_, rfl, _, rfl, _, _, rfl, rfl, _, rfl, _, _, rfl, rfl, ⟨hs0, hsz⟩, _, rfl, _, _, rfl, rfl, ⟨lq_sm hb mx mb (.inl rfl), sp_sm b⟩, _, rfl, (by show 2 ≤ sizeLine; decide), fun p hp => q _ _ p (ldiv_positive hb) hp⟩
    · refine ⟨_, rfl, rfl, _, rfl, ?_⟩
      refine iteN (sne (by decide +kernel)) ?_
      refine ⟨_, rfl, rfl, _, rfl, ?_⟩
      refine iteN (sne (by decide +kernel)) ?_
      refine ⟨_, rfl, rfl, _, rfl, ?_⟩
      refine iteN (sne (by decide +kernel)) ?_
      refine ⟨_, rfl, rfl, _, rfl, ?_⟩
      refine iteP (tt _) ?_
      have hpm : Sm (x.fmod (ab b)) := by
        obtain ⟨m1, m2⟩ := hsz
        exact ⟨by omega, by omega⟩
      refine ⟨_, rfl, _, rfl, _, rfl, _, _, rfl, rfl, ⟨sm_two, hpm⟩, _, rfl, _, _, rfl, rfl, .inr ⟨_, rfl, _, _, rfl, rfl, ⟨sm_ab mb.sm, sm_b _⟩, _, _, rfl, rfl, ?_⟩⟩
      refine ⟨_, rfl, _, rfl, _, _, rfl, rfl, _, rfl, _, _, rfl, rfl, ⟨hs0, hsz⟩, _, rfl, _, _, rfl, rfl, ⟨lq_sm hb mx mb (lp_or (c := (decide (ab b < 2 * x.fmod (ab b))))), sp_sm b⟩, _, rfl, (by show 2 ≤ sizeLine; decide), fun p hp => q _ _ p (ldiv_near hb (decide (ab b < 2 * x.fmod (ab b))) (fun z => of_decide_eq_true z) (fun z h => of_decide_eq_false z h)) hp⟩
end
section
variable {P : Program} {w : World} {K : PySem.W.Frag} {mg : Str → Option Value} {base : Heap} {aR : Addr}
theorem shaped2 (a b : Int) : SeqAt.shaped (.tuple [.int a, .int b]) = true := rfl
theorem eqv2 {a b c d : Int} (h : a = c) (g : b = d) : PyData.eqv (.tuple [.int a, .int b]) (.tuple [.int c, .int d]) = true := by
  subst h
  subst g
  exact PySem.SeqAt.eqv_refl _ rfl
theorem dp2 {H : Hp} {p : Addr} {a b : Int} (h : H p = some (.tup [.int a, .int b])) : Dp K H (.ref p) (.tuple [.int a, .int b]) := .tup (SqT.of h) (.cons (.int _) (.cons (.int _) .nil))
abbrev s__law_number : Stmt := top 22
theorem sc__law_number : FnScope ["_law_pool_here", "_law_some"] ["_law_pool_here"] (defScope s__law_number) := ⟨rfl, rfl, rfl, by decide +kernel, rfl, by decide +kernel, by decide +kernel⟩
def spNumber : Sp := fun vs H Q _ => ∃ pp, vs = [.ref pp] ∧ PoolAt H pp ∧ ∀ x H', -(10 ^ 20) ≤ x → x ≤ 10 ^ 20 → PoolAt H' pp → Keep pp H H' → Q (.int x) H'
theorem ok__law_number (h : Has K mg "_law_number" s__law_number ["_law_pool_here"]) (O__law_draw : Ok P w K mg base 1 "_law_draw" ["_law_pool_here", "_law_many"] spDraw)
    (O__law_choose : Ok P w K mg base 2 "_law_choose" ["_law_pool_here", "_law_items"] (spChoose K)) : Ok P w K mg base 3 "_law_number" ["_law_pool_here"] spNumber := by
  obtain ⟨f, fd, g, b, F⟩ := h
  refine ⟨f, fd, g, F.kp, b, F.ok sc__law_number (fun vs H Q E h => ?_) (fun cdv A outer s H vs Q E hr h => ?_)⟩
  · obtain ⟨pp, rfl, _⟩ := h
    rfl
  · obtain ⟨pp, rfl, hP, q⟩ := h
    refine ⟨_, (pss_cons (ps_set (i := 1) sc__law_number.nd rfl (Or.inl rfl) (pe_lst (pa_cons (pe_op op_sub (pe_cO O__law_draw (hr.mono (by decide)) pass0 rfl (pa_cons (pv 0) (pa_cons pe_int pa_nil))) pe_int) (pa_cons (pe_op op_sub (pe_cO O__law_draw (hr.mono (by decide)) pass0 rfl (pa_cons (pv 0) (pa_cons pe_int pa_nil))) pe_int) (pa_cons (pe_op op_sub (pe_cO O__law_draw (hr.mono (by decide)) pass0 rfl (pa_cons (pv 0) (pa_cons (pe_op op_pow pe_int pe_int) pa_nil))) (pe_op op_pow pe_int pe_int)) pa_nil)))))
    (pss_one (ps_ret (pe_cO O__law_choose (hr.mono (by decide)) pass0 rfl (pa_cons (pv 0) (pa_cons (pv 1) pa_nil)))))), ?_⟩
    refine ⟨_, rfl, pp, _, rfl, (by decide), ⟨by decide, by decide⟩, hP, fun d0 H1 a0 b0 P1 k1 => ?_⟩
    refine ⟨_, _, rfl, rfl, ?_⟩
    refine ⟨_, rfl, pp, _, rfl, (by decide), ⟨by decide, by decide⟩, P1, fun d1 H2 a1 b1 P2 k2 => ?_⟩
    refine ⟨_, _, rfl, rfl, ?_⟩
    refine ⟨_, rfl, _, _, rfl, rfl, ⟨by decide, by decide, by decide⟩, pp, _, rfl, (by decide), ⟨by decide, by decide⟩, P2, fun d2 H3 a2 b2 P3 k3 => ?_⟩
    have b2 : d2 < 10 ^ 20 := b2
    refine ⟨_, _, rfl, rfl, ⟨by decide, by decide, by decide⟩, _, _, rfl, rfl, (by show 3 ≤ sizeLine; decide), fun l hl => ?_⟩
    have k4 : Keep pp H (upd H3 l (.lst [.int (d0 - 20), .int (d1 - 1000), .int (d2 - 10 ^ (19 : Int).toNat)])) := ((k1.trans k2).trans k3).trans (Same.keep (Same.new hl))
    refine ⟨_, rfl, _, rfl, pp, l, _, rfl, SqL.of upd_same, P3.ne hl, (by show 0 < 3; decide), (by show 3 < 1000000; decide), P3.same (Same.new hl), fun v H' hv P' k' => ?_⟩
    have e19 : (10 : Int) ^ (19 : Int).toNat = 10 ^ 19 := rfl
    simp only [List.mem_cons, List.not_mem_nil, or_false] at hv
    rcases hv with rfl | rfl | rfl
    · exact q _ H' (by omega) (by omega) P' (k4.trans k')
    · exact q _ H' (by omega) (by omega) P' (k4.trans k')
    · exact q (d2 - 10 ^ 19) H' (by omega) (by omega) P' (k4.trans k')
/-! ### carry, for every number with that lowest figure -/
theorem carry_math {r : Str} {z b f h q d q' d' : Int} (h5 : r ∈ five) (hz : z = 1 ∨ z = -1) (hb : IsBase b) (f0 : 0 ≤ f) (f1 : f ≤ ab b) (h0 : 0 ≤ h) (i1 : IsDiv r (z * (ab b * h + f)) b q d) (i2 : IsDiv r (z * f) b q' d') :
    ab q' = z * sp b * q - h ∧ d' = d := by
  obtain ⟨b0, _, _, b2⟩ := hb.bounds
  have e2 : sp b * b = ab b := by
    rcases sp_of b with ⟨z, h⟩ | ⟨z, h⟩
    · rw [h, ab_neg z]
      omega
    · rw [h, ab_pos z]
      omega
  have hs := sp_of b
  have ho := ab_or b
  have hN : 0 ≤ ab b * h := Int.mul_nonneg (by omega) h0
  have eN : (q' + z * sp b * h) * b = q' * b + z * (ab b * h) := by
    rw [Int.add_mul, ← e2]
    congr 1
    rw [Int.mul_assoc, Int.mul_assoc, Int.mul_assoc, Int.mul_comm h b]
  have i3 : IsDiv r (z * (ab b * h + f)) b (q' + z * sp b * h) d' := by
    have e := i2.eq
    refine ⟨?_, i2.lt, i2.down, i2.up, fun zz => ?_, i2.pos, i2.near⟩
    · rw [eN, Int.mul_add]
      omega
    · have g := i2.zero zz
      rcases hz with rfl | rfl
      · exact ⟨fun _ => g.1 (by omega), fun _ => g.2 (by omega)⟩
      · exact ⟨fun _ => g.1 (by omega), fun _ => g.2 (by omega)⟩
  obtain ⟨e3, e4⟩ := i1.uniq h5 b0 i3
  refine ⟨?_, e4.symm⟩
  rw [e3]
  have eq := i2.eq
  have lt := i2.lt
  have e5 : z * sp b * (q' + z * sp b * h) - h = z * sp b * q' := by
    rcases hz with rfl | rfl <;> rcases hs with ⟨_, hs⟩ | ⟨_, hs⟩ <;> rw [hs] <;> omega
  rw [e5]
  have lo : q' ≤ -1 → (0 < b → q' * b ≤ -b) ∧ (b < 0 → -b ≤ q' * b) := fun hl => by
    refine ⟨fun hp => ?_, fun hn => ?_⟩
    · have := Int.mul_le_mul_of_nonneg_right hl (Int.le_of_lt hp)
      omega
    · have := Int.mul_le_mul_of_nonneg_right hl (show 0 ≤ -b by omega)
      rw [Int.mul_neg] at this
      omega
  have hi : 1 ≤ q' → (0 < b → b ≤ q' * b) ∧ (b < 0 → q' * b ≤ b) := fun hl => by
    refine ⟨fun hp => ?_, fun hn => ?_⟩
    · have := Int.mul_le_mul_of_nonneg_right hl (Int.le_of_lt hp)
      omega
    · have := Int.mul_le_mul_of_nonneg_right hl (show 0 ≤ -b by omega)
      rw [Int.one_mul, Int.mul_neg] at this
      omega
  have hq := ab_or q'
  rcases hz with rfl | rfl <;> rcases hs with ⟨hn, hs⟩ | ⟨hn, hs⟩ <;> rw [hs] <;> omega
abbrev s__law_carries_right : Stmt := top 23
theorem sc__law_carries_right : FnScope ["_law_rule", "_law_sign", "_law_base", "_law_high", "_law_size", "_law_figure", "_law_x", "_law_later", "_law_part", "_law_spun"] ["_law_rule", "_law_sign", "_law_base", "_law_high"] (defScope s__law_carries_right) := ⟨rfl, rfl, rfl, by decide +kernel, rfl, by decide +kernel, by decide +kernel⟩
def spCar : Sp := fun vs H Q _ => ∃ (r : Str) (z b h : Int), vs = [.str r, .int z, .int b, .int h] ∧ r ∈ five ∧ (z = 1 ∨ z = -1) ∧ IsBase b ∧ 0 ≤ h ∧ h ≤ 10 ^ 20 ∧ ∀ H', Same H H' → Q (.bl true) H'
theorem big_md {z m : Int} (hz : z = 1 ∨ z = -1) (h0 : 0 ≤ m) (h1 : m < 2 ^ 199) : Md (z * m) := by
  rcases hz with rfl | rfl <;> exact ⟨by omega, by omega⟩
theorem q_sm {r : Str} {x b q d : Int} (hb : b ≠ 0) (mx : -(2 ^ 199) < x ∧ x < 2 ^ 199) (mb : -(2 ^ 199) < b ∧ b < 2 ^ 199) (i : IsDiv r x b q d) : Sm q := by
  have e := i.eq
  have l := i.lt
  have h : q.natAbs ≤ (q * b).natAbs := by
    rw [Int.natAbs_mul]
    exact Nat.le_mul_of_pos_right _ (by omega)
  exact ⟨by omega, by omega⟩
theorem ok__law_carries_right (h : Has K mg "_law_carries_right" s__law_carries_right ["_law_rule", "_law_sign", "_law_base", "_law_high"]) (T : Txt K mg aR) (O__law_divide : Ok P w K mg base 1 "_law_divide" ["_law_rule", "_law_x", "_law_base"] spDivide)
    (O_carry : Ok P w K mg base 4 "carry" ["rule", "sign", "base", "figure"] spCarry) : Ok P w K mg base 5 "_law_carries_right" ["_law_rule", "_law_sign", "_law_base", "_law_high"] spCar := by
  obtain ⟨f, fd, g, b, F⟩ := h
  refine ⟨f, fd, g, F.kp, b, F.ok sc__law_carries_right (fun vs H Q E h => ?_) (fun cdv A outer s H vs Q E hr h => ?_)⟩
  · obtain ⟨r, z, b, h, rfl, _⟩ := h
    rfl
  · obtain ⟨r, z, b, h, rfl, h5, hz, hb, h0, h1, q⟩ := h
    obtain ⟨b0, mb, b1, b2⟩ := hb.bounds
    have b3 : -10 ≤ b ∧ b ≤ 10 := ⟨hb.1, hb.2.1⟩
    have sz : Sm z := by rcases hz with rfl | rfl <;> exact ⟨by decide, by decide⟩
    refine ⟨_, (pss_cons (ps_set (i := 4) sc__law_carries_right.nd rfl (Or.inl rfl) (pe_callB call_abs (by rfl) T.abs (by decide +kernel) (pa_cons (pv 2) pa_nil)))
    (pss_cons (ps_for PassesOwn.never rfl (pi_range1 rfl T.range (pa_cons (pe_op op_add (pv 4) pe_int) pa_nil)) (pg_name (i := 5) sc__law_carries_right.nd rfl (.inl rfl))
      (pss_cons (ps_set (i := 6) sc__law_carries_right.nd rfl (Or.inl rfl) (pe_op op_mulS (pv 1) (pe_op op_add (pe_op op_mulS (pv 4) (pv 3)) (pv 5))))
      (pss_cons (ps_asg (pe_cO O__law_divide (hr.mono (by decide)) pass0 rfl (pa_cons (pv 0) (pa_cons (pv 6) (pa_cons (pv 2) pa_nil)))) (pg_tup (by rfl) (pgs_cons (pg_name (i := 7) sc__law_carries_right.nd rfl (.inl rfl)) (pgs_cons (pg_name (i := 8) sc__law_carries_right.nd rfl (.inl rfl)) pgs_nil))))
      (pss_cons (ps_set (i := 9) sc__law_carries_right.nd rfl (Or.inl rfl) (pe_op op_mulS (pv 1) (pe_op op_sub pe_int (pe_op op_mulS pe_int (pe_callTy call_int1 (by rfl) T.int (by decide +kernel) (pa_cons (pe_cmpR op_lt (pv 2) pe_int (nomark _)) pa_nil))))))
      (pss_one (ps_if (pt_cmpR (op_neD hr.units) (pe_cO O_carry (hr.mono (by decide)) pass0 rfl (pa_cons (pv 0) (pa_cons (pv 1) (pa_cons (pv 2) (pa_cons (pv 5) pa_nil))))) (pe_tup (pa_cons (pe_op op_sub (pe_op op_mulS (pv 9) (pv 7)) (pv 3)) (pa_cons (pv 8) pa_nil))) (nomark _))
        (pss_one (ps_ret pe_bl))
        pss_nil))))))
    (pss_one (ps_ret pe_bl)))), ?_⟩
    refine ⟨_, rfl, _, rfl, ?_⟩
    have hN0 : 0 ≤ ab b * h := Int.mul_nonneg (by omega) h0
    have hN1 : ab b * h ≤ 10 * h := Int.mul_le_mul_of_nonneg_right b1 h0
    refine ⟨_, rfl, _, _, rfl, rfl, ab b + 1, rfl, by omega, by omega, for_range (n := (ab b + 1).toNat) (fun i σ H' => Same H H' ∧ ∃ v5 v6 v7 v8 v9 : Option V, σ = [some (.str r), some (.int z), some (.int b), some (.int h), some (.int (ab b)), v5, v6, v7, v8, v9])
      ⟨Same.refl H, none, none, none, none, none, rfl⟩ ?_ ?_⟩
    · rintro i σ H1 hi ⟨s1, v5, v6, v7, v8, v9, rfl⟩
      have f0 : 0 ≤ (0 : Int) + i := by omega
      have f1 : (0 : Int) + i ≤ ab b := by omega
      have hm : Md (z * (ab b * h + (0 + i))) := big_md hz (by omega) (by omega)
      have hm2 : -(2 ^ 199) < z * (ab b * h + (0 + (i : Int))) ∧ z * (ab b * h + (0 + (i : Int))) < 2 ^ 199 := by
        rcases hz with rfl | rfl <;> exact ⟨by omega, by omega⟩
      refine ⟨_, rfl, _, rfl, _, rfl, _, _, rfl, rfl, ⟨⟨by omega, by omega⟩, ⟨by omega, by omega⟩⟩, _, rfl, _, _, rfl, rfl, _, _, rfl, rfl, ⟨sz, ⟨by omega, by omega⟩⟩, ?_⟩
      refine ⟨_, rfl, _, rfl, _, rfl, r, _, b, rfl, h5, b0, hm, mb, fun qq d p hd hp => ?_⟩
      refine ⟨_, _, rfl, SqT.of upd_same, rfl, _, _, rfl, _, _, rfl, rfl, ?_⟩
      refine ⟨_, rfl, _, rfl, _, _, rfl, rfl, .inr ⟨_, rfl, _, _, rfl, rfl, ⟨sm_two, sm_b _⟩, _, _, rfl, rfl, _, _, rfl, rfl, ⟨sz, sp_sm b⟩, ?_⟩⟩
      refine ⟨_, rfl, _, rfl, _, rfl, _, rfl, r, z, b, _, rfl, h5, hz, hb, f0, f1, fun q' d' p' H2 hd' s2 hp' e' => ?_⟩
      have s3 : Same H H2 := (s1.trans (Same.new hp)).trans s2
      have sps : Sm (z * sp b) := by
        have hs := sp_of b
        rcases hz with rfl | rfl <;> rcases hs with ⟨_, hs⟩ | ⟨_, hs⟩ <;> rw [hs] <;> exact ⟨by decide, by decide⟩
      refine ⟨_, rfl, _, rfl, _, _, rfl, rfl, ⟨sps, q_sm b0 hm2 ⟨by omega, by omega⟩ hd⟩, _, rfl, _, _, rfl, rfl, _, rfl, (by show 2 ≤ sizeLine; decide), fun t ht => ?_⟩
      refine ⟨.tuple [.int (ab q'), .int d'], .tuple [.int (z * sp b * qq - h), .int d], dp2 ((Same.new ht) _ _ e'), dp2 upd_same, shaped2 _ _, shaped2 _ _, ?_⟩
      obtain ⟨c1, c2⟩ := carry_math h5 hz hb f0 f1 h0 hd hd'
      rw [eqv2 c1 c2]
      refine ⟨_, rfl, ?_⟩
      refine iteF ?_
      exact ⟨s3.trans (Same.new ht), _, _, _, _, _, rfl⟩
    · rintro σ H1 ⟨s1, _⟩
      exact q H1 s1
end
section
variable {P : Program} {w : World} {K : PySem.W.Frag} {mg : Str → Option Value} {base : Heap} {aR : Addr}
theorem Keep.same_of {pp : Addr} {H H1 H2 : Hp} (k : Keep pp H1 H2) (s : Same H H1) (n : H pp = none) : Same H H2 := fun b o e => k b o (s b o e) (ne_of_none e n)
theorem dpStrs {H : Hp} : ∀ xs : List Str, DpAll K H (xs.map V.str) (xs.map PyData.str)
  | [] => .nil
  | x :: xs => .cons (.str x) (dpStrs xs)
abbrev s_law : Stmt := top 24
theorem sc_law : FnScope ["_law_script", "_law_rules", "_law_told", "_law_k", "_law_pool_here", "_law_turn", "_law_rule", "_law_x", "_law_base", "_law_later", "_law_part", "_law_high"] ["_law_script"] (defScope s_law) := ⟨rfl, rfl, rfl, by decide +kernel, rfl, by decide +kernel, by decide +kernel⟩
def spLaw (K : PySem.W.Frag) : Sp := fun vs H Q _ => ∃ (a : Addr) (ns : List Int), vs = [.ref a] ∧ SqL K H a (ns.map V.int) ∧ ns.length ≤ 63 ∧ ∀ H', Q (.bl true) H'
theorem five_len : (five.map V.str).length = 5 := rfl
theorem div7 : IsDiv "down" (-1 * 7) 10 (-1) 3 := by
  obtain ⟨n1, n2, n3, n4, n5, n6, n7, n8, n9, n10⟩ := five_ne
  exact ⟨by decide, by decide, fun _ => by decide, fun z => absurd z n1, fun z => absurd z n2, fun z => absurd z n3, fun z => absurd z n4⟩
theorem ten_base : IsBase 10 := ⟨by decide, by decide, by decide⟩
theorem down_five : ("down" : Str) ∈ five := List.mem_cons_self
theorem pm_of {v : V} (h : v ∈ [V.int 1, V.int (-1)]) : ∃ z : Int, v = .int z ∧ (z = 1 ∨ z = -1) := by
  simp only [List.mem_cons, List.not_mem_nil, or_false] at h
  rcases h with rfl | rfl
  · exact ⟨1, rfl, .inl rfl⟩
  · exact ⟨-1, rfl, .inr rfl⟩
theorem ok_law {f : Addr} {fd : FuncData} (F : Fun K "law" "law" s_law f fd) (T : Txt K mg aR) (O_rule_names : Ok P w K mg base 1 "rule_names" [] spNames) (O_divide : Ok P w K mg base 2 "divide" ["rule", "x", "base"] spDivide)
    (O_carry : Ok P w K mg base 4 "carry" ["rule", "sign", "base", "figure"] spCarry) (O__law_pool : Ok P w K mg base 1 "_law_pool" ["_law_script", "_law_k"] (spPool K)) (O__law_draw : Ok P w K mg base 1 "_law_draw" ["_law_pool_here", "_law_many"] spDraw)
    (O__law_choose : Ok P w K mg base 2 "_law_choose" ["_law_pool_here", "_law_items"] (spChoose K)) (O__law_divide : Ok P w K mg base 1 "_law_divide" ["_law_rule", "_law_x", "_law_base"] spDivide)
    (O__law_number : Ok P w K mg base 3 "_law_number" ["_law_pool_here"] spNumber) (O__law_carries_right : Ok P w K mg base 5 "_law_carries_right" ["_law_rule", "_law_sign", "_law_base", "_law_high"] spCar) :
    FnOk P w K mg base CX0 6 f fd ["_law_script"] (spLaw K) := by
  refine F.ok sc_law (fun vs H Q E h => ?_) (fun cdv A outer s H vs Q E hr h => ?_)
  · obtain ⟨a, ns, rfl, _⟩ := h
    rfl
  · obtain ⟨a, ns, rfl, hS, hlen, q⟩ := h
    refine ⟨_, (pss_cons (ps_set (i := 1) sc_law.nd rfl (Or.inl rfl) (pe_lst (pa_cons pe_str (pa_cons pe_str (pa_cons pe_str (pa_cons pe_str (pa_cons pe_str pa_nil)))))))
    (pss_cons (ps_set (i := 2) sc_law.nd rfl (Or.inl rfl) (pe_cO0 O_rule_names (hr.mono (by decide)) pass0 rfl))
    (pss_cons (ps_expr (pe_bm0 PySem.F.plainAttrs_list PySem.F.slot_list_clear PySem.F.type_list_clear mt_clear (pv 2)))
    (pss_cons (ps_if (PW.pt (pw_or (pt_cmpR (op_neD hr.units) (pe_cO0 O_rule_names (hr.mono (by decide)) pass0 rfl) (pv 1) (nomark _)) (pw_or1 (pt_cmpR (op_neD hr.units) (pe_cO O_carry (hr.mono (by decide)) pass0 rfl (pa_cons pe_str (pa_cons (pe_un un_neg pe_int) (pa_cons pe_int (pa_cons pe_int pa_nil))))) (pe_tup (pa_cons pe_int (pa_cons pe_int pa_nil))) (nomark _)))))
      (pss_one (ps_ret pe_bl))
      pss_nil)
    (pss_cons (ps_for PassesOwn.never rfl (pi_range1 rfl T.range (pa_cons (pe_callB (call_max2 rfl) (by rfl) T.max (by decide +kernel) (pa_cons pe_int (pa_cons (pe_callB (call_min2 rfl) (by rfl) T.min (by decide +kernel) (pa_cons (pe_callB call_len_seq (by rfl) T.len (by decide +kernel) (pa_cons (pv 0) pa_nil)) (pa_cons pe_int pa_nil))) pa_nil))) pa_nil)) (pg_name (i := 3) sc_law.nd rfl (.inl rfl))
      (pss_cons (ps_set (i := 4) sc_law.nd rfl (Or.inl rfl) (pe_cO O__law_pool (hr.mono (by decide)) pass0 rfl (pa_cons (pv 0) (pa_cons (pv 3) pa_nil))))
      (pss_cons (ps_for PassesOwn.never rfl (pi_range1 rfl T.range (pa_cons pe_int pa_nil)) (pg_name (i := 5) sc_law.nd rfl (.inl rfl))
        (pss_cons (ps_par (by rfl) sc_law.nd (i := 6) (j := 7) rfl rfl (by decide) rfl rfl (pa_cons (pe_cO O__law_choose (hr.mono (by decide)) pass0 rfl (pa_cons (pv 4) (pa_cons (pv 1) pa_nil))) (pa_cons (pe_cO O__law_number (hr.mono (by decide)) pass0 rfl (pa_cons (pv 4) pa_nil)) pa_nil)) (by rfl))
        (pss_cons (ps_set (i := 8) sc_law.nd rfl (Or.inl rfl) (pe_op op_mulS (pe_cO O__law_choose (hr.mono (by decide)) pass0 rfl (pa_cons (pv 4) (pa_cons (pe_lst (pa_cons pe_int (pa_cons (pe_un un_neg pe_int) pa_nil))) pa_nil))) (pe_op op_add pe_int (pe_cO O__law_draw (hr.mono (by decide)) pass0 rfl (pa_cons (pv 4) (pa_cons (pe_cO O__law_choose (hr.mono (by decide)) pass0 rfl (pa_cons (pv 4) (pa_cons (pe_lst (pa_cons pe_int (pa_cons (pe_op op_pow pe_int pe_int) pa_nil))) pa_nil))) pa_nil))))))
        (pss_cons (ps_asg (pe_cO O_divide (hr.mono (by decide)) pass0 rfl (pa_cons (pv 6) (pa_cons (pv 7) (pa_cons (pv 8) pa_nil)))) (pg_tup (by rfl) (pgs_cons (pg_name (i := 9) sc_law.nd rfl (.inl rfl)) (pgs_cons (pg_name (i := 10) sc_law.nd rfl (.inl rfl)) pgs_nil))))
        (pss_one (ps_if (PW.pt (pw_or (pt_cmpR (op_neD hr.units) (pe_tup (pa_cons (pv 9) (pa_cons (pv 10) pa_nil))) (pe_cO O__law_divide (hr.mono (by decide)) pass0 rfl (pa_cons (pv 6) (pa_cons (pv 7) (pa_cons (pv 8) pa_nil)))) (nomark _)) (pw_or (pt_cmpR op_ne (pv 7) (pe_op op_add (pe_op op_mulS (pv 9) (pv 8)) (pv 10)) (nomark _)) (pw_or1 (pt_cmpR op_ge (pe_callB call_abs (by rfl) T.abs (by decide +kernel) (pa_cons (pv 10) pa_nil)) (pe_callB call_abs (by rfl) T.abs (by decide +kernel) (pa_cons (pv 8) pa_nil)) (nomark _))))))
          (pss_one (ps_ret pe_bl))
          pss_nil))))))
      (pss_cons (ps_set (i := 11) sc_law.nd rfl (Or.inl rfl) (pe_cO O__law_choose (hr.mono (by decide)) pass0 rfl (pa_cons (pv 4) (pa_cons (pe_lst (pa_cons pe_int (pa_cons pe_int (pa_cons pe_int (pa_cons (pe_cO O__law_draw (hr.mono (by decide)) pass0 rfl (pa_cons (pv 4) (pa_cons (pe_op op_pow pe_int pe_int) pa_nil))) pa_nil))))) pa_nil))))
      (pss_cons (ps_set (i := 8) sc_law.nd rfl (Or.inl rfl) (pe_op op_mulS (pe_cO O__law_choose (hr.mono (by decide)) pass0 rfl (pa_cons (pv 4) (pa_cons (pe_lst (pa_cons pe_int (pa_cons (pe_un un_neg pe_int) pa_nil))) pa_nil))) (pe_op op_add pe_int (pe_cO O__law_draw (hr.mono (by decide)) pass0 rfl (pa_cons (pv 4) (pa_cons pe_int pa_nil))))))
      (pss_one (ps_for PassesOwn.never rfl (pi_list (pv 1)) (pg_name (i := 6) sc_law.nd rfl (.inl rfl))
        (pss_one (ps_if (PW.pt (pw_or (pt_not (pt_val (pe_cO O__law_carries_right (hr.mono (by decide)) pass0 rfl (pa_cons (pv 6) (pa_cons pe_int (pa_cons (pv 8) (pa_cons (pv 11) pa_nil))))))) (pw_or1 (pt_not (pt_val (pe_cO O__law_carries_right (hr.mono (by decide)) pass0 rfl (pa_cons (pv 6) (pa_cons (pe_un un_neg pe_int) (pa_cons (pv 8) (pa_cons (pv 11) pa_nil))))))))))
          (pss_one (ps_ret pe_bl))
          pss_nil)))))))))
    (pss_one (ps_ret pe_bl))))))), ?_⟩
    -- the rules; what rule_names tells, cleared
    refine ⟨by show 5 ≤ sizeLine; decide, fun l1 hl1 => ?_⟩
    refine ⟨rfl, fun l2 hl2 => ?_⟩
    have e1 : (upd H l1 (.lst (five.map V.str))) l1 = some (.lst (five.map V.str)) := upd_same
    have n12 : l1 ≠ l2 := ne_of_none e1 hl2
    have s2 : Same H (upd (upd H l1 (.lst (five.map V.str))) l2 (.lst (five.map V.str))) := (Same.new hl1).trans (Same.new hl2)
    refine ⟨_, rfl, .inl ⟨rfl, _, SqL.of upd_same⟩, l2, _, rfl, rfl, upd_same, ?_⟩
    -- the tests ahead of the loop
    have s3 : Same H (upd (upd (upd H l1 (.lst (five.map V.str))) l2 (.lst (five.map V.str))) l2 (.lst [])) := by
      rw [upd_upd]
      exact (Same.new hl1).trans (Same.new hl2)
    have e3 : (upd (upd (upd H l1 (.lst (five.map V.str))) l2 (.lst (five.map V.str))) l2 (.lst [])) l1 = some (.lst (five.map V.str)) := by
      rw [upd_ne n12, upd_ne n12]
      exact e1
    refine ⟨rfl, fun l3 hl3 => ?_⟩
    refine ⟨_, rfl, .list (five.map PyData.str), .list (five.map PyData.str), .lst (SqL.of upd_same) (dpStrs _), .lst (SqL.of ((Same.new hl3) _ _ e3)) (dpStrs _), by decide +kernel, by decide +kernel, ?_⟩
    rw [show PyData.eqv (.list (five.map PyData.str)) (.list (five.map PyData.str)) = true by decide +kernel]
    refine ⟨_, rfl, ?_⟩
    refine iteF ?_
    refine ⟨_, rfl, "down", -1, 10, 7, rfl, down_five, .inr rfl, ten_base, by decide, by decide, fun q7 d7 p7 H4 hd7 s4 hp7 e7 => ?_⟩
    refine ⟨by show 2 ≤ sizeLine; decide, fun t7 ht7 => ?_⟩
    obtain ⟨c7, c8⟩ := hd7.uniq down_five (by decide) div7
    subst c7
    subst c8
    refine ⟨.tuple [.int (ab (-1)), .int 3], .tuple [.int 1, .int 3], dp2 ((Same.new ht7) _ _ e7), dp2 upd_same, shaped2 _ _, shaped2 _ _, ?_⟩
    rw [eqv2 (show ab (-1) = 1 by decide) rfl]
    refine ⟨_, rfl, ?_⟩
    refine iteF ?_
    have s5 := ((Same.new hl3).trans s4).trans (Same.new (o := .tup [.int 1, .int 3]) ht7)
    have s6 : Same H (upd H4 t7 (.tup [.int 1, .int 3])) := s3.trans s5
    have e6 : (upd H4 t7 (.tup [.int 1, .int 3])) l1 = some (.lst (five.map V.str)) := s5 _ _ e3
    -- the cells
    refine ⟨_, rfl, a, _, rfl, .inl (s6.seq hS), _, _, rfl, _, _, rfl, ?_⟩
    rw [List.length_map]
    have hn : ∃ n : Int, n = (if (if (12 : Int) < (ns.length : Int) then (12 : Int) else (ns.length : Int)) > 1 then (if (12 : Int) < (ns.length : Int) then (12 : Int) else (ns.length : Int)) else 1) ∧ 0 ≤ n ∧ n ≤ 12 := by
      refine ⟨_, rfl, ?_, ?_⟩ <;> split <;> split <;> omega
    obtain ⟨n, en, n0, n1⟩ := hn
    rw [← en]
    refine ⟨n, rfl, by omega, by omega, for_range (n := n.toNat) (fun i σ H' => Same H H' ∧ H' l1 = some (.lst (five.map V.str)) ∧ ∃ v3 v4 v5 v6 v7 v8 v9 v10 v11 : Option V, σ = [some (.ref a), some (.ref l1), some (.ref l2), v3, v4, v5, v6, v7, v8, v9, v10, v11])
      ⟨s6, e6, none, none, none, none, none, none, none, none, none, rfl⟩ ?_ ?_⟩
    · rintro i σ H6 hi ⟨s7, e7, v3, v4, v5, v6, v7, v8, v9, v10, v11, rfl⟩
      refine ⟨_, rfl, _, rfl, a, ns, i, by rw [Int.zero_add]; rfl, s7.seq hS, by omega, fun pp H7 s8 hpp P7 => ?_⟩
      have s9 : Same H H7 := s7.trans s8
      have e9 : H7 l1 = some (.lst (five.map V.str)) := s8 _ _ e7
      have nl : l1 ≠ pp := ne_of_none e7 hpp
      have npp : H pp = none := s7.free hpp
      refine ⟨12, rfl, by decide, by decide, for_range (n := 12) (fun j σ H' => Same H H' ∧ H' l1 = some (.lst (five.map V.str)) ∧ PoolAt H' pp ∧ ∃ v5 v6 v7 v8 v9 v10 v11 : Option V, σ = [some (.ref a), some (.ref l1), some (.ref l2), some (.int (0 + (i : Int))), some (.ref pp), v5, v6, v7, v8, v9, v10, v11])
        ⟨s9, e9, P7, v5, v6, v7, v8, v9, v10, v11, rfl⟩ ?_ ?_⟩
      · clear v5 v6 v7 v8 v9 v10 v11 P7 e9 s9 s8 e7 s7 hpp
        rintro j σ H8 hj ⟨s8, e8, P8, v5, v6, v7, v8, v9, v10, v11, rfl⟩
        refine ⟨_, rfl, _, rfl, pp, l1, _, rfl, SqL.of e8, nl, (by show 0 < 5; decide), (by show 5 < 1000000; decide), P8, fun v H9 hv P9 k9 => ?_⟩
        obtain ⟨r, h5, rfl⟩ := List.mem_map.mp hv
        refine ⟨_, rfl, pp, rfl, P9, fun x H10 x0 x1 P10 k10 => ?_⟩
        refine ⟨_, _, rfl, ?_⟩
        refine ⟨_, rfl, _, rfl, (by show 2 ≤ sizeLine; decide), fun l hl => ?_⟩
        refine ⟨pp, l, _, rfl, SqL.of upd_same, P10.ne hl, (by show 0 < 2; decide), (by show 2 < 1000000; decide), P10.same (Same.new hl), fun v2 H11 hv2 P11 k11 => ?_⟩
        obtain ⟨z, rfl, hz⟩ := pm_of hv2
        refine ⟨_, rfl, _, rfl, _, _, rfl, rfl, ⟨by decide, by decide, by decide⟩, (by show 2 ≤ sizeLine; decide), fun l' hl' => ?_⟩
        refine ⟨pp, l', _, rfl, SqL.of upd_same, P11.ne hl', (by show 0 < 2; decide), (by show 2 < 1000000; decide), P11.same (Same.new hl'), fun v12 H12 hv12 P12 k12 => ?_⟩
        obtain ⟨m, rfl, m0, m1⟩ : ∃ m : Int, v12 = .int m ∧ 0 < m ∧ m ≤ 10 ^ 12 := by
          simp only [List.mem_cons, List.not_mem_nil, or_false] at hv12
          rcases hv12 with rfl | rfl
          · exact ⟨_, rfl, by decide, by decide⟩
          · exact ⟨_, rfl, by decide, by decide⟩
        refine ⟨pp, m, rfl, m0, ⟨by omega, by omega⟩, P12, fun d H13 d0 d1 P13 k13 => ?_⟩
        have kk : Keep pp H8 H13 := (((((k9.trans k10).trans (Same.keep (Same.new hl))).trans k11).trans (Same.keep (Same.new hl'))).trans k12).trans k13
        have s13 : Same H H13 := kk.same_of s8 npp
        have e13 : H13 l1 = some (.lst (five.map V.str)) := kk _ _ e8 nl
        have hb : z * (1 + d) = 1 + d ∨ z * (1 + d) = -(1 + d) := by
          rcases hz with rfl | rfl
          · exact .inl (by omega)
          · exact .inr (by omega)
        refine ⟨_, _, rfl, rfl, _, _, rfl, rfl, ⟨by rcases hz with rfl | rfl <;> exact ⟨by decide, by decide⟩, ⟨by omega, by omega⟩⟩, ?_⟩
        have b0 : (z * (1 + d)) ≠ 0 := by omega
        have mx : Md x := ⟨by omega, by omega⟩
        have mb : Md (z * (1 + d)) := ⟨by omega, by omega⟩
        refine ⟨_, rfl, _, rfl, _, rfl, r, x, (z * (1 + d)), rfl, h5, b0, mx, mb, fun q1 d1 p hd hp => ?_⟩
        refine ⟨_, _, rfl, SqT.of upd_same, rfl, _, _, rfl, _, _, rfl, rfl, ?_⟩
        have s14 : Same H13 (upd H13 p (.tup [.int q1, .int d1])) := Same.new hp
        refine ⟨_, rfl, _, rfl, (by show 2 ≤ sizeLine; decide), fun p2 hp2 => ?_⟩
        refine ⟨_, rfl, _, rfl, _, rfl, r, x, (z * (1 + d)), rfl, h5, b0, mx, mb, fun q2 d2 p3 hd2 hp3 => ?_⟩
        obtain ⟨rfl, rfl⟩ := hd.uniq h5 b0 hd2
        refine ⟨.tuple [.int q1, .int d1], .tuple [.int q1, .int d1], dp2 ((Same.new hp3) _ _ upd_same), dp2 upd_same, shaped2 _ _, shaped2 _ _, ?_⟩
        rw [eqv2 rfl rfl]
        refine ⟨_, rfl, ?_⟩
        refine iteF ?_
        refine ⟨_, rfl, _, rfl, _, rfl, _, _, rfl, rfl, ⟨q_sm b0 ⟨by omega, by omega⟩ ⟨by omega, by omega⟩ hd, mb.sm⟩, _, rfl, _, _, rfl, rfl, rfl, _, rfl, ?_⟩
        refine iteNS (congrArg V.int hd.eq) ?_
        refine ⟨_, rfl, _, rfl, _, rfl, _, rfl, _, _, rfl, rfl, _, rfl, ?_⟩
        refine iteN (fun c => ?_) ?_
        · have c : ab (z * (1 + d)) ≤ ab d1 := of_decide_eq_true c
          have lt := hd.lt
          have := ab_or (z * (1 + d))
          have := ab_or d1
          omega
        have s15 := (s14.trans (Same.new (o := .tup [.int q1, .int d1]) hp2)).trans (Same.new (o := .tup [.int q1, .int d1]) hp3)
        exact ⟨s13.trans s15, s15 _ _ e13, P13.same s15, _, _, _, _, _, _, _, rfl⟩
      · clear v5 v6 v7 v8 v9 v10 v11 P7 e9 s9 s8 e7 s7 hpp
        rintro σ H8 ⟨s8, e8, P8, v5, v6, v7, v8, v9, v10, v11, rfl⟩
        refine ⟨_, rfl, _, rfl, _, _, rfl, rfl, ⟨by decide, by decide, by decide⟩, pp, _, rfl, (by decide), ⟨by decide, by decide⟩, P8, fun d H9 d0 d1 P9 k9 => ?_⟩
        have d1 : d < 10 ^ 20 := d1
        refine ⟨by show 4 ≤ sizeLine; decide, fun l hl => ?_⟩
        refine ⟨pp, l, _, rfl, SqL.of upd_same, P9.ne hl, (by show 0 < 4; decide), (by show 4 < 1000000; decide), P9.same (Same.new hl), fun v H10 hv P10 k10 => ?_⟩
        obtain ⟨h, rfl, h0, h1⟩ : ∃ h : Int, v = .int h ∧ 0 ≤ h ∧ h ≤ 10 ^ 20 := by
          simp only [List.mem_cons, List.not_mem_nil, or_false] at hv
          rcases hv with rfl | rfl | rfl | rfl
          · exact ⟨_, rfl, by decide, by decide⟩
          · exact ⟨_, rfl, by decide, by decide⟩
          · exact ⟨_, rfl, by decide, by decide⟩
          · exact ⟨_, rfl, by omega, by omega⟩
        refine ⟨_, rfl, _, rfl, (by show 2 ≤ sizeLine; decide), fun l' hl' => ?_⟩
        refine ⟨pp, l', _, rfl, SqL.of upd_same, P10.ne hl', (by show 0 < 2; decide), (by show 2 < 1000000; decide), P10.same (Same.new hl'), fun v2 H11 hv2 P11 k11 => ?_⟩
        obtain ⟨z, rfl, hz⟩ := pm_of hv2
        refine ⟨_, rfl, pp, 9, rfl, (by decide), ⟨by decide, by decide⟩, P11, fun e H12 e0 e1 P12 k12 => ?_⟩
        have kk : Keep pp H8 H12 := ((((k9.trans (Same.keep (Same.new hl))).trans k10).trans (Same.keep (Same.new hl'))).trans k11).trans k12
        have s12 : Same H H12 := kk.same_of s8 npp
        have e12 : H12 l1 = some (.lst (five.map V.str)) := kk _ _ e8 nl
        have hb : z * (2 + e) = 2 + e ∨ z * (2 + e) = -(2 + e) := by
          rcases hz with rfl | rfl
          · exact .inl (by omega)
          · exact .inr (by omega)
        refine ⟨_, _, rfl, rfl, _, _, rfl, rfl, ⟨by rcases hz with rfl | rfl <;> exact ⟨by decide, by decide⟩, ⟨by omega, by omega⟩⟩, ?_⟩
        have hB : IsBase (z * (2 + e)) := ⟨by omega, by omega, by have := ab_or (z * (2 + e)); omega⟩
        refine ⟨_, rfl, l1, rfl, ⟨_, SqL.of e12⟩, for_list (K := K) (a := l1) (xs := five.map V.str) (fun j σ H' => Same H H' ∧ H' l1 = some (.lst (five.map V.str)) ∧ ∃ v6 : Option V, σ = [some (.ref a), some (.ref l1), some (.ref l2), some (.int (0 + (i : Int))), some (.ref pp), v5, v6, v7, some (.int (z * (2 + e))), v9, v10, some (.int h)])
          ⟨s12, e12, v6, rfl⟩ (fun _ _ _ _ z => SqL.of z.2.1) ?_ ?_⟩
        · rintro j y σ H13 hy ⟨s13, e13, v6, rfl⟩
          obtain ⟨r, h5, rfl⟩ := List.mem_map.mp (List.mem_of_getElem? hy)
          refine ⟨_, rfl, _, rfl, _, rfl, r, 1, (z * (2 + e)), h, rfl, h5, .inl rfl, hB, h0, h1, fun H14 s14 => ?_⟩
          refine ⟨_, rfl, ?_⟩
          refine iteF ?_
          refine ⟨_, rfl, _, rfl, _, rfl, _, rfl, r, -1, (z * (2 + e)), h, rfl, h5, .inr rfl, hB, h0, h1, fun H15 s15 => ?_⟩
          refine ⟨_, rfl, ?_⟩
          refine iteF ?_
          exact ⟨(s13.trans s14).trans s15, s15 _ _ (s14 _ _ e13), _, rfl⟩
        · rintro σ H13 ⟨s13, e13, v6, rfl⟩
          exact ⟨s13, e13, _, _, _, _, _, _, _, _, _, rfl⟩
    · rintro σ H6 ⟨s7, e7, v3, v4, v5, v6, v7, v8, v9, v10, v11, rfl⟩
      exact q H6
end
/-! ### what the top has written -/
theorem all_mk {l : PySem.W.OpenLaw} {w : World} {K : PySem.W.Frag} {h : Heap} {mg : Str → Option Value} {fa f1 f2 f3 f4 f5 f6 f7 f8 f9 f10 f11 f12 f13 f14 f15 f16 : Addr} (X : K.In h) (G : h.Ns mainGlobals mg) (hfa : mg "law" = some (.ref fa))
    {od1 an1 od2 an2 od3 an3 od4 an4 od5 an5 od6 an6 od7 an7 od8 an8 od9 an9 od10 an10 od11 an11 od12 an12 od13 an13 od14 an14 od15 an15 od16 an16 : Option Addr} {sl1 sl2 sl3 sl4 sl5 sl6 sl7 sl8 sl9 sl10 sl11 sl12 sl13 sl14 sl15 sl16 : Array (Option Value)} {oc1 kV1 dc1 pm1 cd1 ct1 oc2 kV2 dc2 pm2 cd2 ct2 oc3 kV3 dc3 pm3 cd3 ct3 oc4 kV4 dc4 pm4 cd4 ct4 oc5 kV5 dc5 pm5 cd5 ct5 oc6 kV6 dc6 pm6 cd6 ct6 oc7 kV7 dc7 pm7 cd7 ct7 oc8 kV8 dc8 pm8 cd8 ct8 oc9 kV9 dc9 pm9 cd9 ct9 oc10 kV10 dc10 pm10 cd10 ct10 oc11 kV11 dc11 pm11 cd11 ct11 oc12 kV12 dc12 pm12 cd12 ct12 oc13 kV13 dc13 pm13 cd13 ct13 oc14 kV14 dc14 pm14 cd14 ct14 oc15 kV15 dc15 pm15 cd15 ct15 oc16 kV16 dc16 pm16 cd16 ct16 : Value} {rl : Addr} {otR : Obj} {itR : Array Value} {nR : Nat}
    (a1 : PySem.W.nsIn K mainGlobals "is_integer" = some (some (.ref f1))) (l1 : K.lookup f1 = some ⟨oc1, od1, .func (PySem.W.fnOf "is_integer" "is_integer" (defArgs s_is_integer) (defBody s_is_integer) (defScope s_is_integer) .none kV1 dc1 pm1 an1 cd1 ct1), sl1⟩) (c1 : PySem.W.codeIn K cd1 "is_integer" = true) (k1 : PySem.W.keepIn K (.ref f1) = true)
    (a2 : PySem.W.nsIn K mainGlobals "is_between" = some (some (.ref f2))) (l2 : K.lookup f2 = some ⟨oc2, od2, .func (PySem.W.fnOf "is_between" "is_between" (defArgs s_is_between) (defBody s_is_between) (defScope s_is_between) .none kV2 dc2 pm2 an2 cd2 ct2), sl2⟩) (c2 : PySem.W.codeIn K cd2 "is_between" = true) (k2 : PySem.W.keepIn K (.ref f2) = true)
    (a3 : PySem.W.nsIn K mainGlobals "is_rule" = some (some (.ref f3))) (l3 : K.lookup f3 = some ⟨oc3, od3, .func (PySem.W.fnOf "is_rule" "is_rule" (defArgs s_is_rule) (defBody s_is_rule) (defScope s_is_rule) .none kV3 dc3 pm3 an3 cd3 ct3), sl3⟩) (c3 : PySem.W.codeIn K cd3 "is_rule" = true) (k3 : PySem.W.keepIn K (.ref f3) = true)
    (a4 : PySem.W.nsIn K mainGlobals "is_sign" = some (some (.ref f4))) (l4 : K.lookup f4 = some ⟨oc4, od4, .func (PySem.W.fnOf "is_sign" "is_sign" (defArgs s_is_sign) (defBody s_is_sign) (defScope s_is_sign) .none kV4 dc4 pm4 an4 cd4 ct4), sl4⟩) (c4 : PySem.W.codeIn K cd4 "is_sign" = true) (k4 : PySem.W.keepIn K (.ref f4) = true)
    (a5 : PySem.W.nsIn K mainGlobals "is_base" = some (some (.ref f5))) (l5 : K.lookup f5 = some ⟨oc5, od5, .func (PySem.W.fnOf "is_base" "is_base" (defArgs s_is_base) (defBody s_is_base) (defScope s_is_base) .none kV5 dc5 pm5 an5 cd5 ct5), sl5⟩) (c5 : PySem.W.codeIn K cd5 "is_base" = true) (k5 : PySem.W.keepIn K (.ref f5) = true)
    (a6 : PySem.W.nsIn K mainGlobals "rule_names" = some (some (.ref f6))) (l6 : K.lookup f6 = some ⟨oc6, od6, .func (PySem.W.fnOf "rule_names" "rule_names" (defArgs s_rule_names) (defBody s_rule_names) (defScope s_rule_names) .none kV6 dc6 pm6 an6 cd6 ct6), sl6⟩) (c6 : PySem.W.codeIn K cd6 "rule_names" = true) (k6 : PySem.W.keepIn K (.ref f6) = true)
    (a7 : PySem.W.nsIn K mainGlobals "goes_up" = some (some (.ref f7))) (l7 : K.lookup f7 = some ⟨oc7, od7, .func (PySem.W.fnOf "goes_up" "goes_up" (defArgs s_goes_up) (defBody s_goes_up) (defScope s_goes_up) .none kV7 dc7 pm7 an7 cd7 ct7), sl7⟩) (c7 : PySem.W.codeIn K cd7 "goes_up" = true) (k7 : PySem.W.keepIn K (.ref f7) = true)
    (a8 : PySem.W.nsIn K mainGlobals "divide" = some (some (.ref f8))) (l8 : K.lookup f8 = some ⟨oc8, od8, .func (PySem.W.fnOf "divide" "divide" (defArgs s_divide) (defBody s_divide) (defScope s_divide) .none kV8 dc8 pm8 an8 cd8 ct8), sl8⟩) (c8 : PySem.W.codeIn K cd8 "divide" = true) (k8 : PySem.W.keepIn K (.ref f8) = true)
    (a9 : PySem.W.nsIn K mainGlobals "carry" = some (some (.ref f9))) (l9 : K.lookup f9 = some ⟨oc9, od9, .func (PySem.W.fnOf "carry" "carry" (defArgs s_carry) (defBody s_carry) (defScope s_carry) .none kV9 dc9 pm9 an9 cd9 ct9), sl9⟩) (c9 : PySem.W.codeIn K cd9 "carry" = true) (k9 : PySem.W.keepIn K (.ref f9) = true)
    (a10 : PySem.W.nsIn K mainGlobals "_law_pool" = some (some (.ref f10))) (l10 : K.lookup f10 = some ⟨oc10, od10, .func (PySem.W.fnOf "_law_pool" "_law_pool" (defArgs s__law_pool) (defBody s__law_pool) (defScope s__law_pool) .none kV10 dc10 pm10 an10 cd10 ct10), sl10⟩) (c10 : PySem.W.codeIn K cd10 "_law_pool" = true) (k10 : PySem.W.keepIn K (.ref f10) = true)
    (a11 : PySem.W.nsIn K mainGlobals "_law_draw" = some (some (.ref f11))) (l11 : K.lookup f11 = some ⟨oc11, od11, .func (PySem.W.fnOf "_law_draw" "_law_draw" (defArgs s__law_draw) (defBody s__law_draw) (defScope s__law_draw) .none kV11 dc11 pm11 an11 cd11 ct11), sl11⟩) (c11 : PySem.W.codeIn K cd11 "_law_draw" = true) (k11 : PySem.W.keepIn K (.ref f11) = true)
    (a12 : PySem.W.nsIn K mainGlobals "_law_choose" = some (some (.ref f12))) (l12 : K.lookup f12 = some ⟨oc12, od12, .func (PySem.W.fnOf "_law_choose" "_law_choose" (defArgs s__law_choose) (defBody s__law_choose) (defScope s__law_choose) .none kV12 dc12 pm12 an12 cd12 ct12), sl12⟩) (c12 : PySem.W.codeIn K cd12 "_law_choose" = true) (k12 : PySem.W.keepIn K (.ref f12) = true)
    (a13 : PySem.W.nsIn K mainGlobals "_law_divide" = some (some (.ref f13))) (l13 : K.lookup f13 = some ⟨oc13, od13, .func (PySem.W.fnOf "_law_divide" "_law_divide" (defArgs s__law_divide) (defBody s__law_divide) (defScope s__law_divide) .none kV13 dc13 pm13 an13 cd13 ct13), sl13⟩) (c13 : PySem.W.codeIn K cd13 "_law_divide" = true) (k13 : PySem.W.keepIn K (.ref f13) = true)
    (a14 : PySem.W.nsIn K mainGlobals "_law_number" = some (some (.ref f14))) (l14 : K.lookup f14 = some ⟨oc14, od14, .func (PySem.W.fnOf "_law_number" "_law_number" (defArgs s__law_number) (defBody s__law_number) (defScope s__law_number) .none kV14 dc14 pm14 an14 cd14 ct14), sl14⟩) (c14 : PySem.W.codeIn K cd14 "_law_number" = true) (k14 : PySem.W.keepIn K (.ref f14) = true)
    (a15 : PySem.W.nsIn K mainGlobals "_law_carries_right" = some (some (.ref f15))) (l15 : K.lookup f15 = some ⟨oc15, od15, .func (PySem.W.fnOf "_law_carries_right" "_law_carries_right" (defArgs s__law_carries_right) (defBody s__law_carries_right) (defScope s__law_carries_right) .none kV15 dc15 pm15 an15 cd15 ct15), sl15⟩) (c15 : PySem.W.codeIn K cd15 "_law_carries_right" = true) (k15 : PySem.W.keepIn K (.ref f15) = true)
    (a16 : PySem.W.nsIn K mainGlobals "law" = some (some (.ref f16))) (l16 : K.lookup f16 = some ⟨oc16, od16, .func (PySem.W.fnOf "law" "law" (defArgs s_law) (defBody s_law) (defScope s_law) .none kV16 dc16 pm16 an16 cd16 ct16), sl16⟩) (c16 : PySem.W.codeIn K cd16 "law" = true) (k16 : PySem.W.keepIn K (.ref f16) = true)
    (aR : PySem.W.nsIn K mainGlobals "RULES" = some (some (.ref rl))) (lR : K.lookup rl = some otR) (cR : otR.cls = .type "tuple") (dR : otR.data = .seq itR nR) (sR : itR.size ≤ sizeLine) (vR : Vals (five.map V.str) itR.toList)
    (z1 : PySem.W.nsIn K mainGlobals "isinstance" = some none) (z2 : PySem.W.nsIn K mainGlobals "int" = some none) (z3 : PySem.W.nsIn K mainGlobals "bool" = some none) (z4 : PySem.W.nsIn K mainGlobals "str" = some none) (z5 : PySem.W.nsIn K mainGlobals "abs" = some none) (z6 : PySem.W.nsIn K mainGlobals "len" = some none) (z7 : PySem.W.nsIn K mainGlobals "list" = some none) (z8 : PySem.W.nsIn K mainGlobals "range" = some none) (z9 : PySem.W.nsIn K mainGlobals "max" = some none) (z10 : PySem.W.nsIn K mainGlobals "min" = some none) :
    ∃ fd : FuncData, (∀ (s : Shared) (v : Value), BindsTo s fd ⟨[v], []⟩ [("_law_script", v)]) ∧ ∀ base : Heap, K.In base → base.Ns mainGlobals mg → FnOk l.prog w K mg base CX0 6 fa fd ["_law_script"] (spLaw K) := by
  have e := hfa.symm.trans (PySem.W.mg_of X G a16)
  cases e
  have T : Txt K mg rl := ⟨PySem.W.mg_none_of X G z1, PySem.W.mg_none_of X G z2, PySem.W.mg_none_of X G z3, PySem.W.mg_none_of X G z4, PySem.W.mg_none_of X G z5, PySem.W.mg_none_of X G z6, PySem.W.mg_none_of X G z7, PySem.W.mg_none_of X G z8, PySem.W.mg_none_of X G z9, PySem.W.mg_none_of X G z10, PySem.W.mg_of X G aR, fun H => .inr ⟨otR, itR, nR, lR, cR, dR, sR, vR⟩⟩
  have D_is_integer : Has K mg "is_integer" s_is_integer ["value"] := ⟨f1, _, PySem.W.mg_of X G a1, (fun_mk (st := s_is_integer) l1 c1 k1).binds (ps := ["value"]) fun _ _ _ _ _ _ us hl => match us, hl with | [_], _ => rfl, fun_mk (st := s_is_integer) l1 c1 k1⟩
  have D_is_between : Has K mg "is_between" s_is_between ["value", "low", "high"] := ⟨f2, _, PySem.W.mg_of X G a2, (fun_mk (st := s_is_between) l2 c2 k2).binds (ps := ["value", "low", "high"]) fun _ _ _ _ _ _ us hl => match us, hl with | [_, _, _], _ => rfl, fun_mk (st := s_is_between) l2 c2 k2⟩
  have D_is_rule : Has K mg "is_rule" s_is_rule ["value"] := ⟨f3, _, PySem.W.mg_of X G a3, (fun_mk (st := s_is_rule) l3 c3 k3).binds (ps := ["value"]) fun _ _ _ _ _ _ us hl => match us, hl with | [_], _ => rfl, fun_mk (st := s_is_rule) l3 c3 k3⟩
  have D_is_sign : Has K mg "is_sign" s_is_sign ["value"] := ⟨f4, _, PySem.W.mg_of X G a4, (fun_mk (st := s_is_sign) l4 c4 k4).binds (ps := ["value"]) fun _ _ _ _ _ _ us hl => match us, hl with | [_], _ => rfl, fun_mk (st := s_is_sign) l4 c4 k4⟩
  have D_is_base : Has K mg "is_base" s_is_base ["value"] := ⟨f5, _, PySem.W.mg_of X G a5, (fun_mk (st := s_is_base) l5 c5 k5).binds (ps := ["value"]) fun _ _ _ _ _ _ us hl => match us, hl with | [_], _ => rfl, fun_mk (st := s_is_base) l5 c5 k5⟩
  have D_rule_names : Has K mg "rule_names" s_rule_names [] := ⟨f6, _, PySem.W.mg_of X G a6, (fun_mk (st := s_rule_names) l6 c6 k6).binds (ps := []) fun _ _ _ _ _ _ us hl => match us, hl with | [], _ => rfl, fun_mk (st := s_rule_names) l6 c6 k6⟩
  have D_goes_up : Has K mg "goes_up" s_goes_up ["rule", "rest", "base"] := ⟨f7, _, PySem.W.mg_of X G a7, (fun_mk (st := s_goes_up) l7 c7 k7).binds (ps := ["rule", "rest", "base"]) fun _ _ _ _ _ _ us hl => match us, hl with | [_, _, _], _ => rfl, fun_mk (st := s_goes_up) l7 c7 k7⟩
  have D_divide : Has K mg "divide" s_divide ["rule", "x", "base"] := ⟨f8, _, PySem.W.mg_of X G a8, (fun_mk (st := s_divide) l8 c8 k8).binds (ps := ["rule", "x", "base"]) fun _ _ _ _ _ _ us hl => match us, hl with | [_, _, _], _ => rfl, fun_mk (st := s_divide) l8 c8 k8⟩
  have D_carry : Has K mg "carry" s_carry ["rule", "sign", "base", "figure"] := ⟨f9, _, PySem.W.mg_of X G a9, (fun_mk (st := s_carry) l9 c9 k9).binds (ps := ["rule", "sign", "base", "figure"]) fun _ _ _ _ _ _ us hl => match us, hl with | [_, _, _, _], _ => rfl, fun_mk (st := s_carry) l9 c9 k9⟩
  have D__law_pool : Has K mg "_law_pool" s__law_pool ["_law_script", "_law_k"] := ⟨f10, _, PySem.W.mg_of X G a10, (fun_mk (st := s__law_pool) l10 c10 k10).binds (ps := ["_law_script", "_law_k"]) fun _ _ _ _ _ _ us hl => match us, hl with | [_, _], _ => rfl, fun_mk (st := s__law_pool) l10 c10 k10⟩
  have D__law_draw : Has K mg "_law_draw" s__law_draw ["_law_pool_here", "_law_many"] := ⟨f11, _, PySem.W.mg_of X G a11, (fun_mk (st := s__law_draw) l11 c11 k11).binds (ps := ["_law_pool_here", "_law_many"]) fun _ _ _ _ _ _ us hl => match us, hl with | [_, _], _ => rfl, fun_mk (st := s__law_draw) l11 c11 k11⟩
  have D__law_choose : Has K mg "_law_choose" s__law_choose ["_law_pool_here", "_law_items"] := ⟨f12, _, PySem.W.mg_of X G a12, (fun_mk (st := s__law_choose) l12 c12 k12).binds (ps := ["_law_pool_here", "_law_items"]) fun _ _ _ _ _ _ us hl => match us, hl with | [_, _], _ => rfl, fun_mk (st := s__law_choose) l12 c12 k12⟩
  have D__law_divide : Has K mg "_law_divide" s__law_divide ["_law_rule", "_law_x", "_law_base"] := ⟨f13, _, PySem.W.mg_of X G a13, (fun_mk (st := s__law_divide) l13 c13 k13).binds (ps := ["_law_rule", "_law_x", "_law_base"]) fun _ _ _ _ _ _ us hl => match us, hl with | [_, _, _], _ => rfl, fun_mk (st := s__law_divide) l13 c13 k13⟩
  have D__law_number : Has K mg "_law_number" s__law_number ["_law_pool_here"] := ⟨f14, _, PySem.W.mg_of X G a14, (fun_mk (st := s__law_number) l14 c14 k14).binds (ps := ["_law_pool_here"]) fun _ _ _ _ _ _ us hl => match us, hl with | [_], _ => rfl, fun_mk (st := s__law_number) l14 c14 k14⟩
  have D__law_carries_right : Has K mg "_law_carries_right" s__law_carries_right ["_law_rule", "_law_sign", "_law_base", "_law_high"] := ⟨f15, _, PySem.W.mg_of X G a15, (fun_mk (st := s__law_carries_right) l15 c15 k15).binds (ps := ["_law_rule", "_law_sign", "_law_base", "_law_high"]) fun _ _ _ _ _ _ us hl => match us, hl with | [_, _, _, _], _ => rfl, fun_mk (st := s__law_carries_right) l15 c15 k15⟩
  refine ⟨PySem.W.fnOf "law" "law" (defArgs s_law) (defBody s_law) (defScope s_law) .none kV16 dc16 pm16 an16 cd16 ct16, fun s v => .of_eq rfl, fun base _ _ => ?_⟩
  have O1 := ok_is_integer (P := l.prog) (w := w) (base := base) D_is_integer T
  have O2 := ok_is_between D_is_between T O1
  have O3 := ok_is_rule (P := l.prog) (w := w) (base := base) D_is_rule T
  have O4 := ok_is_sign D_is_sign O2
  have O5 := ok_is_base D_is_base T O2
  have O6 := ok_rule_names (P := l.prog) (w := w) (base := base) D_rule_names T
  have O7 := ok_goes_up (P := l.prog) (w := w) (base := base) D_goes_up T
  have O8 := ok_divide D_divide O3 O1 O7
  have O9 := ok_carry D_carry T O3 O4 O5 O2 O8
  have O10 := ok__law_pool (P := l.prog) (w := w) (base := base) D__law_pool T
  have O11 := ok__law_draw (P := l.prog) (w := w) (base := base) D__law_draw T
  have O12 := ok__law_choose D__law_choose T O11
  have O13 := ok__law_divide (P := l.prog) (w := w) (base := base) D__law_divide T
  have O14 := ok__law_number D__law_number O11 O12
  have O15 := ok__law_carries_right D__law_carries_right T O13 O9
  exact ok_law (fun_mk (st := s_law) l16 c16 k16) T O6 O8 O9 O10 O11 O12 O13 O14 O15
theorem walk {l : PySem.W.OpenLaw} {q : Program} {loose : List Str} {XP : (Str → Option Value) → Heap → Prop} {YP : World → Heap → Prop} {d : DefRec} {K : Params → PySem.W.Frag} (hn : l.most = some 63) (hdf : d.params.defaults = [])
    (hY : ∀ (w : World) (h : Heap), YP w h → (K w.params).In h)
    (F : ∀ (w : World) (mg : Str → Option Value) (fa : Addr) (h : Heap), (K w.params).In h → h.Ns mainGlobals mg → mg d.name = some (.ref fa) →
      ∃ fd : FuncData, (∀ (s : Shared) (u : Value), BindsTo s fd ⟨[u], []⟩ [("_law_script", u)]) ∧ ∀ base : Heap, (K w.params).In base → base.Ns mainGlobals mg → FnOk l.prog w (K w.params) mg base CX0 6 fa fd ["_law_script"] (spLaw (K w.params))) :
    PySem.W.WalkO q loose XP YP l.row.toRowW d [] (fun f vs => PySem.call f vs) :=
  L2.walk_of (n := 63) (k := 6) (x := "_law_script") (CX := fun _ => CX0) (sp := fun w => spLaw (K w.params)) hn (by decide) hdf ⟨rfl, by decide, by decide⟩ hY F (fun _ _ a ns hl _ hS => ⟨a, ns, rfl, hS, hl, fun _ => rfl⟩) fun _ _ _ _ _ z => z
end W1
open PySem PySem.W PyProof.Rows
set_option maxRecDepth 100000 in
set_option maxHeartbeats 0 in
theorem PySem.Challenge.cw_twodivisions_k01_five_rules_of_division_holds : PySem.Challenge.rw_twodivisions_k01_five_rules_of_division.Holds := by
  w_on; o_law; k_head; (case hw => w_witness2)
  k_fill
  refine W1.walk (l := PySem.Challenge.rw_twodivisions_k01_five_rules_of_division) rfl rfl (fun w h Y => PySem.W.kIn_of Y) ?F
  case F =>
    intro w mg fa h KX G hmg
    refine' W1.all_mk KX G hmg ?a1 ?l1 ?c1 ?k1 ?a2 ?l2 ?c2 ?k2 ?a3 ?l3 ?c3 ?k3 ?a4 ?l4 ?c4 ?k4 ?a5 ?l5 ?c5 ?k5 ?a6 ?l6 ?c6 ?k6 ?a7 ?l7 ?c7 ?k7 ?a8 ?l8 ?c8 ?k8 ?a9 ?l9 ?c9 ?k9 ?a10 ?l10 ?c10 ?k10 ?a11 ?l11 ?c11 ?k11 ?a12 ?l12 ?c12 ?k12 ?a13 ?l13 ?c13 ?k13 ?a14 ?l14 ?c14 ?k14 ?a15 ?l15 ?c15 ?k15 ?a16 ?l16 ?c16 ?k16 ?aR ?lR ?cR ?dR ?sR ?vR ?z1 ?z2 ?z3 ?z4 ?z5 ?z6 ?z7 ?z8 ?z9 ?z10
    (case a1 => k_is); (case l1 => k_is); (case c1 => k_is); (case k1 => k_is)
    (case a2 => k_is); (case l2 => k_is); (case c2 => k_is); (case k2 => k_is)
    (case a3 => k_is); (case l3 => k_is); (case c3 => k_is); (case k3 => k_is)
    (case a4 => k_is); (case l4 => k_is); (case c4 => k_is); (case k4 => k_is)
    (case a5 => k_is); (case l5 => k_is); (case c5 => k_is); (case k5 => k_is)
    (case a6 => k_is); (case l6 => k_is); (case c6 => k_is); (case k6 => k_is)
    (case a7 => k_is); (case l7 => k_is); (case c7 => k_is); (case k7 => k_is)
    (case a8 => k_is); (case l8 => k_is); (case c8 => k_is); (case k8 => k_is)
    (case a9 => k_is); (case l9 => k_is); (case c9 => k_is); (case k9 => k_is)
    (case a10 => k_is); (case l10 => k_is); (case c10 => k_is); (case k10 => k_is)
    (case a11 => k_is); (case l11 => k_is); (case c11 => k_is); (case k11 => k_is)
    (case a12 => k_is); (case l12 => k_is); (case c12 => k_is); (case k12 => k_is)
    (case a13 => k_is); (case l13 => k_is); (case c13 => k_is); (case k13 => k_is)
    (case a14 => k_is); (case l14 => k_is); (case c14 => k_is); (case k14 => k_is)
    (case a15 => k_is); (case l15 => k_is); (case c15 => k_is); (case k15 => k_is)
    (case a16 => k_is); (case l16 => k_is); (case c16 => k_is); (case k16 => k_is)
    (case aR => k_is)
    (case lR => k_is)
    (case cR => rfl)
    (case dR => rfl)
    (case sR => (show 5 ≤ sizeLine; decide))
    (case vR => exact .cons ⟨_, rfl⟩ (.cons ⟨_, rfl⟩ (.cons ⟨_, rfl⟩ (.cons ⟨_, rfl⟩ (.cons ⟨_, rfl⟩ .nil)))))
    (case z1 => k_is); (case z2 => k_is); (case z3 => k_is); (case z4 => k_is); (case z5 => k_is); (case z6 => k_is); (case z7 => k_is); (case z8 => k_is); (case z9 => k_is); (case z10 => k_is)
