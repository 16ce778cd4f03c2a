import PyProof.Rows.All
import Wide.All
import OpenK.AllK
import Wide.FinOn
import HandS.ForMost
import HandS.IsInst
import HandS.Wide
import HandS.WideBits
import HandS.Defaults
import HandS.Zip
import HandS.Flow
import HandS.SortKw
import HandS.SortOrd
import HandS.Conv
import HandS.More
import HandS.Small
import KE.DatumOrd
import HandS.Exc
import HandS.ExcOwn
import HandS.ExcIs
import HandS.TryOnly
import HandS.WordsExc
import HandS.Style
import PySem.Challenge.RW_timerdeque_k18_what_are_no_ticks
set_option Elab.async false
set_option linter.all false
set_option maxRecDepth 100000
set_option maxHeartbeats 4000000
set_option exponentiation.threshold 10000
namespace Td
open PySem PySem.Spec PyProof.Rows L2
/-! ### small things: promises by name, heaps, numbers -/
section
variable {P : Program} {w : World} {K : PySem.W.Frag} {mg : Str → Option Value} {base : Heap}
/-- the module's name x holds a def that keeps the promise sp, its last parameters filled up by dvs -/
def Has (P : Program) (w : World) (K : PySem.W.Frag) (mg : Str → Option Value) (base : Heap) (k : Nat) (x : Str) (ps : List Str) (dvs : List V) (sp : Sp) : Prop :=
  ∃ (f : Addr) (fd : FuncData) (ds : List Value), FnOk P w K mg base CX0 k f fd ps sp ∧ mg x = some (.ref f) ∧ PySem.W.keepIn K (.ref f) = true ∧ Binds K fd ps ds ∧ Vals dvs ds
/-- what the top says of a def without defaults -/
def Df (K : PySem.W.Frag) (mg : Str → Option Value) (x : Str) (st : Stmt) (ps : List Str) : Prop :=
  ∃ (f : Addr) (fd : FuncData), Fun K x x st f fd ∧ mg x = some (.ref f) ∧ Binds K fd ps []
theorem Df.has {k : Nat} {x : Str} {st : Stmt} {ps : List Str} {sp : Sp} (D : Df K mg x st ps) (ok : ∀ f fd, Fun K x x st f fd → FnOk P w K mg base CX0 k f fd ps sp) : Has P w K mg base k x ps [] sp := by
  obtain ⟨f, fd, F, m, b⟩ := D
  exact ⟨f, fd, [], ok f fd F, m, F.kp, b, .nil⟩
/-- a def with one default, the last parameter's -/
def Dd (K : PySem.W.Frag) (mg : Str → Option Value) (x : Str) (st : Stmt) (ps : List Str) (d : V) : Prop :=
  ∃ (f : Addr) (fd : FuncData), FunD K x x (defArgs st) (defBody st) (defScope st) [d] [] f fd ∧ mg x = some (.ref f) ∧ (∃ ds, Vals [d] ds ∧ Binds K fd ps ds) ∧ Binds K fd ps []
theorem Dd.has {k : Nat} {x : Str} {st : Stmt} {ps : List Str} {d : V} {sp : Sp} (D : Dd K mg x st ps d) (ok : ∀ f fd, FunD K x x (defArgs st) (defBody st) (defScope st) [d] [] f fd → FnOk P w K mg base CX0 k f fd ps sp) :
    Has P w K mg base k x ps [d] sp ∧ Has P w K mg base k x ps [] sp := by
  obtain ⟨f, fd, F, m, ⟨ds, r, b⟩, b0⟩ := D
  exact ⟨⟨f, fd, ds, ok f fd F, m, F.kp, b, r⟩, ⟨f, fd, [], ok f fd F, m, F.kp, b0, .nil⟩⟩
end
section
variable {X : Cx}
/-- a product of which one side is small, or both are not too great -/
def CMulA (i j : Int) : Prop := IntMulOk i j
theorem op_mulA : OpR X (binaryOp .Mult) (rI CMulA fun i j => .int (i * j)) := opI fun _ _ _ _ _ _ _ hc q => mul_int q hc
end
/-! x *= e, ints -/
section
variable {X : Cx}
def ipC (C : Int → Int → Prop) (f : Int → Int → Int) : TIp := fun x y H Q => ∃ i j, x = .int i ∧ y = .int j ∧ C i j ∧ Q (.int (f i j)) H
theorem ip_mulA : PIp X .Mult (ipC CMulA fun i j => i * j) := by
  intro pins s σ H x y v u Q I r1 r2 h
  obtain ⟨i, j, rfl, rfl, hm, q⟩ := h
  obtain ⟨t, rfl⟩ := r1
  obtain ⟨t', rfl⟩ := r2
  exact imul_int ⟨.int _, H, I.tok _, ⟨_, rfl⟩, q⟩ hm
end
theorem mul_l {i j : Int} (h1 : -(2 ^ 64) < i) (h2 : i < 2 ^ 64) : CMulA i j := CMul.ok (.inl ⟨h1, h2⟩)
theorem mul_r {i j : Int} (h1 : -(2 ^ 64) < j) (h2 : j < 2 ^ 64) : CMulA i j := CMul.ok (.inr ⟨h1, h2⟩)
theorem mul_w {i j : Int} (a b : Nat) (ha : i.natAbs < 2 ^ a) (hb : j.natAbs < 2 ^ b) (h0 : 0 < a := by decide) (h1 : 0 < b := by decide) (h : a + b ≤ 1000000 := by decide) : CMulA i j := (wide_mul ha hb h0 h1 h).ok
theorem div_s {i j : Int} (h : 0 < j) (h2 : j < 2 ^ 300) : CDivW i j := wide_div (b := 300) h (by omega) (by decide) (by decide)
theorem div_b {i j : Int} (b : Nat) (h : 0 < j) (h2 : j < 2 ^ b) (h0 : 0 < b := by decide) (h9 : b ≤ 9000 := by decide) : CDivW i j := by
  refine wide_div (b := b) h ?_ h0 h9
  have e : ((2 ^ b : Nat) : Int) = (2 : Int) ^ b := by
    rw [Int.natCast_pow]
    rfl
  omega
theorem same_upd {H : Hp} {p : Addr} {o : HO} (h : H p = none) : Same H (upd H p o) := fun b x e => by
  rw [upd_ne (ne_of_none e h)]
  exact e
theorem sizeLine_ge {n : Nat} (h : n ≤ 1000000) : n < sizeLine := by
  rw [sizeLine_eq]
  omega
theorem sizeLine_le {n : Nat} (h : n ≤ 1000000) : n ≤ sizeLine := Nat.le_of_lt (sizeLine_ge h)
theorem pos_of {a c : Nat} (h : a ≤ c) (n : ¬ a = c) : 0 < c := by omega
/-! ### operators on numbers that are not negative -/
def rN (C : Nat → Nat → Prop) (g : Nat → Nat → Nat) : R2 := fun x y H Q => ∃ a b : Nat, x = .int (a : Nat) ∧ y = .int (b : Nat) ∧ C a b ∧ Q (.int ((g a b : Nat) : Int)) H
section
variable {X : Cx}
theorem opN {f : Value → Value → Sem Value} {C : Nat → Nat → Prop} {g : Nat → Nat → Nat} {CI : Int → Int → Prop} {gI : Int → Int → V} (h : OpR X f (rI CI gI)) (e : ∀ a b : Nat, C a b → CI (a : Nat) (b : Nat) ∧ gI (a : Nat) (b : Nat) = .int ((g a b : Nat) : Int)) : OpR X f (rN C g) := by
  intro pins s σ H x y v u Q I rx ry hq
  obtain ⟨a, b, ex, ey, hc, q⟩ := hq
  obtain ⟨h1, h2⟩ := e a b hc
  exact h pins s σ H x y v u Q I rx ry ⟨_, _, ex, ey, h1, by rw [h2]; exact q⟩
theorem opN0 {f : Value → Value → Sem Value} {C : Nat → Nat → Prop} {g : Nat → Nat → Nat} {gI : Int → Int → V} (h : OpR X f (rI0 gI)) (e : ∀ a b : Nat, C a b → gI (a : Nat) (b : Nat) = .int ((g a b : Nat) : Int)) : OpR X f (rN C g) := by
  intro pins s σ H x y v u Q I rx ry hq
  obtain ⟨a, b, ex, ey, hc, q⟩ := hq
  exact h pins s σ H x y v u Q I rx ry ⟨_, _, ex, ey, by rw [e a b hc]; exact q⟩
def NDiv (_ b : Nat) : Prop := 0 < b ∧ b < 2 ^ 9000
def NMod (_ b : Nat) : Prop := 0 < b
def NSub (a b : Nat) : Prop := b ≤ a
def NMul (a b : Nat) : Prop := IntMulOk (a : Int) (b : Int)
def NAny (_ _ : Nat) : Prop := True
theorem op_divN : OpR X (binaryOp .FloorDiv) (rN NDiv fun a b => a / b) := opN op_fdivW fun a b h => ⟨wide_div (b := 9000) (Int.natCast_pos.mpr h.1) h.2 (by decide) (Nat.le_refl _), rfl⟩
theorem op_remN : OpR X (binaryOp .Mod) (rN NMod fun a b => a % b) := opN op_mod fun a b h => ⟨Int.natCast_pos.mpr h, rfl⟩
theorem op_mulN : OpR X (binaryOp .Mult) (rN NMul fun a b => a * b) := opN op_mulA fun a b h => ⟨h, congrArg V.int (Int.natCast_mul a b).symm⟩
theorem op_addN : OpR X (binaryOp .Add) (rN NAny fun a b => a + b) := opN0 op_add fun _ _ _ => rfl
theorem op_subN : OpR X (binaryOp .Sub) (rN NSub fun a b => a - b) := opN0 op_sub fun a b h => congrArg V.int (Int.natCast_sub h).symm
end
theorem ndiv {a b : Nat} (t : Nat) (h : 0 < b) (h2 : b < 2 ^ t) (ht : t ≤ 9000 := by decide) : NDiv a b := ⟨h, Nat.lt_of_lt_of_le h2 (Nat.pow_le_pow_right (by decide) ht)⟩
theorem nmul_l {a b : Nat} (h : a < 2 ^ 64) : NMul a b := mul_l (by omega) (by omega)
theorem nmul_r {a b : Nat} (h : b < 2 ^ 64) : NMul a b := mul_r (by omega) (by omega)
theorem nmul_w {a b : Nat} (i j : Nat) (ha : a < 2 ^ i) (hb : b < 2 ^ j) (h0 : 0 < i := by decide) (h1 : 0 < j := by decide) (h : i + j ≤ 1000000 := by decide) : NMul a b := mul_w i j ha hb h0 h1 h
theorem int_ne {a b : Nat} (h : a ≠ b) : decide (V.int (a : Nat) = V.int (b : Nat)) = false := decide_eq_false fun e => h (Int.ofNat.inj (V.int.inj e))
theorem dT {p : Prop} [Decidable p] (h : p) : V.bl (decide p) = V.bl true := congrArg V.bl (decide_eq_true h)
theorem dF {p : Prop} [Decidable p] (h : ¬ p) : V.bl (decide p) = V.bl false := congrArg V.bl (decide_eq_false h)
theorem nT {p : Prop} [Decidable p] (h : ¬ p) : V.bl (!decide p) = V.bl true := congrArg V.bl (congrArg (!·) (decide_eq_false h))
theorem nF {p : Prop} [Decidable p] (h : p) : V.bl (!decide p) = V.bl false := congrArg V.bl (congrArg (!·) (decide_eq_true h))
theorem vN {a b : Nat} (h : a ≠ b) : ¬ V.int (a : Nat) = V.int (b : Nat) := fun e => h (Int.ofNat.inj (V.int.inj e))
theorem vE {a b : Nat} (h : a = b) : V.int (a : Nat) = V.int (b : Nat) := congrArg (fun c : Nat => V.int (c : Nat)) h
theorem vI {a b : Int} (h : a ≠ b) : ¬ V.int a = V.int b := fun e => h (V.int.inj e)
/-! ### rules with the written part named (within a comprehension's block) -/
section
variable {X : Cx} {K : PySem.W.Frag}
theorem ix_tupK (e : X.K = K) : IxR X (rIxT K) := by subst e; exact ix_tup
theorem ix_listK (e : X.K = K) : IxR X (rIxL K) := by subst e; exact ix_list
theorem sl_tupK (e : X.K = K) : SlR X (rSlT K) := by subst e; exact sl_tup
theorem sl_listK (e : X.K = K) : SlR X (rSlL K) := by subst e; exact sl_list
theorem op_eqK (e : X.K = K) (hu : X.A.units + 64 < cLine) : OpR X (compareOp .Eq) (rEqD K) := by subst e; exact op_eqD hu
theorem op_neK (e : X.K = K) (hu : X.A.units + 64 < cLine) : OpR X (compareOp .NotEq) (rNeD K) := by subst e; exact op_neD hu
theorem isiK (e : X.K = K) : CallR X (.builtin "isinstance") (rIsi K) := by subst e; exact call_isi
def rLenK (K : PySem.W.Frag) : List V → Hp → VK → Prop := fun xs H Q => ∃ p ys, xs = [.ref p] ∧ (SqL K H p ys ∨ SqT K H p ys) ∧ Q (.int ys.length) H
theorem lenK (e : X.K = K) : CallR X (.builtin "len") (rLenK K) := by subst e; exact call_len_seq
theorem allK (e : X.K = K) (hc : X.calm = true) : CallR X (.builtin "all") (rAll K) := by subst e; exact cr_all hc
theorem sumK (e : X.K = K) (hc : X.calm = true) : CallR X (.builtin "sum") (rSum K) := by subst e; exact cr_sum hc
theorem maxK (e : X.K = K) (hc : X.calm = true) : CallR X (.builtin "max") (rMax K) := by subst e; exact cr_max hc
theorem minK (e : X.K = K) (hc : X.calm = true) : CallR X (.builtin "min") (rMin K) := by subst e; exact cr_min hc
theorem anyK (e : X.K = K) (hc : X.calm = true) : CallR X (.builtin "any") (rAny K) := by subst e; exact cr_any hc
end
section
variable {X : Cx} {K : PySem.W.Frag}
theorem ix_ltK (e : X.K = K) : IxR X (fun x y H Q => rIxL K x y H Q ∨ rIxT K x y H Q) := by subst e; exact ix_list.or ix_tup
theorem pe_orTK {a b : Expr} {ta tb : TE} {rest : List Expr} {pos : Pos} (e : X.K = K) (ha : PE X a ta) (hb : PE X (.BoolOp .Or (b :: rest) pos) tb) : PE X (.BoolOp .Or (a :: b :: rest) pos) (tOrT K ta tb) := by subst e; exact pe_orT ha hb
end
theorem yesT {σ : L2.St} {H : Hp} {Q : Bool → Hp → Prop} (h : Q true H) : tYes σ H Q := h
section
variable {X : Cx} {K : PySem.W.Frag}
theorem pg_tupK {es : List Expr} {k : Nat} {t : TGs} {n : Nat} {pos : Pos} (e : X.K = K) (hc : X.calm = true) (h : PGs X es t)
    (hn : (assignEach es X.env).length = n := by rfl) (hst : (assignEach es X.env).findIdx? (·.1) = none := by rfl) : PG X (.Tuple es k pos) (gTup K n t) := by
  subst e
  exact pg_tup hc h hn hst
end
theorem tyx_list {K : PySem.W.Frag} {H : Hp} {a : Addr} {xs : List V} (h : SqL K H a xs) : TyX K H (.ref a) (.type "list") := by
  rcases h with (h | ⟨o, h⟩) | ⟨o, its, n, h, hc, _⟩
  · exact .base (.lst h)
  · exact .base (.frz h)
  · exact .kList h hc
/-- max and min of two numbers that are not negative -/
def rNN (g : Nat → Nat → Nat) : List V → Hp → VK → Prop := fun xs H Q => ∃ a b : Nat, xs = [.int (a : Nat), .int (b : Nat)] ∧ Q (.int ((g a b : Nat) : Int)) H
section
variable {X : Cx}
theorem max2N (hc : X.calm = true) : CallR X (.builtin "max") (rNN max) := by
  intro pins s σ H xs us Q I r h
  obtain ⟨a, b, rfl, q⟩ := h
  refine call_max2 hc pins s σ H _ us Q I r ⟨_, _, rfl, ?_⟩
  have e : (if (b : Int) > (a : Int) then (b : Int) else (a : Int)) = ((max a b : Nat) : Int) := by split <;> omega
  rw [e]
  exact q
theorem max0N (hc : X.calm = true) : CallR X (.builtin "max") (fun xs H Q => ∃ (z : Int) (n : Nat), xs = [.int 0, .int z] ∧ (if z > 0 then z else 0) = (n : Int) ∧ Q (.int (n : Nat)) H) := by
  intro pins s σ H xs us Q I r h
  obtain ⟨z, n, rfl, e, q⟩ := h
  refine call_max2 hc pins s σ H _ us Q I r ⟨0, z, rfl, ?_⟩
  rw [e]
  exact q
theorem min2N (hc : X.calm = true) : CallR X (.builtin "min") (rNN min) := by
  intro pins s σ H xs us Q I r h
  obtain ⟨a, b, rfl, q⟩ := h
  refine call_min2 hc pins s σ H _ us Q I r ⟨_, _, rfl, ?_⟩
  have e : (if (b : Int) < (a : Int) then (b : Int) else (a : Int)) = ((min a b : Nat) : Int) := by split <;> omega
  rw [e]
  exact q
end
/-- one rest behind several ways -/
theorem cut_at {α : Type} {I : α → Hp → Prop} {G : Prop} (R : α → Hp → Prop) (h1 : (∀ a H, I a H → R a H) → G) (h2 : ∀ a H, I a H → R a H) : G := h1 h2
theorem cut_rest {I : Hp → Prop} {G : Prop} (R : Hp → Prop) (h1 : (∀ H, I H → R H) → G) (h2 : ∀ H, I H → R H) : G := h1 h2
/-! ### digits: the mathematics -/
/-- k is the level of d at n -/
def IsLev (b n d k : Nat) : Prop := n / b ^ (k + 1) = d / b ^ (k + 1) ∧ ∀ j, j < k → n / b ^ (j + 1) ≠ d / b ^ (j + 1)
abbrev Row3 := Nat × Nat × Nat
/-- the stations below level k -/
def tailOf (b d : Nat) : Nat → List Row3
  | 0 => []
  | k + 1 => if d / b ^ k % b ≠ 0 then (k, d / b ^ k % b, d / b ^ (k + 1) * b ^ (k + 1)) :: tailOf b d k else tailOf b d k
/-- the stations of a timer set at n, k its level -/
def rowsOf (b n d k : Nat) : List Row3 := (k, d / b ^ k % b, n) :: tailOf b d k
theorem div_succ (n b k : Nat) : n / b ^ (k + 1) = n / b ^ k / b := by
  rw [Nat.pow_succ, Nat.div_div_eq_div_mul]
theorem pow_pos' {b : Nat} (h : 2 ≤ b) (k : Nat) : 0 < b ^ k := Nat.pow_pos (by omega)
theorem IsLev.uniq {b n d k k' : Nat} (h : IsLev b n d k) (h' : IsLev b n d k') : k = k' := by
  rcases Nat.lt_trichotomy k k' with l | l | l
  · exact absurd h.1 (h'.2 k l)
  · exact l
  · exact absurd h'.1 (h.2 k' l)
theorem IsLev.ne {b n d k : Nat} (h : IsLev b n d k) (hnd : n < d) : n / b ^ k < d / b ^ k := by
  cases k with
  | zero =>
    rw [Nat.pow_zero, Nat.div_one, Nat.div_one]
    exact hnd
  | succ j =>
    have h1 := h.2 j (Nat.lt_succ_self j)
    have h2 : n / b ^ (j + 1) ≤ d / b ^ (j + 1) := Nat.div_le_div_right (Nat.le_of_lt hnd)
    omega
theorem IsLev.size {b n d k : Nat} (h : IsLev b n d k) (hb : 2 ≤ b) (hnd : n < d) : b ^ k ≤ d := by
  have h1 := h.ne hnd
  have h2 : 0 < d / b ^ k := Nat.lt_of_le_of_lt (Nat.zero_le _) h1
  exact (Nat.div_pos_iff.mp h2).2
theorem IsLev.digit {b n d k : Nat} (h : IsLev b n d k) (hnd : n < d) : n / b ^ k % b < d / b ^ k % b := by
  have h1 := h.ne hnd
  have h2 := h.1
  rw [div_succ, div_succ] at h2
  have e1 := Nat.div_add_mod (n / b ^ k) b
  have e2 := Nat.div_add_mod (d / b ^ k) b
  rw [h2] at e1
  omega
theorem pow_two_le {b : Nat} (hb : 2 ≤ b) (k : Nat) : 2 ^ k ≤ b ^ k := Nat.pow_le_pow_left hb k
theorem lev_small {b n d k t : Nat} (h : IsLev b n d k) (hb : 2 ≤ b) (hnd : n < d) (hd : d < 2 ^ t) : k < t := by
  have h1 := h.size hb hnd
  have h2 := pow_two_le hb k
  exact (Nat.pow_lt_pow_iff_right (by decide : 1 < 2)).mp (Nat.lt_of_le_of_lt (Nat.le_trans h2 h1) hd)
/-- cutting below: what two cuts beside one another differ by -/
theorem cut_step (b d k : Nat) : d / b ^ k * b ^ k = d / b ^ (k + 1) * b ^ (k + 1) + d / b ^ k % b * b ^ k := by
  rw [div_succ]
  have e := Nat.div_add_mod (d / b ^ k) b
  have e2 : b ^ (k + 1) = b * b ^ k := by rw [Nat.pow_succ, Nat.mul_comm]
  rw [e2, ← Nat.mul_assoc, ← Nat.add_mul, Nat.mul_comm (d / b ^ k / b) b, e]
theorem cut_le (b d k : Nat) : d / b ^ k * b ^ k ≤ d := Nat.div_mul_le_self d (b ^ k)
theorem cut_mono (b d : Nat) {j k : Nat} (h : j ≤ k) : d / b ^ k * b ^ k ≤ d / b ^ j * b ^ j := by
  induction k with
  | zero =>
    have e : j = 0 := by omega
    rw [e]
    exact Nat.le_refl _
  | succ k ih =>
    by_cases e : j = k + 1
    · rw [e]
      exact Nat.le_refl _
    · have h1 := ih (by omega)
      have h2 := cut_step b d k
      omega
theorem lt_cut {b n d k : Nat} (hb : 2 ≤ b) (h : n / b ^ k < d / b ^ k) : n < d / b ^ k * b ^ k := by
  have hp := pow_pos' hb k
  exact (Nat.div_lt_iff_lt_mul hp).mp h
theorem tail_len (b d : Nat) : ∀ k, (tailOf b d k).length ≤ k
  | 0 => Nat.le_refl _
  | k + 1 => by
    have ih := tail_len b d k
    unfold tailOf
    split
    · rw [List.length_cons]
      omega
    · omega
/-- a later tick that lies ahead of the next cut has the same level -/
theorem IsLev.later {b n d k t : Nat} (hb : 2 ≤ b) (h : IsLev b n d k) (hnd : n < d) (h1 : n ≤ t) (h2 : t < d / b ^ k * b ^ k) : IsLev b t d k := by
  have hp := pow_pos' hb k
  have hp1 := pow_pos' hb (k + 1)
  have htd : t < d := Nat.lt_of_lt_of_le h2 (cut_le b d k)
  refine ⟨?_, fun j hj => ?_⟩
  · have a1 : n / b ^ (k + 1) ≤ t / b ^ (k + 1) := Nat.div_le_div_right h1
    have a2 : t / b ^ (k + 1) ≤ d / b ^ (k + 1) := Nat.div_le_div_right (Nat.le_of_lt htd)
    have a3 := h.1
    omega
  · have a1 : t / b ^ k < d / b ^ k := (Nat.div_lt_iff_lt_mul hp).mpr h2
    intro e
    have e2 : k = (j + 1) + (k - (j + 1)) := by omega
    rw [e2, Nat.pow_add, ← Nat.div_div_eq_div_mul, ← Nat.div_div_eq_div_mul, e] at a1
    omega
/-! ### moves over ranges: the mathematics -/
/-- how many numbers below x have a digit other than 0 where a 1 is worth s -/
def wdN (b s x : Nat) : Nat := x / (s * b) * s * (b - 1) + (x % (s * b) - s)
/-- how many have the digit 0 there -/
def zbN (b s x : Nat) : Nat := x / (s * b) * s + min (x % (s * b)) s
theorem wd_zb {b s : Nat} (hb : 1 ≤ b) (x : Nat) : wdN b s x + zbN b s x = x := by
  unfold wdN zbN
  have e := Nat.div_add_mod x (s * b)
  have e1 : x / (s * b) * s * (b - 1) + x / (s * b) * s = s * b * (x / (s * b)) := by
    rw [← Nat.mul_succ, Nat.succ_eq_add_one, Nat.sub_add_cancel hb, Nat.mul_assoc, Nat.mul_comm]
  omega
def begN (n f s : Nat) : Nat := max f ((n / s + 1) * s)
/-- what one level counts over a range -/
def mvT (b n f h s : Nat) : Int := if begN n f s < h then (wdN b s h : Int) - (wdN b s (begN n f s) : Int) else 0
def mvS (b n f h : Nat) : Nat → Int
  | 0 => 0
  | k + 1 => mvS b n f h k + mvT b n f h (b ^ k)
theorem beg_ge (n f s : Nat) : s ≤ begN n f s := by
  unfold begN
  have : s ≤ (n / s + 1) * s := Nat.le_mul_of_pos_left s (Nat.succ_pos _)
  omega
theorem mvT_zero {b n f h s : Nat} (hs : h ≤ s) : mvT b n f h s = 0 := by
  unfold mvT
  have := beg_ge n f s
  rw [if_neg (by omega)]
theorem mvS_more {b n f h k : Nat} (hb : 2 ≤ b) (hk : h ≤ b ^ k) (j : Nat) : mvS b n f h (k + j) = mvS b n f h k := by
  induction j with
  | zero => rfl
  | succ j ih =>
    show mvS b n f h (k + j) + mvT b n f h (b ^ (k + j)) = _
    rw [ih, mvT_zero, Int.add_zero]
    exact Nat.le_trans hk (Nat.pow_le_pow_right (by omega) (by omega))
theorem mvS_eq {b n f h k j : Nat} (hb : 2 ≤ b) (hk : h ≤ b ^ k) (hj : h ≤ b ^ j) : mvS b n f h k = mvS b n f h j := by
  rcases Nat.le_total k j with l | l
  · have e := mvS_more (n := n) (f := f) hb hk (j - k)
    rw [show k + (j - k) = j by omega] at e
    exact e.symm
  · have e := mvS_more (n := n) (f := f) hb hj (k - j)
    rw [show j + (k - j) = k by omega] at e
    exact e
theorem mvT_add {b n f m h s : Nat} (h1 : f ≤ m) (h2 : m ≤ h) : mvT b n f m s + mvT b n m h s = mvT b n f h s := by
  unfold mvT begN
  generalize (n / s + 1) * s = c
  by_cases a : c ≤ m
  · rw [show max m c = m by omega]
    by_cases e : max f c = m
    · rw [e, if_neg (by omega), Int.zero_add]
    · rw [if_pos (by omega : max f c < m), if_pos (by omega : max f c < h)]
      by_cases e2 : m < h
      · rw [if_pos e2]
        omega
      · have : m = h := by omega
        rw [if_neg e2, this]
        omega
  · rw [show max m c = c by omega, show max f c = c by omega, if_neg (by omega : ¬ c < m), Int.zero_add]
theorem mvS_add {b n f m h : Nat} (h1 : f ≤ m) (h2 : m ≤ h) (k : Nat) : mvS b n f m k + mvS b n m h k = mvS b n f h k := by
  induction k with
  | zero => rfl
  | succ k ih =>
    show (mvS b n f m k + mvT b n f m (b ^ k)) + (mvS b n m h k + mvT b n m h (b ^ k)) = mvS b n f h k + mvT b n f h (b ^ k)
    have := mvT_add (b := b) (n := n) (s := b ^ k) h1 h2
    omega
/-- over all numbers of N digits and fewer -/
theorem mvS_whole {b : Nat} (hb : 2 ≤ b) (N : Nat) : ∀ k, k ≤ N + 1 → mvS b 0 1 (b ^ (N + 1)) k = ((k * ((b - 1) * b ^ N) : Nat) : Int) := by
  intro k
  induction k with
  | zero =>
    intro _
    rw [Nat.zero_mul]
    rfl
  | succ k ih =>
    intro hk
    show mvS b 0 1 (b ^ (N + 1)) k + mvT b 0 1 (b ^ (N + 1)) (b ^ k) = _
    rw [ih (by omega)]
    have hp : 0 < b ^ k := Nat.pow_pos (by omega)
    have hl : b ^ k < b ^ (N + 1) := Nat.pow_lt_pow_right (by omega) (by omega)
    have e1 : begN 0 1 (b ^ k) = b ^ k := by
      unfold begN
      rw [Nat.zero_div, Nat.zero_add, Nat.one_mul]
      omega
    have hlt : b ^ k < b ^ k * b := by
      rw [← Nat.pow_succ]
      exact Nat.pow_lt_pow_right (by omega) (by omega)
    have e2 : wdN b (b ^ k) (b ^ k) = 0 := by
      unfold wdN
      rw [Nat.div_eq_of_lt hlt, Nat.mod_eq_of_lt hlt, Nat.sub_self, Nat.zero_mul, Nat.zero_mul]
    have e3 : b ^ (N + 1) = b ^ (N - k) * (b ^ k * b) := by
      rw [← Nat.pow_succ, ← Nat.pow_add]
      congr 1
      omega
    have e4 : wdN b (b ^ k) (b ^ (N + 1)) = (b - 1) * b ^ N := by
      unfold wdN
      have hp2 : 0 < b ^ k * b := by omega
      rw [e3, Nat.mul_div_cancel _ hp2, Nat.mul_mod_left, Nat.zero_sub, Nat.add_zero, ← Nat.pow_add, Nat.mul_comm]
      congr 2
      omega
    unfold mvT
    rw [e1, if_pos hl, e2, e4]
    have e5 : (k + 1) * ((b - 1) * b ^ N) = k * ((b - 1) * b ^ N) + (b - 1) * b ^ N := Nat.succ_mul _ _
    rw [e5]
    omega
/-! ### rules that the layer lacks: min(.., default=None), sorted of a dict with pairs of ints as its keys -/
theorem minOf_spec : ∀ (x : Int) (xs : List Int), PySem.W.minOf x xs ∈ x :: xs ∧ ∀ y ∈ x :: xs, PySem.W.minOf x xs ≤ y := by
  intro x xs
  unfold PySem.W.minOf
  induction xs generalizing x with
  | nil =>
    refine ⟨List.mem_cons_self .., fun y hy => ?_⟩
    rcases List.mem_cons.mp hy with e | hy
    · rw [e]
      exact Int.le_refl _
    · cases hy
  | cons z zs ih =>
    have e : (PySem.W.DatumOrd.lt z x = true) ↔ z < x := by
      show decide (z < x) = true ↔ z < x
      exact decide_eq_true_iff
    rw [List.foldl_cons]
    obtain ⟨h1, h2⟩ := ih (if PySem.W.DatumOrd.lt z x = true then z else x)
    refine ⟨?_, fun y hy => ?_⟩
    · rcases List.mem_cons.mp h1 with e1 | h1
      · rw [e1]
        split
        · exact List.mem_cons_of_mem _ (List.mem_cons_self ..)
        · exact List.mem_cons_self ..
      · exact List.mem_cons_of_mem _ (List.mem_cons_of_mem _ h1)
    · have h3 := h2 _ (List.mem_cons_self ..)
      rcases List.mem_cons.mp hy with e1 | hy
      · rw [e1]
        by_cases c : z < x
        · rw [if_pos (e.mpr c)] at h3 ⊢
          omega
        · rw [if_neg (fun q => c (e.mp q))] at h3 ⊢
          exact h3
      · rcases List.mem_cons.mp hy with e1 | hy
        · rw [e1]
          by_cases c : z < x
          · rw [if_pos (e.mpr c)] at h3 ⊢
            exact h3
          · rw [if_neg (fun q => c (e.mp q))] at h3 ⊢
            omega
        · exact h2 y (List.mem_cons_of_mem _ hy)
def rMinD (K : PySem.W.Frag) : List V → List V → Hp → VK → Prop := fun vs zs H Q => ∃ (a : Addr) (ns : List Int), vs = [V.ref a] ∧ zs = [.non] ∧ SqL K H a (ns.map V.int) ∧ (ns = [] → Q .non H) ∧ ∀ v ∈ ns, (∀ x ∈ ns, v ≤ x) → Q (.int v) H
section
variable {X : Cx} {K : PySem.W.Frag}
theorem minDef (e : X.K = K) (hc : X.calm = true) (hu : X.A.units + 64 < cLine) : CallRK X (.builtin "min") [Str.ofString "default"] (rMinD K) := by
  subst e
  intro pins s σ H vs zs us ws Q I r rz h
  obtain ⟨a, ns, rfl, rfl, hs, q0, q1⟩ := h
  obtain ⟨its, rv, hl, hz⟩ := I.list hs
  obtain ⟨w1, rfl, e1⟩ := vals1 rz
  obtain rfl : w1 = Value.none := e1
  rw [Vals.ref1 r]
  have hi := rv.ints
  refine PySem.W.min_list_datum_default (α := Int) (xs := ns) (I.ok.hd hc) hl.isList (PySem.W.HoldAll.of_ints hi) (by show X.A.units + 1 + 0 < cLine; omega) (fun en h' tk hk => ?_) (fun y ys i v h' tk en hv hh hk => ?_)
  · exact ⟨.non, H, I.kept hk, rfl, q0 en⟩
  · obtain ⟨as, hr⟩ := hh
    have hm := minOf_spec y ys
    have ev : ∃ t, v = Value.int (PySem.W.minOf y ys) t := by
      cases hr
      exact ⟨_, rfl⟩
    obtain ⟨t, rfl⟩ := ev
    subst en
    exact ⟨.int _, H, I.kept hk, ⟨_, rfl⟩, q1 _ hm.1 hm.2⟩
end
/-! ### exceptions: defs that may raise, any value as an argument -/
section
variable {P : Program} {w : World} {K : PySem.W.Frag} {mg : Str → Option Value} {base : Heap}
/-- as Has, for a def that may raise -/
def HasX (P : Program) (w : World) (K : PySem.W.Frag) (mg : Str → Option Value) (base : Heap) (k : Nat) (x : Str) (ps : List Str) (dvs : List V) (sp : Sp) : Prop :=
  ∃ (f : Addr) (fd : FuncData) (ds : List Value), FnOk P w K mg base (L2.CX P w) k f fd ps sp ∧ mg x = some (.ref f) ∧ PySem.W.keepIn K (.ref f) = true ∧ Binds K fd ps ds ∧ Vals dvs ds
def HasMX (P : Program) (w : World) (K : PySem.W.Frag) (mg : Str → Option Value) (base : Heap) (k : Nat) (C : Addr) (m : Str) (ps : List Str) (dvs : List V) (sp : Sp) : Prop :=
  ∃ (f : Addr) (fd : FuncData) (ds : List Value), FnOk P w K mg base (L2.CX P w) k f fd ps sp ∧ Meth K C m f ∧ Binds K fd ps ds ∧ Vals dvs ds
theorem Df.hasX {k : Nat} {x : Str} {st : Stmt} {ps : List Str} {sp : Sp} (D : Df K mg x st ps) (ok : ∀ f fd, Fun K x x st f fd → FnOk P w K mg base (L2.CX P w) k f fd ps sp) : HasX P w K mg base k x ps [] sp := by
  obtain ⟨f, fd, F, m, b⟩ := D
  exact ⟨f, fd, [], ok f fd F, m, F.kp, b, .nil⟩
theorem Dd.hasX {k : Nat} {x : Str} {st : Stmt} {ps : List Str} {d : V} {sp : Sp} (D : Dd K mg x st ps d) (ok : ∀ f fd, FunD K x x (defArgs st) (defBody st) (defScope st) [d] [] f fd → FnOk P w K mg base (L2.CX P w) k f fd ps sp) :
    HasX P w K mg base k x ps [d] sp ∧ HasX P w K mg base k x ps [] sp := by
  obtain ⟨f, fd, F, m, ⟨ds, r, b⟩, b0⟩ := D
  exact ⟨⟨f, fd, ds, ok f fd F, m, F.kp, b, r⟩, ⟨f, fd, [], ok f fd F, m, F.kp, b0, .nil⟩⟩
/-- what the top leaves of an error's class -/
structure EC (K : PySem.W.Frag) (mg : Str → Option Value) (x : Str) (C : Addr) : Prop where
  g : mg x = some (.ref C)
  x : PySem.W.excIn K C [.type "ValueError", .type "Exception", .type "BaseException", .type "object"] "ValueError.__new__" = true
  k : PySem.W.keepIn K (.ref C) = true
  b : PySem.W.subIn K (.ref C) (.type "BaseException") = some true
  t : PySem.W.typeIn K (.ref C) = some (.type "type")
/-- a class by its name alone -/
structure EG (mg : Str → Option Value) (x : Str) (C : Addr) : Prop where
  g : mg x = some (.ref C)
/-- of which types what is no integer may be -/
inductive NoIntT : Value → Prop where
  | non : NoIntT (.type "NoneType")
  | bool : NoIntT (.type "bool")
  | str : NoIntT (.type "str")
  | flt : NoIntT (.type "float")
  | byt : NoIntT (.type "bytes")
  | list : NoIntT (.type "list")
  | tup : NoIntT (.type "tuple")
  | dict : NoIntT (.type "dict")
  | set : NoIntT (.type "set")
/-- what is no integer: any value but an int, a bool too -/
def NoInt (K : PySem.W.Frag) (H : Hp) (x : V) : Prop := ∃ t, TyX K H x t ∧ NoIntT t
theorem NoIntT.kit {t : Value} (h : NoIntT t) : (∃ i b, PySem.W.kitOne K t (.type "int") = some i ∧ PySem.W.kitOne K t (.type "bool") = some b ∧ (i = true → b = true)) := by
  cases h <;> first
    | exact ⟨false, false, kit_ty (by decide +kernel), kit_ty (by decide +kernel), fun z => by cases z⟩
    | exact ⟨true, true, kit_ty (by decide +kernel), kit_ty (by decide +kernel), fun _ => rfl⟩
section
variable {H : Hp}
theorem NoInt.of_non : NoInt K H .non := ⟨_, .base .non, .non⟩
theorem NoInt.of_bl (b : Bool) : NoInt K H (.bl b) := ⟨_, .base (.bl b), .bool⟩
theorem NoInt.of_str (s : Str) : NoInt K H (.str s) := ⟨_, .base (.str s), .str⟩
theorem NoInt.of_lst {a : Addr} {xs : List V} (e : H a = some (.lst xs)) : NoInt K H (.ref a) := ⟨_, .base (.lst e), .list⟩
theorem NoInt.of_tup {a : Addr} {xs : List V} (e : H a = some (.tup xs)) : NoInt K H (.ref a) := ⟨_, .base (.tup e), .tup⟩
theorem NoInt.of_dK {a : Addr} {kvs : List (Key × V)} (e : H a = some (.dK kvs)) : NoInt K H (.ref a) := ⟨_, .base (.dK e), .dict⟩
end
end
section
variable {X : Cx} {K : PySem.W.Frag}
theorem op_notInK (e : X.K = K) : OpR X (compareOp .NotIn) (rIn K true) := by subst e; exact op_notIn_seq
end
/-- what an error was made of stands at a; isinstance(e, X) of it -/
def rIsEX (K : PySem.W.Frag) (cls : Value) (d : Option Addr) (a : Addr) : List V → Hp → VK → Prop := fun xs H Q => ∃ D, cls = .ref D ∧ d = none ∧ ExcC K D ∧ rIsE K D a xs H Q
theorem isiE {X : Cx} {a : Addr} {cls : Value} {d : Option Addr} {oe : Obj} {pn : List (Addr × Obj)} (hz : Zc cls d oe) (hf : ∃ vs, oe.data = .fields vs) : CallR (X.suite a ((a, oe) :: pn)) (.builtin "isinstance") (rIsEX X.K cls d a) := by
  intro pins s σ H xs us Q I r h
  obtain ⟨D, rfl, rfl, hC, h⟩ := h
  exact call_isE hC hz hf pins s σ H xs us Q I r h
section
variable {X : Cx} {CX : CXT} {k : Nat} {f C : Addr} {fd : FuncData} {ps : List Str} {sp : Sp} {E : L2.St → XK} {m : Str} {pos apos : Pos} {e o : Expr} {es : List Expr} {ta : TE} {t : TA}
/-- o.m(e, ..) that may raise, the wish told at the slots of the moment -/
def tMethS (C : Addr) (m : Str) (sp : Sp) (E : L2.St → XK) (ta : TE) (t : TA) : TE := fun σ H Q => ta σ H fun x H1 => ∃ a dx fs, x = .ref a ∧ H1 a = some (.ins C dx fs) ∧ fs.lookup m = none ∧
  t σ H1 fun vs H2 => sp (x :: vs) H2 Q (E σ)
theorem pe_methS {pl : Sem Bool} (he : PE X o ta) (c : Cls X.K C) (hm : Meth X.K C m f) (F : FnOk X.prog X.w X.K X.mg X.base CX k f fd ps sp) (hr : Room k X.A) (hb : Binds X.K fd ps []) (hx : ∀ σ, PassesAt CX X σ (E σ)) (ha : PA X (e :: es) t)
    (hst : starEach (e :: es) X.env = (false, eval e X.env) :: starEach es X.env := by rfl) (hpl : (backTo pos (starEach es X.env)).any (·.1) = false := by rfl)
    (ht : eval (.Call (.Attribute o m apos) (e :: es) [] pos) X.env = (do
      let ov ← eval o X.env
      standAt apos.atName
      let (f, first) ← holding [ov] (getMethod ov m pl)
      callWith pos f first (backTo pos (starEach (e :: es) X.env)) (backToKw pos (keywordEach [] X.env))) := by rfl) :
    PE X (.Call (.Attribute o m apos) (e :: es) [] pos) (tMethS C m sp E ta t) := by
  refine ⟨fun pins s σ H Q I h => ?_⟩
  refine PySem.W.methodCall_KW (pl := pl) (thn (he.run pins s σ H _ I h) fun u s1 ⟨x, H1, I1, rx, a, dx, fs, ex, ea, l, q⟩ => ?_) ht
  subst ex
  obtain rfl : u = Value.ref a := rx
  refine getmeth_ok I1 ea c hm l ?_
  refine PySem.W.callWith_K (first := [.ref a]) (h₀ := X.base) I.ok.mod.kin hm.kp (thn (ha.run pos pins s1 σ H1 _ I1 q) fun us s2 ⟨vs, H2, I2, r, q2⟩ => ⟨I2.kIn, ?_⟩) hst hpl
  exact run_fnS (us := .ref a :: us) (vs := .ref a :: vs) F hr hb (hx σ) I2 (.cons rfl r) q2
end
def topS (i : Nat) : Stmt := PySem.Challenge.pw_timerdeque_k18_what_are_no_ticks.main.body.getD i (.Pass ⟨0, 0, 0, 0⟩)
abbrev s_is_integer : Stmt := topS 13
abbrev N_is_integer : List Str := ["given"]
theorem sc_is_integer : FnScope N_is_integer ["given"] (defScope s_is_integer) := by
  refine ⟨rfl, rfl, rfl, ?_, rfl, ?_, ?_⟩ <;> decide +kernel
abbrev s_is_word : Stmt := topS 14
abbrev N_is_word : List Str := ["given"]
theorem sc_is_word : FnScope N_is_word ["given"] (defScope s_is_word) := by
  refine ⟨rfl, rfl, rfl, ?_, rfl, ?_, ?_⟩ <;> decide +kernel
abbrev s_is_base : Stmt := topS 15
abbrev N_is_base : List Str := ["given"]
theorem sc_is_base : FnScope N_is_base ["given"] (defScope s_is_base) := by
  refine ⟨rfl, rfl, rfl, ?_, rfl, ?_, ?_⟩ <;> decide +kernel
abbrev s_is_length : Stmt := topS 16
abbrev N_is_length : List Str := ["given"]
theorem sc_is_length : FnScope N_is_length ["given"] (defScope s_is_length) := by
  refine ⟨rfl, rfl, rfl, ?_, rfl, ?_, ?_⟩ <;> decide +kernel
abbrev s_are_levels : Stmt := topS 17
abbrev N_are_levels : List Str := ["given", "word"]
theorem sc_are_levels : FnScope N_are_levels ["given"] (defScope s_are_levels) := by
  refine ⟨rfl, rfl, rfl, ?_, rfl, ?_, ?_⟩ <;> decide +kernel
abbrev s_is_tick : Stmt := topS 18
abbrev N_is_tick : List Str := ["given", "least"]
theorem sc_is_tick : FnScope N_is_tick ["given", "least"] (defScope s_is_tick) := by
  refine ⟨rfl, rfl, rfl, ?_, rfl, ?_, ?_⟩ <;> decide +kernel
abbrev s_check_base : Stmt := topS 19
abbrev N_check_base : List Str := ["base"]
theorem sc_check_base : FnScope N_check_base ["base"] (defScope s_check_base) := by
  refine ⟨rfl, rfl, rfl, ?_, rfl, ?_, ?_⟩ <;> decide +kernel
abbrev s_check_levels : Stmt := topS 20
abbrev N_check_levels : List Str := ["levels"]
theorem sc_check_levels : FnScope N_check_levels ["levels"] (defScope s_check_levels) := by
  refine ⟨rfl, rfl, rfl, ?_, rfl, ?_, ?_⟩ <;> decide +kernel
abbrev s_check_tick : Stmt := topS 21
abbrev N_check_tick : List Str := ["tick", "least"]
theorem sc_check_tick : FnScope N_check_tick ["tick", "least"] (defScope s_check_tick) := by
  refine ⟨rfl, rfl, rfl, ?_, rfl, ?_, ?_⟩ <;> decide +kernel
abbrev s_word_at : Stmt := topS 23
abbrev N_word_at : List Str := ["levels", "level"]
theorem sc_word_at : FnScope N_word_at ["levels", "level"] (defScope s_word_at) := by
  refine ⟨rfl, rfl, rfl, ?_, rfl, ?_, ?_⟩ <;> decide +kernel
abbrev s_level_and_size : Stmt := topS 24
abbrev N_level_and_size : List Str := ["base", "now", "due", "level", "size", "above_now", "above_due"]
theorem sc_level_and_size : FnScope N_level_and_size ["base", "now", "due"] (defScope s_level_and_size) := by
  refine ⟨rfl, rfl, rfl, ?_, rfl, ?_, ?_⟩ <;> decide +kernel
abbrev s_path : Stmt := topS 25
abbrev N_path : List Str := ["base", "now", "due", "level", "size", "rows", "tick", "digit"]
theorem sc_path : FnScope N_path ["base", "now", "due"] (defScope s_path) := by
  refine ⟨rfl, rfl, rfl, ?_, rfl, ?_, ?_⟩ <;> decide +kernel
abbrev s_goes_in_front : Stmt := topS 26
abbrev N_goes_in_front : List Str := ["base", "levels", "now", "due", "lowest", "front", "level", "digit", "tick"]
theorem sc_goes_in_front : FnScope N_goes_in_front ["base", "levels", "now", "due", "lowest"] (defScope s_goes_in_front) := by
  refine ⟨rfl, rfl, rfl, ?_, rfl, ?_, ?_⟩ <;> decide +kernel
abbrev s_stations : Stmt := topS 27
abbrev N_stations : List Str := ["base", "now", "due"]
theorem sc_stations : FnScope N_stations ["base", "now", "due"] (defScope s_stations) := by
  refine ⟨rfl, rfl, rfl, ?_, rfl, ?_, ?_⟩ <;> decide +kernel
abbrev s_side : Stmt := topS 28
abbrev N_side : List Str := ["base", "levels", "now", "due"]
theorem sc_side : FnScope N_side ["base", "levels", "now", "due"] (defScope s_side) := by
  refine ⟨rfl, rfl, rfl, ?_, rfl, ?_, ?_⟩ <;> decide +kernel
abbrev s_with_digit : Stmt := topS 30
abbrev N_with_digit : List Str := ["base", "size", "behind", "whole", "rest"]
theorem sc_with_digit : FnScope N_with_digit ["base", "size", "behind"] (defScope s_with_digit) := by
  refine ⟨rfl, rfl, rfl, ?_, rfl, ?_, ?_⟩ <;> decide +kernel
abbrev s_dues_to_try : Stmt := topS 31
abbrev N_dues_to_try : List Str := ["base", "first", "behind", "dues", "size", "ones", "due"]
theorem sc_dues_to_try : FnScope N_dues_to_try ["base", "first", "behind"] (defScope s_dues_to_try) := by
  refine ⟨rfl, rfl, rfl, ?_, rfl, ?_, ?_⟩ <;> decide +kernel
abbrev s_moves_in : Stmt := topS 32
abbrev N_moves_in : List Str := ["base", "now", "first", "behind", "total", "size", "least"]
theorem sc_moves_in : FnScope N_moves_in ["base", "now", "first", "behind"] (defScope s_moves_in) := by
  refine ⟨rfl, rfl, rfl, ?_, rfl, ?_, ?_⟩ <;> decide +kernel
abbrev s_costliest : Stmt := topS 33
abbrev N_costliest : List Str := ["base", "now", "first", "behind", "due", "rows", "cost"]
theorem sc_costliest : FnScope N_costliest ["base", "now", "first", "behind"] (defScope s_costliest) := by
  refine ⟨rfl, rfl, rfl, ?_, rfl, ?_, ?_⟩ <;> decide +kernel
abbrev s__law_cell_at : Stmt := topS 35
abbrev N__law_cell_at : List Str := ["_law_script", "_law_k"]
theorem sc__law_cell_at : FnScope N__law_cell_at ["_law_script", "_law_k"] (defScope s__law_cell_at) := by
  refine ⟨rfl, rfl, rfl, ?_, rfl, ?_, ?_⟩ <;> decide +kernel
abbrev s__law_mixed : Stmt := topS 36
abbrev N__law_mixed : List Str := ["_law_cell", "_law_k", "_law_low"]
theorem sc__law_mixed : FnScope N__law_mixed ["_law_cell", "_law_k"] (defScope s__law_mixed) := by
  refine ⟨rfl, rfl, rfl, ?_, rfl, ?_, ?_⟩ <;> decide +kernel
abbrev s__law_source : Stmt := topS 37
abbrev N__law_source : List Str := ["_law_script", "_law_k", "_law_cell"]
theorem sc__law_source : FnScope N__law_source ["_law_script", "_law_k"] (defScope s__law_source) := by
  refine ⟨rfl, rfl, rfl, ?_, rfl, ?_, ?_⟩ <;> decide +kernel
abbrev s__law_next : Stmt := topS 38
abbrev N__law_next : List Str := ["_law_source_here", "_law_many", "_law_found"]
theorem sc__law_next : FnScope N__law_next ["_law_source_here", "_law_many"] (defScope s__law_next) := by
  refine ⟨rfl, rfl, rfl, ?_, rfl, ?_, ?_⟩ <;> decide +kernel
abbrev s__law_base : Stmt := topS 39
abbrev N__law_base : List Str := ["_law_source_here"]
theorem sc__law_base : FnScope N__law_base ["_law_source_here"] (defScope s__law_base) := by
  refine ⟨rfl, rfl, rfl, ?_, rfl, ?_, ?_⟩ <;> decide +kernel
abbrev s__law_levels : Stmt := topS 40
abbrev N__law_levels : List Str := ["_law_source_here", "_law_many", "_law_sort", "_law_found", "_law_at"]
theorem sc__law_levels : FnScope N__law_levels ["_law_source_here"] (defScope s__law_levels) := by
  refine ⟨rfl, rfl, rfl, ?_, rfl, ?_, ?_⟩ <;> decide +kernel
abbrev s__law_tick : Stmt := topS 41
abbrev N__law_tick : List Str := ["_law_source_here", "_law_base_here", "_law_sort", "_law_size", "_law_at"]
theorem sc__law_tick : FnScope N__law_tick ["_law_source_here", "_law_base_here"] (defScope s__law_tick) := by
  refine ⟨rfl, rfl, rfl, ?_, rfl, ?_, ?_⟩ <;> decide +kernel
abbrev s__law_pair : Stmt := topS 42
abbrev N__law_pair : List Str := ["_law_source_here", "_law_base_here", "_law_one", "_law_other"]
theorem sc__law_pair : FnScope N__law_pair ["_law_source_here", "_law_base_here"] (defScope s__law_pair) := by
  refine ⟨rfl, rfl, rfl, ?_, rfl, ?_, ?_⟩ <;> decide +kernel
abbrev s__law_word : Stmt := topS 43
abbrev N__law_word : List Str := ["_law_way", "_law_some", "e", "_law_marks"]
theorem sc__law_word : FnScope N__law_word ["_law_way", "_law_some"] (defScope s__law_word) := by
  refine ⟨rfl, rfl, rfl, ?_, rfl, ?_, ?_⟩ <;> decide +kernel
abbrev s__law_bad : Stmt := topS 44
abbrev N__law_bad : List Str := ["_law_source_here", "_law_at", "_law_now", "_law_first", "_law_odd", "_law_strange"]
theorem sc__law_bad : FnScope N__law_bad ["_law_source_here", "_law_at", "_law_now", "_law_first"] (defScope s__law_bad) := by
  refine ⟨rfl, rfl, rfl, ?_, rfl, ?_, ?_⟩ <;> decide +kernel
abbrev s_law : Stmt := topS 45
abbrev N_law : List Str := ["_law_script", "_law_k", "_law_source_here", "_law_base_here", "_law_now", "_law_first", "_law_levels_here", "_law_kept", "_law_good", "_law_way", "_law_words", "_law_used", "_law_some", "_law_at"]
theorem sc_law : FnScope N_law ["_law_script"] (defScope s_law) := by
  refine ⟨rfl, rfl, rfl, ?_, rfl, ?_, ?_⟩ <;> decide +kernel
/-- what the top leaves of built-in names -/
structure Tx (K : PySem.W.Frag) (mg : Str → Option Value) : Prop where
  b_isinstance : mg "isinstance" = none
  b_int : mg "int" = none
  b_bool : mg "bool" = none
  b_str : mg "str" = none
  b_all : mg "all" = none
  b_list : mg "list" = none
  b_len : mg "len" = none
  b_min : mg "min" = none
  b_divmod : mg "divmod" = none
  b_max : mg "max" = none
  b_range : mg "range" = none
  b_ValueError : mg "ValueError" = none
/-! ### the program: what an integer is, bases, ticks -/
def slotInt (σ : L2.St) (i : Nat) : Nat := match σ[i]? with
  | some (some (.int z)) => z.toNat
  | _ => 0
theorem cast_div (a b : Nat) : (a : Int) / (b : Int) = ((a / b : Nat) : Int) := rfl
theorem cast_mod (a b : Nat) : (a : Int) % (b : Int) = ((a % b : Nat) : Int) := rfl
theorem cast_mul (a b : Nat) : (a : Int) * (b : Int) = ((a * b : Nat) : Int) := (Int.natCast_mul a b).symm
theorem cast_add (a b : Nat) : (a : Int) + (b : Int) = ((a + b : Nat) : Int) := rfl
theorem natAbs_cast (a : Nat) : ((a : Nat) : Int).natAbs = a := rfl
theorem divp_s {i j : Int} (b : Nat) (hj : 0 < j) (hi : i.natAbs < 2 ^ b) (h : b ≤ 3000 := by decide) : CDivP i j := by
  refine divp_ok hj ?_
  have := PyProof.Rows.intBits_le hi
  omega
section
variable {P : Program} {w : World} {K : PySem.W.Frag} {mg : Str → Option Value} {base : Heap}
def spIsInt : Sp := fun vs H Q _ => ∃ n : Int, vs = [.int n] ∧ Q (.bl true) H
theorem ok_is_integer {f : Addr} {fd : FuncData} (F : Fun K "is_integer" "is_integer" s_is_integer f fd) (T : Tx K mg) : FnOk P w K mg base CX0 1 f fd ["given"] spIsInt := by
  refine F.ok sc_is_integer (fun vs H Q E h => ?_) (fun cdv A outer s H vs Q E hr h => ?_)
  · obtain ⟨n, rfl, _⟩ := h
    rfl
  · obtain ⟨n, rfl, q⟩ := h
    refine ⟨_, (pss_one (ps_ret (pe_and (pe_callB (isiK (K := K) rfl) (by rfl) T.b_isinstance (by decide +kernel) (pa_cons (pv 0) (pa_cons (pe_bltn (v := .ty "int") (u := .type "int") (by rfl) T.b_int (by decide +kernel) rfl) pa_nil))) (pe_one (pe_not (pe_callB (isiK (K := K) rfl) (by rfl) T.b_isinstance (by decide +kernel) (pa_cons (pv 0) (pa_cons (pe_bltn (v := .ty "bool") (u := .type "bool") (by rfl) T.b_bool (by decide +kernel) rfl) pa_nil)))))))), ?_⟩
    refine ⟨.int n, rfl, .int n, _, _, _, true, rfl, .ty "int", .base (.int n), kit_ty (by decide +kernel), true, rfl, iteT ?_⟩
    exact ⟨.int n, rfl, .int n, _, _, _, false, rfl, .ty "bool", .base (.int n), kit_ty (by decide +kernel), false, rfl, q⟩
end
/-! a tick, of an integer -/
section
variable {P : Program} {w : World} {K : PySem.W.Frag} {mg : Str → Option Value} {base : Heap}
def spIsTick : Sp := fun vs H Q _ => ∃ n l : Int, vs = [.int n, .int l] ∧ l ≤ n ∧ Q (.bl true) H
theorem ok_is_tick {f : Addr} {fd : FuncData} (F : FunD K "is_tick" "is_tick" (defArgs s_is_tick) (defBody s_is_tick) (defScope s_is_tick) [.int 0] [] f fd) (T : Tx K mg) (h1 : Has P w K mg base 1 "is_integer" ["given"] [] spIsInt) : FnOk P w K mg base CX0 2 f fd ["given", "least"] spIsTick := by
  obtain ⟨f_is_integer, fd_is_integer, ds_is_integer, G_is_integer, m_is_integer, k_is_integer, b_is_integer, v_is_integer⟩ := h1
  refine F.ok sc_is_tick (fun vs H Q E h => ?_) (fun cdv A outer s H vs Q E hr h => ?_)
  · obtain ⟨n, l, rfl, _⟩ := h
    rfl
  · obtain ⟨n, l, rfl, l1, q⟩ := h
    refine ⟨_, PSs.nox (pss_one (ps_ret (pe_and (pe_call G_is_integer hr (by rfl) m_is_integer k_is_integer b_is_integer v_is_integer pass0 (pa_cons (pv 0) pa_nil)) (pe_one (pe_cmpR op_ge (pv 0) (pv 1) (nomark _)))))), ?_⟩
    refine ⟨.int n, rfl, n, rfl, true, rfl, iteT ?_⟩
    refine ⟨.int n, rfl, .int l, rfl, n, l, rfl, rfl, ?_⟩
    have e : V.bl (decide (n ≥ l)) = V.bl true := dT l1
    show Q (V.bl (decide (n ≥ l))) H
    rw [e]
    exact q
end
/-! ### bases and ticks -/
section
variable {P : Program} {w : World} {K : PySem.W.Frag} {mg : Str → Option Value} {base : Heap}
def spIsBase : Sp := fun vs H Q _ => ∃ n : Int, vs = [.int n] ∧ 2 ≤ n ∧ n ≤ 64 ∧ Q (.bl true) H
theorem ok_is_base {f : Addr} {fd : FuncData} (F : Fun K "is_base" "is_base" s_is_base f fd) (h1 : Has P w K mg base 1 "is_integer" ["given"] [] spIsInt) : FnOk P w K mg base CX0 2 f fd ["given"] spIsBase := by
  obtain ⟨f_is_integer, fd_is_integer, ds_is_integer, G_is_integer, m_is_integer, k_is_integer, b_is_integer, v_is_integer⟩ := h1
  refine F.ok sc_is_base (fun vs H Q E h => ?_) (fun cdv A outer s H vs Q E hr h => ?_)
  · obtain ⟨n, rfl, _⟩ := h
    rfl
  · obtain ⟨n, rfl, l1, l2, q⟩ := h
    refine ⟨_, (pss_one (ps_ret (pe_and (pe_call G_is_integer hr (by rfl) m_is_integer k_is_integer b_is_integer v_is_integer pass0 (pa_cons (pv 0) pa_nil)) (pe_one (pe_chain op_le op_le pe_int (pv 0) pe_int))))), ?_⟩
    refine ⟨.int n, rfl, n, rfl, true, rfl, iteT ?_⟩
    refine ⟨.int n, rfl, 2, n, rfl, rfl, true, congrArg V.bl (decide_eq_true l1), iteT ?_⟩
    refine ⟨n, 64, rfl, rfl, ?_⟩
    have e : V.bl (decide (n ≤ 64)) = V.bl true := dT l2
    show Q (V.bl (decide (n ≤ 64))) H
    rw [e]
    exact q
def spCheckBase : Sp := fun vs H Q _ => ∃ n : Int, vs = [.int n] ∧ 2 ≤ n ∧ n ≤ 64 ∧ Q .non H
theorem ok_check_base {f : Addr} {fd : FuncData} (F : Fun K "check_base" "check_base" s_check_base f fd) (h1 : Has P w K mg base 2 "is_base" ["given"] [] spIsBase) : FnOk P w K mg base CX0 3 f fd ["base"] spCheckBase := by
  obtain ⟨f_is_base, fd_is_base, ds_is_base, G_is_base, m_is_base, k_is_base, b_is_base, v_is_base⟩ := h1
  refine F.ok sc_check_base (fun vs H Q E h => ?_) (fun cdv A outer s H vs Q E hr h => ?_)
  · obtain ⟨n, rfl, _⟩ := h
    rfl
  · obtain ⟨n, rfl, l1, l2, q⟩ := h
    refine ⟨_, (pss_one (ps_if (pt_not (pt_val (pe_call G_is_base hr (by rfl) m_is_base k_is_base b_is_base v_is_base pass0 (pa_cons (pv 0) pa_nil))))
        (pss_one ps_never)
        pss_nil)), ?_⟩
    exact ⟨.int n, rfl, n, rfl, l1, l2, true, rfl, iteF q⟩
def spCheckTick : Sp := fun vs H Q _ => ∃ n l : Int, vs = [.int n, .int l] ∧ l ≤ n ∧ Q .non H
theorem ok_check_tick {f : Addr} {fd : FuncData} (F : FunD K "check_tick" "check_tick" (defArgs s_check_tick) (defBody s_check_tick) (defScope s_check_tick) [.int 0] [] f fd) (h1 : Has P w K mg base 2 "is_tick" ["given", "least"] [] spIsTick) : FnOk P w K mg base CX0 3 f fd ["tick", "least"] spCheckTick := by
  obtain ⟨f_is_tick, fd_is_tick, ds_is_tick, G_is_tick, m_is_tick, k_is_tick, b_is_tick, v_is_tick⟩ := h1
  refine F.ok sc_check_tick (fun vs H Q E h => ?_) (fun cdv A outer s H vs Q E hr h => ?_)
  · obtain ⟨n, l, rfl, _⟩ := h
    rfl
  · obtain ⟨n, l, rfl, l1, q⟩ := h
    refine ⟨_, PSs.nox (pss_one (ps_if (pt_not (pt_val (pe_call G_is_tick hr (by rfl) m_is_tick k_is_tick b_is_tick v_is_tick pass0 (pa_cons (pv 0) (pa_cons (pv 1) pa_nil)))))
        (pss_one ps_never)
        pss_nil)), ?_⟩
    exact ⟨.int n, rfl, .int l, rfl, n, l, rfl, l1, true, rfl, iteF q⟩
end
/-! ### is_integer of any value; a tick that is none -/
section
variable {P : Program} {w : World} {K : PySem.W.Frag} {mg : Str → Option Value} {base : Heap}
def spIsIntX (K : PySem.W.Frag) : Sp := fun vs H Q _ => ∃ x : V, vs = [x] ∧ ((∃ n : Int, x = .int n ∧ Q (.bl true) H) ∨ (NoInt K H x ∧ Q (.bl false) H))
theorem okA_is_integer {f : Addr} {fd : FuncData} (F : Fun K "is_integer" "is_integer" s_is_integer f fd) (T : Tx K mg) : FnOk P w K mg base CX0 1 f fd ["given"] (spIsIntX K) := by
  refine F.ok sc_is_integer (fun vs H Q E h => ?_) (fun cdv A outer s H vs Q E hr h => ?_)
  · obtain ⟨x, rfl, _⟩ := h
    rfl
  · obtain ⟨x, rfl, hx⟩ := h
    refine ⟨_, (pss_one (ps_ret (pe_and (pe_callB (isiK (K := K) rfl) (by rfl) T.b_isinstance (by decide +kernel) (pa_cons (pv 0) (pa_cons (pe_bltn (v := .ty "int") (u := .type "int") (by rfl) T.b_int (by decide +kernel) rfl) pa_nil))) (pe_one (pe_not (pe_callB (isiK (K := K) rfl) (by rfl) T.b_isinstance (by decide +kernel) (pa_cons (pv 0) (pa_cons (pe_bltn (v := .ty "bool") (u := .type "bool") (by rfl) T.b_bool (by decide +kernel) rfl) pa_nil)))))))), ?_⟩
    rcases hx with ⟨n, rfl, q⟩ | ⟨⟨t, ht, hn⟩, q⟩
    · refine ⟨.int n, rfl, .int n, _, _, _, true, rfl, .ty "int", .base (.int n), kit_ty (by decide +kernel), true, rfl, iteT ?_⟩
      exact ⟨.int n, rfl, .int n, _, _, _, false, rfl, .ty "bool", .base (.int n), kit_ty (by decide +kernel), false, rfl, q⟩
    · obtain ⟨i, b, h1, h2, h3⟩ := hn.kit (K := K)
      cases i with
      | false => exact ⟨x, rfl, x, _, _, _, false, rfl, .ty "int", ht, h1, false, rfl, iteF q⟩
      | true =>
        refine ⟨x, rfl, x, _, _, _, true, rfl, .ty "int", ht, h1, true, rfl, iteT ?_⟩
        exact ⟨x, rfl, x, _, _, _, b, rfl, .ty "bool", ht, h2, b, rfl, by rw [h3 rfl]; exact q⟩
/-- what is no tick from l on -/
def BadTick (K : PySem.W.Frag) (H : Hp) (x : V) (l : Int) : Prop := NoInt K H x ∨ ∃ n : Int, x = .int n ∧ n < l
def spIsTickX (K : PySem.W.Frag) : Sp := fun vs H Q _ => ∃ (x : V) (l : Int), vs = [x, .int l] ∧ ((∃ n : Int, x = .int n ∧ l ≤ n ∧ Q (.bl true) H) ∨ (BadTick K H x l ∧ Q (.bl false) H))
theorem okA_is_tick {f : Addr} {fd : FuncData} (F : FunD K "is_tick" "is_tick" (defArgs s_is_tick) (defBody s_is_tick) (defScope s_is_tick) [.int 0] [] f fd) (h1 : Has P w K mg base 1 "is_integer" ["given"] [] (spIsIntX K)) : FnOk P w K mg base CX0 2 f fd ["given", "least"] (spIsTickX K) := by
  obtain ⟨f_is_integer, fd_is_integer, ds_is_integer, G_is_integer, m_is_integer, k_is_integer, b_is_integer, v_is_integer⟩ := h1
  refine F.ok sc_is_tick (fun vs H Q E h => ?_) (fun cdv A outer s H vs Q E hr h => ?_)
  · obtain ⟨x, l, rfl, _⟩ := h
    rfl
  · obtain ⟨x, l, rfl, hx⟩ := h
    refine ⟨_, PSs.nox (pss_one (ps_ret (pe_and (pe_call G_is_integer hr (by rfl) m_is_integer k_is_integer b_is_integer v_is_integer pass0 (pa_cons (pv 0) pa_nil)) (pe_one (pe_cmpR op_ge (pv 0) (pv 1) (nomark _)))))), ?_⟩
    have e1 : ∀ n : Int, l ≤ n → V.bl (decide (n ≥ l)) = V.bl true := fun n h => dT h
    have e2 : ∀ n : Int, n < l → V.bl (decide (n ≥ l)) = V.bl false := fun n h => dF (by omega)
    rcases hx with ⟨n, rfl, l1, q⟩ | ⟨hn | ⟨n, rfl, l1⟩, q⟩
    · refine ⟨.int n, rfl, .int n, rfl, .inl ⟨n, rfl, true, rfl, iteT ⟨.int n, rfl, .int l, rfl, n, l, rfl, rfl, ?_⟩⟩⟩
      show Q (V.bl (decide (n ≥ l))) H
      rw [e1 n l1]
      exact q
    · exact ⟨x, rfl, x, rfl, .inr ⟨hn, false, rfl, iteF q⟩⟩
    · refine ⟨.int n, rfl, .int n, rfl, .inl ⟨n, rfl, true, rfl, iteT ⟨.int n, rfl, .int l, rfl, n, l, rfl, rfl, ?_⟩⟩⟩
      show Q (V.bl (decide (n ≥ l))) H
      rw [e2 n l1]
      exact q
def spCheckTickX (K : PySem.W.Frag) (CN : Addr) : Sp := fun vs H Q E => ∃ (x : V) (l : Int), vs = [x, .int l] ∧ ((∃ n : Int, x = .int n ∧ l ≤ n ∧ Q .non H) ∨ (BadTick K H x l ∧ E (.ref CN) none H))
theorem okX_check_tick {f c_NoTick : Addr} {fd : FuncData} (F : FunD K "check_tick" "check_tick" (defArgs s_check_tick) (defBody s_check_tick) (defScope s_check_tick) [.int 0] [] f fd) (T : Tx K mg) (X_NoTick : EC K mg "NoTick" c_NoTick) (h1 : Has P w K mg base 2 "is_tick" ["given", "least"] [] (spIsTickX K)) : FnOk P w K mg base (L2.CX P w) 3 f fd ["tick", "least"] (spCheckTickX K c_NoTick) := by
  obtain ⟨f_is_tick, fd_is_tick, ds_is_tick, G_is_tick, m_is_tick, k_is_tick, b_is_tick, v_is_tick⟩ := h1
  refine F.ok sc_check_tick (fun vs H Q E h => ?_) (fun cdv A outer s H vs Q E hr h => ?_)
  · obtain ⟨x, l, rfl, _⟩ := h
    rfl
  · obtain ⟨x, l, rfl, hx⟩ := h
    refine ⟨_, (pss_one (ps_if (pt_not (pt_val (pe_call G_is_tick hr (by rfl) m_is_tick k_is_tick b_is_tick v_is_tick pass0 (pa_cons (pv 0) (pa_cons (pv 1) pa_nil)))))
        (pss_one (ps_raise rfl (takes_of rfl rfl rfl rfl) (pmk_own PySem.F.excBase_ValueError X_NoTick.x X_NoTick.g X_NoTick.k (raises_own X_NoTick.b X_NoTick.t) rfl)))
        pss_nil)), ?_⟩
    rcases hx with ⟨n, rfl, l1, q⟩ | ⟨hn, q⟩
    · exact ⟨.int n, rfl, .int l, rfl, .int n, l, rfl, .inl ⟨n, rfl, l1, true, rfl, iteF q⟩⟩
    · exact ⟨x, rfl, .int l, rfl, x, l, rfl, .inr ⟨hn, false, rfl, iteT q⟩⟩
end
/-! ### the program: level_and_size, path -/
section
variable {P : Program} {w : World} {K : PySem.W.Frag} {mg : Str → Option Value} {base : Heap}
/-! the level -/
def spLevel : Sp := fun vs H Q _ => ∃ b n d : Nat, vs = [.int b, .int n, .int d] ∧ 2 ≤ b ∧ b ≤ 64 ∧ n < d ∧ d < 2 ^ 250 ∧ ∀ k, IsLev b n d k → ∀ H' p, Same H H' → H p = none → H' p = some (.tup [.int (k : Nat), .int ((b ^ k : Nat) : Int)]) → Q (.ref p) H'
theorem ok_level_and_size {f : Addr} {fd : FuncData} (F : Fun K "level_and_size" "level_and_size" s_level_and_size f fd) : FnOk P w K mg base CX0 1 f fd ["base", "now", "due"] spLevel := by
  refine F.ok sc_level_and_size (fun vs H Q E h => ?_) (fun cdv A outer s H vs Q E hr h => ?_)
  · obtain ⟨b, n, d, rfl, _⟩ := h
    rfl
  · obtain ⟨b, n, d, rfl, hb, hb64, hnd, hd, q⟩ := h
    have cb : ∀ x : Nat, NDiv x b := fun x => ndiv 7 (by omega) (by omega)
    refine ⟨_, (pss_cons (ps_asg (pe_tup (pa_cons pe_int (pa_cons pe_int pa_nil))) (pg_tupK (K := K) (n := 2) rfl rfl (pgs_cons (pg_name (i := 3) sc_level_and_size.nd rfl (.inl rfl)) (pgs_cons (pg_name (i := 4) sc_level_and_size.nd rfl (.inl rfl)) pgs_nil))))
      (pss_cons (ps_par (i := 5) (j := 6) (by rfl) sc_level_and_size.nd rfl rfl (by decide) rfl rfl (pa_cons (pe_op op_divN (pv 1) (pv 0)) (pa_cons (pe_op op_divN (pv 2) (pv 0)) pa_nil)) (by rfl))
      (pss_cons (ps_while PassesOwn.never (pt_cmpR op_ne (pv 5) (pv 6) (nomark _))
        (pss_cons (ps_par (i := 5) (j := 6) (by rfl) sc_level_and_size.nd rfl rfl (by decide) rfl rfl (pa_cons (pe_op op_divN (pv 5) (pv 0)) (pa_cons (pe_op op_divN (pv 6) (pv 0)) pa_nil)) (by rfl))
        (pss_one (ps_par (i := 3) (j := 4) (by rfl) sc_level_and_size.nd rfl rfl (by decide) rfl rfl (pa_cons (pe_op op_addN (pv 3) pe_int) (pa_cons (pe_op op_mulN (pv 4) (pv 0)) pa_nil)) (by rfl)))))
      (pss_one (ps_ret (pe_tup (pa_cons (pv 3) (pa_cons (pv 4) pa_nil)))))))), ?_⟩
    refine ⟨by simp [sizeLine_eq], fun t hT => ⟨t, _, rfl, .inl (.inl upd_same), rfl, _, _, rfl, _, _, rfl, rfl, ?_⟩⟩
    refine ⟨_, rfl, _, rfl, _, _, rfl, rfl, cb _, _, rfl, _, rfl, _, _, rfl, rfl, cb _, _, _, rfl, ?_⟩
    refine while_by (fun σ H' => ∃ k : Nat, σ = [some (.int (b : Int)), some (.int (n : Int)), some (.int (d : Int)), some (.int (k : Int)), some (.int ((b ^ k : Nat) : Int)), some (.int ((n / b ^ (k + 1) : Nat) : Int)), some (.int ((d / b ^ (k + 1) : Nat) : Int))] ∧ Same H H' ∧ ∀ j, j < k → n / b ^ (j + 1) ≠ d / b ^ (j + 1))
      (fun σ _ => slotInt σ 6) ⟨0, ?_, same_upd hT, fun j hj => absurd hj (Nat.not_lt_zero j)⟩ ?_ ?_
    · rw [Nat.zero_add, Nat.pow_one]
      rfl
    · rintro σ H' ⟨k, rfl, sm, hk⟩
      by_cases hne : n / b ^ (k + 1) = d / b ^ (k + 1)
      · refine ⟨_, rfl, _, rfl, rfl, false, ?_, iteF ?_⟩
        · rw [hne, decide_eq_true rfl]
          rfl
        · refine ⟨_, rfl, _, rfl, by simp [sizeLine_eq], fun p hp => ?_⟩
          exact q k ⟨hne, hk⟩ _ p (sm.trans (same_upd hp)) (sm.free hp) upd_same
      · have h2 : n / b ^ (k + 1) ≤ d / b ^ (k + 1) := Nat.div_le_div_right (Nat.le_of_lt hnd)
        have hpos : 0 < d / b ^ (k + 1) := pos_of h2 hne
        refine ⟨_, rfl, _, rfl, rfl, true, ?_, iteT ?_⟩
        · rw [int_ne hne]
          rfl
        · refine ⟨_, rfl, _, rfl, _, _, rfl, rfl, cb _, _, rfl, _, rfl, _, _, rfl, rfl, cb _, _, _, rfl, ?_⟩
          refine ⟨_, rfl, k, 1, rfl, rfl, trivial, _, rfl, _, rfl, _, _, rfl, rfl, nmul_r (by omega), _, _, rfl, ?_⟩
          have hlt : d / b ^ (k + 1) / b < d / b ^ (k + 1) := Nat.div_lt_self hpos (by omega)
          refine ⟨⟨k + 1, ?_, sm, fun j hj => ?_⟩, ?_⟩
          · rw [div_succ n b (k + 1), div_succ d b (k + 1), Nat.pow_succ b k]
            rfl
          · by_cases e : j = k
            · rw [e]
              exact hne
            · exact hk j (by omega)
          · show (((d / b ^ (k + 1) / b : Nat) : Int)).toNat < (((d / b ^ (k + 1) : Nat) : Int)).toNat
            rw [Int.toNat_natCast, Int.toNat_natCast]
            exact hlt
    · rintro σ H' Q1 Q2 h ⟨x, hx, y, hy, hs, k, e, z⟩
      exact ⟨x, hx, y, hy, hs, k, e, h _ _ z⟩
/-! the stations -/
def rowV (r : Row3) : List V := [.int (r.1 : Nat), .int (r.2.1 : Nat), .int (r.2.2 : Nat)]
/-- at the places ts stand the rows rs, each a tuple of three -/
def RowsAt (H : Hp) : List Addr → List Row3 → Prop
  | [], [] => True
  | t :: ts, r :: rs => H t = some (.tup (rowV r)) ∧ RowsAt H ts rs
  | _, _ => False
theorem RowsAt.same {H H' : Hp} (s : Same H H') : ∀ {ts : List Addr} {rs : List Row3}, RowsAt H ts rs → RowsAt H' ts rs
  | [], [], h => h
  | _ :: _, _ :: _, h => ⟨s _ _ h.1, h.2.same s⟩
  | [], _ :: _, h => h
  | _ :: _, [], h => h
theorem RowsAt.app {H : Hp} {t : Addr} {r : Row3} : ∀ {ts : List Addr} {rs : List Row3}, RowsAt H ts rs → H t = some (.tup (rowV r)) → RowsAt H (ts ++ [t]) (rs ++ [r])
  | [], [], _, h => ⟨h, trivial⟩
  | _ :: _, _ :: _, h, h2 => ⟨h.1, h.2.app h2⟩
  | [], _ :: _, h, _ => h.elim
  | _ :: _, [], h, _ => h.elim
theorem RowsAt.len {H : Hp} : ∀ {ts : List Addr} {rs : List Row3}, RowsAt H ts rs → ts.length = rs.length
  | [], [], _ => rfl
  | _ :: _, _ :: _, h => congrArg Nat.succ h.2.len
  | [], _ :: _, h => h.elim
  | _ :: _, [], h => h.elim
theorem RowsAt.upd {H : Hp} {p : Addr} {xs : List V} {o : HO} (hp : H p = some (.lst xs)) : ∀ {ts : List Addr} {rs : List Row3}, RowsAt H ts rs → RowsAt (upd H p o) ts rs
  | [], [], h => h
  | t :: _, _ :: _, h => ⟨by rw [upd_ne (ne_of h.1 hp (by intro z; cases z))]; exact h.1, h.2.upd hp⟩
  | [], _ :: _, h => h
  | _ :: _, [], h => h
theorem RowsAt.get {H : Hp} : ∀ {ts : List Addr} {rs : List Row3} {i : Nat} {t : Addr}, RowsAt H ts rs → ts[i]? = some t → ∃ r, rs[i]? = some r ∧ H t = some (.tup (rowV r))
  | t :: _, r :: _, 0, _, h, e => ⟨r, rfl, by cases Option.some.inj e; exact h.1⟩
  | _ :: _, _ :: _, i + 1, _, h, e => h.2.get (i := i) e
  | [], _, _, _, _, e => by simp at e
  | _ :: _, [], _, _, h, _ => h.elim
def spPath : Sp := fun vs H Q _ => ∃ b n d : Nat, vs = [.int b, .int n, .int d] ∧ 2 ≤ b ∧ b ≤ 64 ∧ n < d ∧ d < 2 ^ 250 ∧ ∀ k, IsLev b n d k → ∀ H' p ts, Same H H' → H p = none → H' p = some (.lst (ts.map V.ref)) → RowsAt H' ts (rowsOf b n d k) → Q (.ref p) H'
theorem ok_path {f : Addr} {fd : FuncData} (F : Fun K "path" "path" s_path f fd) (h1 : Has P w K mg base 1 "level_and_size" ["base", "now", "due"] [] spLevel) : FnOk P w K mg base CX0 2 f fd ["base", "now", "due"] spPath := by
  obtain ⟨f_level_and_size, fd_level_and_size, ds_level_and_size, G_level_and_size, m_level_and_size, k_level_and_size, b_level_and_size, v_level_and_size⟩ := h1
  refine F.ok sc_path (fun vs H Q E h => ?_) (fun cdv A outer s H vs Q E hr h => ?_)
  · obtain ⟨b, n, d, rfl, _⟩ := h
    rfl
  · obtain ⟨b, n, d, rfl, hb, hb64, hnd, hd, q⟩ := h
    have cb : ∀ x : Nat, NDiv x b := fun x => ndiv 7 (by omega) (by omega)
    have hb0 : 0 < b := by omega
    refine ⟨_, (pss_cons (ps_asg (pe_call G_level_and_size hr (by rfl) m_level_and_size k_level_and_size b_level_and_size v_level_and_size pass0 (pa_cons (pv 0) (pa_cons (pv 1) (pa_cons (pv 2) pa_nil)))) (pg_tupK (K := K) (n := 2) rfl rfl (pgs_cons (pg_name (i := 3) sc_path.nd rfl (.inl rfl)) (pgs_cons (pg_name (i := 4) sc_path.nd rfl (.inl rfl)) pgs_nil))))
      (pss_cons (ps_set (i := 5) sc_path.nd rfl (.inl rfl) (pe_lst (pa_cons (pe_tup (pa_cons (pv 3) (pa_cons (pe_op op_remN (pe_op op_divN (pv 2) (pv 4)) (pv 0)) (pa_cons (pv 1) pa_nil)))) pa_nil)))
      (pss_cons (ps_while PassesOwn.never (pt_cmpR op_gt (pv 3) pe_int (nomark _))
        (pss_cons (ps_set (i := 6) sc_path.nd rfl (.inl rfl) (pe_op op_mulN (pe_op op_divN (pv 2) (pv 4)) (pv 4)))
        (pss_cons (ps_par (i := 3) (j := 4) (by rfl) sc_path.nd rfl rfl (by decide) rfl rfl (pa_cons (pe_op op_subN (pv 3) pe_int) (pa_cons (pe_op op_divN (pv 4) (pv 0)) pa_nil)) (by rfl))
        (pss_cons (ps_set (i := 7) sc_path.nd rfl (.inl rfl) (pe_op op_remN (pe_op op_divN (pv 2) (pv 4)) (pv 0)))
        (pss_one (ps_if (pt_cmpR op_ne (pv 7) pe_int (nomark _))
          (pss_one (ps_expr (pe_bm PySem.F.plainAttrs_list PySem.F.slot_list_append PySem.F.type_list_append mt_append (pv 5) (pa_cons (pe_tup (pa_cons (pv 3) (pa_cons (pv 7) (pa_cons (pv 6) pa_nil)))) pa_nil))))
          pss_nil))))))
      (pss_one (ps_ret (pv 5)))))), ?_⟩
    refine ⟨_, rfl, _, rfl, _, rfl, b, n, d, rfl, hb, hb64, hnd, hd, fun k hk H0 t0 s0 ht0 eT0 => ?_⟩
    have hkd : ∀ j, j ≤ k → b ^ j ≤ d := fun j hj => Nat.le_trans (Nat.pow_le_pow_right (by omega) hj) (hk.size hb hnd)
    have hk250 : k < 250 := lev_small hk hb hnd hd
    have cs : ∀ j, j ≤ k → ∀ x : Nat, NDiv x (b ^ j) := fun j hj x => ndiv 250 (pow_pos' hb j) (Nat.lt_of_le_of_lt (hkd j hj) hd)
    -- level, size = ..
    refine ⟨t0, _, rfl, .inl (.inl eT0), rfl, _, _, rfl, _, _, rfl, rfl, ?_⟩
    -- rows = [(level, due // size % base, now)]
    refine ⟨_, rfl, _, rfl, _, rfl, _, _, rfl, rfl, cs k (Nat.le_refl k) _, _, rfl, _, _, rfl, rfl, hb0, _, rfl, by simp [sizeLine_eq], fun t1 ht1 => ?_⟩
    have s1 := s0.trans (same_upd (o := .tup (rowV (k, d / b ^ k % b, n))) ht1)
    refine ⟨by simp [sizeLine_eq], fun p hp => ?_⟩
    have s2 := s1.trans (same_upd (o := .lst [.ref t1]) hp)
    have np1 : t1 ≠ p := fun e => by
      rw [← e, upd_same] at hp
      cases hp
    have hpH : H p = none := s1.free hp
    refine while_by (fun σ H' => ∃ (j : Nat) (ts : List Addr) (done : List Row3) (y6 y7 : Option V), σ = [some (.int (b : Int)), some (.int (n : Int)), some (.int (d : Int)), some (.int (j : Int)), some (.int ((b ^ j : Nat) : Int)), some (.ref p), y6, y7] ∧ j ≤ k ∧ ts.length + j ≤ k + 1 ∧ Same H H' ∧ H' p = some (.lst (ts.map V.ref)) ∧ RowsAt H' ts ((k, d / b ^ k % b, n) :: done) ∧ tailOf b d k = done ++ tailOf b d j)
      (fun σ _ => slotInt σ 3) ⟨k, [t1], [], none, none, rfl, Nat.le_refl k, by simp; omega, s2, upd_same, ⟨?_, trivial⟩, rfl⟩ ?_ ?_
    · rw [upd_ne np1, upd_same]
      rfl
    · rintro σ H' ⟨j, ts, done, y6, y7, rfl, hjk, hlen, sm, eL, R, et⟩
      cases j with
      | zero =>
        refine ⟨_, rfl, ((0 : Nat) : Int), 0, rfl, rfl, false, rfl, iteF ?_⟩
        refine ⟨_, rfl, q k hk H' p ts sm hpH eL ?_⟩
        have e : done = tailOf b d k := by
          rw [et]
          exact (List.append_nil done).symm
        rw [e] at R
        exact R
      | succ j =>
        have hj0 : (0 : Int) < ((j + 1 : Nat) : Int) := by omega
        refine ⟨_, rfl, _, _, rfl, rfl, true, congrArg V.bl (decide_eq_true hj0), iteT ?_⟩
        -- tick = due // size * size
        refine ⟨_, rfl, _, rfl, _, _, rfl, rfl, cs (j + 1) hjk _, _, rfl, _, _, rfl, rfl, nmul_w 250 250 (Nat.lt_of_le_of_lt (Nat.div_le_self d _) hd) (Nat.lt_of_le_of_lt (hkd (j + 1) hjk) hd), ?_⟩
        -- level, size = level - 1, size // base
        refine ⟨_, rfl, j + 1, 1, rfl, rfl, Nat.le_add_left 1 j, _, rfl, _, rfl, b ^ (j + 1), b, rfl, rfl, cb _, .int (j : Nat), .int ((b ^ j : Nat) : Int), ?_, ?_⟩
        · show [V.int ((j + 1 - 1 : Nat) : Int), V.int ((b ^ (j + 1) / b : Nat) : Int)] = _
          rw [Nat.pow_succ, Nat.mul_div_cancel _ hb0]
          rfl
        -- digit = due // size % base
        refine ⟨_, rfl, _, rfl, d, b ^ j, rfl, rfl, cs j (by omega) _, _, rfl, _, _, rfl, rfl, hb0, ?_⟩
        have lt : slotInt [some (.int (b : Int)), some (.int (n : Int)), some (.int (d : Int)), some (.int (j : Int)), some (.int ((b ^ j : Nat) : Int)), some (.ref p), some (.int ((d / b ^ (j + 1) * b ^ (j + 1) : Nat) : Int)), some (.int ((d / b ^ j % b : Nat) : Int))] 3 < ((j + 1 : Nat) : Int).toNat := by
          show ((j : Int)).toNat < _
          omega
        by_cases h0 : d / b ^ j % b = 0
        · refine ⟨_, rfl, rfl, false, nF (vE h0), iteF ?_⟩
          · refine ⟨⟨j, ts, done, _, _, rfl, by omega, by omega, sm, eL, R, ?_⟩, lt⟩
            rw [et]
            show done ++ tailOf b d (j + 1) = done ++ tailOf b d j
            have : tailOf b d (j + 1) = tailOf b d j := if_neg (fun z => z h0)
            rw [this]
        · refine ⟨_, rfl, rfl, true, nT (vN (b := 0) h0), iteT ?_⟩
          · -- rows.append((level, digit, tick))
            refine ⟨_, rfl, .inl ⟨rfl, _, .inl (.inl eL)⟩, _, rfl, _, rfl, _, rfl, by simp [sizeLine_eq], fun t2 ht2 => ?_⟩
            have s3 := same_upd (o := .tup (rowV (j, d / b ^ j % b, d / b ^ (j + 1) * b ^ (j + 1)))) ht2
            have npt : t2 ≠ p := fun e => by
              rw [e, eL] at ht2
              cases ht2
            have eL' := s3 _ _ eL
            refine ⟨p, _, _, rfl, rfl, eL', ?_, ?_⟩
            · rw [List.length_map]
              exact sizeLine_ge (by omega)
            · refine ⟨⟨j, ts ++ [t2], done ++ [(j, d / b ^ j % b, d / b ^ (j + 1) * b ^ (j + 1))], _, _, rfl, by omega, ?_, fun c o e => ?_, ?_, ?_, ?_⟩, lt⟩
              · rw [List.length_append, List.length_singleton]
                omega
              · rw [upd_ne (ne_of_none e hpH)]
                exact s3 _ _ (sm _ _ e)
              · rw [upd_same, List.map_append]
                rfl
              · refine RowsAt.upd eL' ?_
                exact RowsAt.app (r := (j, d / b ^ j % b, d / b ^ (j + 1) * b ^ (j + 1))) (rs := (k, d / b ^ k % b, n) :: done) (R.same s3) upd_same
              · rw [et, List.append_assoc]
                show done ++ tailOf b d (j + 1) = done ++ ((j, d / b ^ j % b, d / b ^ (j + 1) * b ^ (j + 1)) :: tailOf b d j)
                have : tailOf b d (j + 1) = (j, d / b ^ j % b, d / b ^ (j + 1) * b ^ (j + 1)) :: tailOf b d j := if_pos h0
                rw [this]
    · rintro σ H' Q1 Q2 h ⟨x, hx, i, j, e1, e2, k, e, z⟩
      exact ⟨x, hx, i, j, e1, e2, k, e, h _ _ z⟩
end
theorem RowsAt.item {H : Hp} {ts : List Addr} {rs : List Row3} (R : RowsAt H ts rs) {i : Nat} {x : V} (hx : (ts.map V.ref)[i]? = some x) : ∃ ti r, x = V.ref ti ∧ ts[i]? = some ti ∧ rs[i]? = some r ∧ H ti = some (.tup (rowV r)) := by
  rw [List.getElem?_map] at hx
  cases e : ts[i]? with
  | none =>
    rw [e] at hx
    cases hx
  | some ti =>
    rw [e] at hx
    obtain ⟨r, hr, er⟩ := R.get e
    exact ⟨ti, r, (Option.some.inj hx).symm, rfl, hr, er⟩
/-! ### words of levels, sides -/
def lvV (b : Bool) : V := if b then .str "stack" else .str "queue"
def sdV (b : Bool) : V := if b then .str "front" else .str "back"
theorem lv_ne : ¬ (V.str "queue" = V.str "stack") := by decide
theorem lv_dec (b : Bool) : decide (lvV b = .str "stack") = b := by
  cases b
  · exact decide_eq_false lv_ne
  · exact decide_eq_true rfl
def wordAt (ws : List Bool) (k : Nat) : Bool := ws.getD (min k (ws.length - 1)) false
theorem word_get {ws : List Bool} (h : ws ≠ []) (k : Nat) : (ws.map lvV)[min k (ws.length - 1)]? = some (lvV (wordAt ws k)) := by
  have hl : min k (ws.length - 1) < ws.length := by
    have : 0 < ws.length := List.length_pos_iff.mpr h
    omega
  rw [List.getElem?_map, List.getElem?_eq_getElem hl]
  unfold wordAt
  rw [List.getD_eq_getElem?_getD, List.getElem?_eq_getElem hl]
  rfl
/-- whether an odd number of the rows, at levels from lo on, have the word stack -/
def frontOf (ws : List Bool) (lo : Nat) (rs : List Row3) : Bool := decide (rs.countP (fun r => decide (lo ≤ r.1) && wordAt ws r.1) % 2 = 1)
theorem odd_succ (c : Nat) : decide ((c + 1) % 2 = 1) = !decide (c % 2 = 1) := by
  by_cases h : c % 2 = 1
  · rw [decide_eq_true h, decide_eq_false (by omega)]
    rfl
  · rw [decide_eq_false h, decide_eq_true (by omega)]
    rfl
theorem front_snoc (ws : List Bool) (lo : Nat) (rs : List Row3) (r : Row3) : frontOf ws lo (rs ++ [r]) = if (decide (lo ≤ r.1) && wordAt ws r.1) = true then !frontOf ws lo rs else frontOf ws lo rs := by
  unfold frontOf
  rw [List.countP_append, List.countP_singleton]
  split
  · exact odd_succ _
  · rw [Nat.add_zero]
section
variable {P : Program} {w : World} {K : PySem.W.Frag} {mg : Str → Option Value} {base : Heap}
def spWordAt (K : PySem.W.Frag) : Sp := fun vs H Q _ => ∃ (q : Addr) (ws : List Bool) (k : Nat), vs = [.ref q, .int (k : Nat)] ∧ SqL K H q (ws.map lvV) ∧ ws ≠ [] ∧ Q (lvV (wordAt ws k)) H
theorem ok_word_at {f : Addr} {fd : FuncData} (F : Fun K "word_at" "word_at" s_word_at f fd) (T : Tx K mg) : FnOk P w K mg base CX0 1 f fd ["levels", "level"] (spWordAt K) := by
  refine F.ok sc_word_at (fun vs H Q E h => ?_) (fun cdv A outer s H vs Q E hr h => ?_)
  · obtain ⟨q, ws, k, rfl, _⟩ := h
    rfl
  · obtain ⟨q, ws, k, rfl, hL, hne, c⟩ := h
    have hp : 0 < ws.length := List.length_pos_iff.mpr hne
    have hpm : 1 ≤ (ws.map lvV).length := by
      rw [List.length_map]
      exact hp
    refine ⟨_, (pss_one (ps_ret (pe_ix (ix_listK (K := K) rfl) (pv 0) (pe_callB (call_min2 rfl) (by rfl) T.b_min (by decide +kernel) (pa_cons (pv 1) (pa_cons (pe_op op_subN (pe_callB (lenK (K := K) rfl) (by rfl) T.b_len PySem.boot_len (pa_cons (pv 0) pa_nil)) pe_int) pa_nil))) (fun _ _ => rfl)))), ?_⟩
    have g := word_get hne k
    refine ⟨.ref q, rfl, _, rfl, .ref q, rfl, q, _, rfl, .inl hL, (ws.map lvV).length, 1, rfl, rfl, hpm, k, _, rfl, q, _, ((min k (ws.length - 1) : Nat) : Int), _, rfl, congrArg V.int ?_, hL, atI_nat g, c⟩
    dsimp only
    rw [List.length_map]
    split <;> omega
def WordsAt (K : PySem.W.Frag) (mg : Str → Option Value) : Prop := ∃ a, mg "WORDS" = some (.ref a) ∧ ∀ H, SqT K H a [.str "stack", .str "queue"]
def MostAt (mg : Str → Option Value) : Prop := ∃ t, mg "MOST_LEVELS" = some (.int 60 t)
def spIsWord : Sp := fun vs H Q _ => ∃ b : Bool, vs = [lvV b] ∧ Q (.bl true) H
theorem ok_is_word {f : Addr} {fd : FuncData} (F : Fun K "is_word" "is_word" s_is_word f fd) (T : Tx K mg) (hW : WordsAt K mg) : FnOk P w K mg base CX0 1 f fd ["given"] spIsWord := by
  obtain ⟨a_WORDS, g_WORDS, sW⟩ := hW
  refine F.ok sc_is_word (fun vs H Q E h => ?_) (fun cdv A outer s H vs Q E hr h => ?_)
  · obtain ⟨b, rfl, _⟩ := h
    rfl
  · obtain ⟨b, rfl, c⟩ := h
    refine ⟨_, (pss_one (ps_ret (pe_and (pe_callB (isiK (K := K) rfl) (by rfl) T.b_isinstance (by decide +kernel) (pa_cons (pv 0) (pa_cons (pe_bltn (v := .ty "str") (u := .type "str") (by rfl) T.b_str (by decide +kernel) rfl) pa_nil))) (pe_one (pe_cmpR op_in_seq (pv 0) (pe_glob (v := .ref a_WORDS) rfl g_WORDS rfl) (by rfl)))))), ?_⟩
    obtain ⟨x, ex, hx⟩ : ∃ x : Str, lvV b = .str x ∧ (if false then !inV (V.str x) [.str "stack", .str "queue"] else inV (V.str x) [.str "stack", .str "queue"]) = true := by
      cases b
      · exact ⟨_, rfl, by decide⟩
      · exact ⟨_, rfl, by decide⟩
    rw [ex]
    refine ⟨.str x, rfl, _, _, _, _, true, rfl, .ty "str", .base (.str x), kit_ty (by decide +kernel), true, rfl, iteT ?_⟩
    refine ⟨.str x, rfl, a_WORDS, _, rfl, .inr (sW _), rfl, rfl, ?_⟩
    rw [hx]
    exact c
def spIsLength : Sp := fun vs H Q _ => ∃ n : Int, vs = [.int n] ∧ 1 ≤ n ∧ n ≤ 60 ∧ Q (.bl true) H
theorem ok_is_length {f : Addr} {fd : FuncData} (F : Fun K "is_length" "is_length" s_is_length f fd) (hM : MostAt mg) (h1 : Has P w K mg base 1 "is_integer" ["given"] [] spIsInt) : FnOk P w K mg base CX0 2 f fd ["given"] spIsLength := by
  obtain ⟨tM, g_MOST_LEVELS⟩ := hM
  obtain ⟨f_is_integer, fd_is_integer, ds_is_integer, G_is_integer, m_is_integer, k_is_integer, b_is_integer, v_is_integer⟩ := h1
  refine F.ok sc_is_length (fun vs H Q E h => ?_) (fun cdv A outer s H vs Q E hr h => ?_)
  · obtain ⟨n, rfl, _⟩ := h
    rfl
  · obtain ⟨n, rfl, l1, l2, q⟩ := h
    refine ⟨_, (pss_one (ps_ret (pe_and (pe_call G_is_integer hr (by rfl) m_is_integer k_is_integer b_is_integer v_is_integer pass0 (pa_cons (pv 0) pa_nil)) (pe_one (pe_chain op_le op_le pe_int (pv 0) (pe_glob (v := .int 60) rfl g_MOST_LEVELS ⟨_, rfl⟩)))))), ?_⟩
    refine ⟨.int n, rfl, n, rfl, true, rfl, iteT ?_⟩
    refine ⟨.int n, rfl, 1, n, rfl, rfl, true, congrArg V.bl (decide_eq_true l1), iteT ?_⟩
    refine ⟨n, 60, rfl, rfl, ?_⟩
    have e : V.bl (decide (n ≤ 60)) = V.bl true := dT l2
    show Q (V.bl (decide (n ≤ 60))) H
    rw [e]
    exact q
def spAreLevels (K : PySem.W.Frag) : Sp := fun vs H Q _ => ∃ (q : Addr) (ws : List Bool), vs = [.ref q] ∧ SqL K H q (ws.map lvV) ∧ ws ≠ [] ∧ ws.length ≤ 60 ∧ ∀ H', Same H H' → Q (.bl true) H'
theorem ok_are_levels {f : Addr} {fd : FuncData} (F : Fun K "are_levels" "are_levels" s_are_levels f fd) (T : Tx K mg) (h0 : Has P w K mg base 2 "is_length" ["given"] [] spIsLength) (h1 : Has P w K mg base 1 "is_word" ["given"] [] spIsWord) : FnOk P w K mg base CX0 3 f fd ["given"] (spAreLevels K) := by
  obtain ⟨f_is_length, fd_is_length, ds_is_length, G_is_length, m_is_length, k_is_length, b_is_length, v_is_length⟩ := h0
  obtain ⟨f_is_word, fd_is_word, ds_is_word, G_is_word, m_is_word, k_is_word, b_is_word, v_is_word⟩ := h1
  refine F.ok sc_are_levels (fun vs H Q E h => ?_) (fun cdv A outer s H vs Q E hr h => ?_)
  · obtain ⟨q, ws, rfl, _⟩ := h
    rfl
  · obtain ⟨q, ws, rfl, hL, hne, h60, c⟩ := h
    have hp : 0 < ws.length := List.length_pos_iff.mpr hne
    refine ⟨_, (pss_cons (ps_if (PW.pt (pw_or (pt_not (pt_val (pe_callB (isiK (K := K) rfl) (by rfl) T.b_isinstance (by decide +kernel) (pa_cons (pv 0) (pa_cons (pe_bltn (v := .ty "list") (u := .type "list") (by rfl) T.b_list (by decide +kernel) rfl) pa_nil))))) (pw_or1 (pt_not (pt_val (pe_call G_is_length hr (by rfl) m_is_length k_is_length b_is_length v_is_length pass0 (pa_cons (pe_callB (lenK (K := K) rfl) (by rfl) T.b_len PySem.boot_len (pa_cons (pv 0) pa_nil)) pa_nil)))))))
        (pss_one (ps_ret pe_bl))
        pss_nil)
      (pss_one (ps_ret (pe_callB (allK (K := K) rfl rfl) (by rfl) T.b_all (by decide +kernel) (pa_cons (pe_lc (own := [("word", 1)]) (g := gName 1) (tt := tYes) rfl sc_are_levels.nd (pi_list (pv 0)) (blkOk_by (own := [("word", 1)]) (N := N_are_levels) (sc := defScope s_are_levels) (by decide +kernel)) (fun _ _ _ _ _ => (pg_name (i := 1) sc_are_levels.nd rfl (.inl rfl))) (fun _ _ _ _ _ => pts_nil) (fun _ _ _ _ _ => (pe_call G_is_word (hr.mono (by decide)) (by rfl) m_is_word k_is_word b_is_word v_is_word pass0 (pa_cons (pv 1) pa_nil)))) pa_nil))))), ?_⟩
    refine ⟨.ref q, rfl, _, _, _, _, true, rfl, .ty "list", tyx_list hL, kit_ty (by decide +kernel), true, rfl, iteF ?_⟩
    refine ⟨.ref q, rfl, q, _, rfl, .inl hL, _, rfl, ?_, ?_, true, rfl, iteF ?_⟩
    · rw [List.length_map]
      omega
    · rw [List.length_map]
      omega
    refine ⟨.ref q, rfl, q, rfl, ⟨_, hL⟩, fun D hD => lc_list (K := K) (a := q) (xs := ws.map lvV) (fun i H' => Same H H' ∧ H' D = some (.lst ((List.replicate i true).map V.bl)))
      ⟨same_upd hD, upd_same⟩ (fun i H' _ ⟨sm, _⟩ => sm.seq hL) ?_ ?_⟩
    · rintro i x H' hx ⟨sm, eD⟩
      obtain ⟨b, rfl⟩ : ∃ b, x = lvV b := by
        rw [List.getElem?_map] at hx
        cases e : ws[i]? with
        | none =>
          rw [e] at hx
          cases hx
        | some b =>
          rw [e] at hx
          exact ⟨b, (Option.some.inj hx).symm⟩
      have hi : i < (ws.map lvV).length := (List.getElem?_eq_some_iff.mp hx).1
      rw [List.length_map] at hi
      refine ⟨rfl, yesT (iteT ?_)⟩
      refine ⟨_, rfl, b, rfl, _, eD, ?_, fun c o e => ?_, ?_⟩
      · rw [List.length_map, List.length_replicate]
        exact sizeLine_ge (by omega)
      · rw [upd_ne (ne_of_none e hD)]
        exact sm _ _ e
      · rw [upd_same, List.replicate_succ', List.map_append]
        rfl
    · rintro H1 ⟨s1, eD⟩
      refine ⟨D, _, rfl, SqL.of eD, ?_⟩
      have ea : (List.replicate (ws.map lvV).length true).all id = true := by
        rw [List.all_replicate]
        simp
      rw [ea]
      exact c H1 s1
def spCheckLevels (K : PySem.W.Frag) : Sp := fun vs H Q _ => ∃ (q : Addr) (ws : List Bool), vs = [.ref q] ∧ SqL K H q (ws.map lvV) ∧ ws ≠ [] ∧ ws.length ≤ 60 ∧ ∀ H', Same H H' → Q .non H'
theorem ok_check_levels {f : Addr} {fd : FuncData} (F : Fun K "check_levels" "check_levels" s_check_levels f fd) (h1 : Has P w K mg base 3 "are_levels" ["given"] [] (spAreLevels K)) : FnOk P w K mg base CX0 4 f fd ["levels"] (spCheckLevels K) := by
  obtain ⟨f_are_levels, fd_are_levels, ds_are_levels, G_are_levels, m_are_levels, k_are_levels, b_are_levels, v_are_levels⟩ := h1
  refine F.ok sc_check_levels (fun vs H Q E h => ?_) (fun cdv A outer s H vs Q E hr h => ?_)
  · obtain ⟨q, ws, rfl, _⟩ := h
    rfl
  · obtain ⟨q, ws, rfl, hL, hne, h60, c⟩ := h
    refine ⟨_, (pss_one (ps_if (pt_not (pt_val (pe_call G_are_levels hr (by rfl) m_are_levels k_are_levels b_are_levels v_are_levels pass0 (pa_cons (pv 0) pa_nil))))
        (pss_one ps_never)
        pss_nil)), ?_⟩
    exact ⟨_, rfl, q, ws, rfl, hL, hne, h60, fun H1 s1 => ⟨true, rfl, iteF (c H1 s1)⟩⟩
def spFront (K : PySem.W.Frag) : Sp := fun vs H Q _ => ∃ (b n d lo : Nat) (q : Addr) (ws : List Bool), vs = [.int (b : Nat), .ref q, .int (n : Nat), .int (d : Nat), .int (lo : Nat)] ∧ 2 ≤ b ∧ b ≤ 64 ∧ n < d ∧ d < 2 ^ 250 ∧ SqL K H q (ws.map lvV) ∧ ws ≠ [] ∧
  ∀ k, IsLev b n d k → ∀ H', Same H H' → Q (.bl (frontOf ws lo (rowsOf b n d k))) H'
theorem ok_goes_in_front {f : Addr} {fd : FuncData} (F : Fun K "goes_in_front" "goes_in_front" s_goes_in_front f fd) (h1 : Has P w K mg base 2 "path" ["base", "now", "due"] [] spPath) (h2 : Has P w K mg base 1 "word_at" ["levels", "level"] [] (spWordAt K)) :
    FnOk P w K mg base CX0 3 f fd ["base", "levels", "now", "due", "lowest"] (spFront K) := by
  obtain ⟨f_path, fd_path, ds_path, G_path, m_path, k_path, b_path, v_path⟩ := h1
  obtain ⟨f_word_at, fd_word_at, ds_word_at, G_word_at, m_word_at, k_word_at, b_word_at, v_word_at⟩ := h2
  refine F.ok sc_goes_in_front (fun vs H Q E h => ?_) (fun cdv A outer s H vs Q E hr h => ?_)
  · obtain ⟨b, n, d, lo, q, ws, rfl, _⟩ := h
    rfl
  · obtain ⟨b, n, d, lo, q, ws, rfl, hb, hb64, hnd, hd, hL, hne, c⟩ := h
    refine ⟨_, (pss_cons (ps_set (i := 5) sc_goes_in_front.nd rfl (.inl rfl) pe_bl)
      (pss_cons (ps_for PassesOwn.never rfl (pi_list (pe_call G_path hr (by rfl) m_path k_path b_path v_path pass0 (pa_cons (pv 0) (pa_cons (pv 2) (pa_cons (pv 3) pa_nil))))) (pg_tupK (K := K) (n := 3) rfl rfl (pgs_cons (pg_name (i := 6) sc_goes_in_front.nd rfl (.inl rfl)) (pgs_cons (pg_name (i := 7) sc_goes_in_front.nd rfl (.inl rfl)) (pgs_cons (pg_name (i := 8) sc_goes_in_front.nd rfl (.inl rfl)) pgs_nil))))
        (pss_one (ps_if (PW.pt (pw_and (pt_cmpR op_ge (pv 6) (pv 4) (nomark _)) (pw_and1 (pt_cmpR op_eq (pe_call G_word_at (hr.mono (by decide)) (by rfl) m_word_at k_word_at b_word_at v_word_at pass0 (pa_cons (pv 1) (pa_cons (pv 6) pa_nil))) pe_str (nomark _)))))
          (pss_one (ps_set (i := 5) sc_goes_in_front.nd rfl (.inl rfl) (pe_not (pv 5))))
          pss_nil)))
      (pss_one (ps_ret (pv 5))))), ?_⟩
    refine ⟨_, rfl, _, rfl, _, rfl, b, n, d, rfl, hb, hb64, hnd, hd, fun k hk H1 p ts s1 hp0 hp R => ?_⟩
    refine ⟨p, rfl, ⟨_, SqL.of hp⟩, for_list (K := K) (a := p) (xs := ts.map V.ref) (fun i σ H' => ∃ y6 y7 y8, σ = [some (.int (b : Nat)), some (.ref q), some (.int (n : Nat)), some (.int (d : Nat)), some (.int (lo : Nat)), some (.bl (frontOf ws lo ((rowsOf b n d k).take i))), y6, y7, y8] ∧ H' = H1)
      ⟨none, none, none, rfl, rfl⟩ (fun i σ H' _ ⟨_, _, _, _, e⟩ => by rw [e]; exact SqL.of hp) ?_ ?_⟩
    · rintro i x σ H' hx ⟨y6, y7, y8, rfl, rfl⟩
      obtain ⟨ti, r, rfl, hti, hr, er⟩ := R.item hx
      have hstep : frontOf ws lo ((rowsOf b n d k).take (i + 1)) = if (decide (lo ≤ r.1) && wordAt ws r.1) = true then !frontOf ws lo ((rowsOf b n d k).take i) else frontOf ws lo ((rowsOf b n d k).take i) := by
        rw [List.take_add_one, hr]
        exact front_snoc ws lo _ r
      refine ⟨ti, _, rfl, .inl (.inl er), rfl, _, _, rfl, _, _, rfl, _, _, rfl, rfl, ?_⟩
      have hL1 := s1.seq hL
      by_cases hlo : lo ≤ r.1
      · refine ⟨_, rfl, _, rfl, _, _, rfl, rfl, true, dT (by omega), iteT ?_⟩
        refine ⟨_, rfl, _, rfl, q, ws, r.1, rfl, hL1, hne, ?_, wordAt ws r.1, congrArg V.bl (lv_dec _), ?_⟩
        · cases wordAt ws r.1 <;> rfl
        cases hw : wordAt ws r.1 with
        | true =>
          refine iteT ⟨_, rfl, _, rfl, ⟨some (.int (r.1 : Nat)), some (.int (r.2.1 : Nat)), some (.int (r.2.2 : Nat)), ?_, rfl⟩⟩
          rw [hstep, hw, decide_eq_true hlo]
          rfl
        | false =>
          refine iteF ⟨some (.int (r.1 : Nat)), some (.int (r.2.1 : Nat)), some (.int (r.2.2 : Nat)), ?_, rfl⟩
          rw [hstep, hw, decide_eq_true hlo]
          rfl
      · refine ⟨_, rfl, _, rfl, _, _, rfl, rfl, false, dF (by omega), iteF (iteF ⟨some (.int (r.1 : Nat)), some (.int (r.2.1 : Nat)), some (.int (r.2.2 : Nat)), ?_, rfl⟩)⟩
        rw [hstep, decide_eq_false hlo]
        rfl
    · rintro σ H' ⟨y6, y7, y8, rfl, rfl⟩
      have e : (rowsOf b n d k).take (ts.map V.ref).length = rowsOf b n d k := by
        refine List.take_of_length_le ?_
        rw [List.length_map]
        exact Nat.le_of_eq R.len.symm
      rw [e]
      exact ⟨_, rfl, c k hk _ s1⟩
end
/-! ### bases and levels of any value -/
theorem tyOf_same {K : PySem.W.Frag} {H H' : Hp} (s : Same H H') {x : V} {t : Value} (h : TyOf K H x t) : TyOf K H' x t := by
  cases h with
  | non => exact .non
  | bl x => exact .bl x
  | int i => exact .int i
  | str x => exact .str x
  | flt x => exact .flt x
  | lst e => exact .lst (s _ _ e)
  | frz e => exact .frz (s _ _ e)
  | tup e => exact .tup (s _ _ e)
  | dK e => exact .dK (s _ _ e)
  | dT e => exact .dT (s _ _ e)
  | ins e cl ha hn htk hm => exact .ins (s _ _ e) cl ha hn htk hm
theorem tyX_same {K : PySem.W.Frag} {H H' : Hp} (s : Same H H') {x : V} {t : Value} (h : TyX K H x t) : TyX K H' x t := by
  cases h with
  | base h => exact .base (tyOf_same s h)
  | byt b => exact .byt b
  | set e => exact .set (s _ _ e)
  | kList e c => exact .kList e c
  | kTuple e c => exact .kTuple e c
  | kDict e c => exact .kDict e c
  | fTuple e => exact .fTuple (s _ _ e)
  | fDict e => exact .fDict (s _ _ e)
/-- x is of a built-in type, and of none that isinstance(x, c) would take -/
def NotA (K : PySem.W.Frag) (H : Hp) (c : String) (x : V) : Prop := ∃ a : String, TyX K H x (.type a) ∧ kitB a c = some false
theorem NotA.same {K : PySem.W.Frag} {H H' : Hp} {c : String} {x : V} (s : Same H H') (h : NotA K H c x) : NotA K H' c x := by
  obtain ⟨a, h1, h2⟩ := h
  exact ⟨a, tyX_same s h1, h2⟩
theorem NoInt.same {K : PySem.W.Frag} {H H' : Hp} {x : V} (s : Same H H') (h : NoInt K H x) : NoInt K H' x := by
  obtain ⟨t, h1, h2⟩ := h
  exact ⟨t, tyX_same s h1, h2⟩
theorem BadTick.same {K : PySem.W.Frag} {H H' : Hp} {x : V} {l : Int} (s : Same H H') (h : BadTick K H x l) : BadTick K H' x l := h.imp (·.same s) id
/-- whether x is one of the two words -/
def wordB (x : V) : Bool := inV x [.str "stack", .str "queue"]
/-- what is no word of levels -/
def NoWord (K : PySem.W.Frag) (H : Hp) (x : V) : Prop := NotA K H "str" x ∨ ∃ s : Str, x = .str s ∧ wordB x = false
theorem NoWord.same {K : PySem.W.Frag} {H H' : Hp} {x : V} (s : Same H H') (h : NoWord K H x) : NoWord K H' x := h.imp (·.same s) id
theorem word_lv (b : Bool) : wordB (lvV b) = true := by
  cases b <;> decide
theorem no_word {K : PySem.W.Frag} {H : Hp} {x : V} (h : NoWord K H x) : wordB x = false := by
  rcases h with ⟨a, h1, h2⟩ | ⟨s, _, h⟩
  · cases x with
    | str s =>
      cases h1 with
      | base h1 =>
        cases h1
        exact absurd h2 (by decide +kernel)
    | _ => rfl
  · exact h
/-- what is no base -/
def BadBase (K : PySem.W.Frag) (H : Hp) (x : V) : Prop := NoInt K H x ∨ ∃ n : Int, x = .int n ∧ (n < 2 ∨ 64 < n)
theorem BadBase.same {K : PySem.W.Frag} {H H' : Hp} {x : V} (s : Same H H') (h : BadBase K H x) : BadBase K H' x := h.imp (·.same s) id
/-- what are no levels -/
def BadLevels (K : PySem.W.Frag) (H : Hp) (x : V) : Prop := NotA K H "list" x ∨ ∃ (q : Addr) (xs : List V), x = .ref q ∧ SqL K H q xs ∧ (xs.length = 0 ∨ 60 < xs.length ∨ (xs.length ≤ 60 ∧ (∀ v ∈ xs, (∃ b, v = lvV b) ∨ NoWord K H v) ∧ ∃ v ∈ xs, NoWord K H v))
theorem BadLevels.same {K : PySem.W.Frag} {H H' : Hp} {x : V} (s : Same H H') (h : BadLevels K H x) : BadLevels K H' x := by
  rcases h with h | ⟨q, xs, e, hs, h⟩
  · exact .inl (h.same s)
  · refine .inr ⟨q, xs, e, s.seq hs, ?_⟩
    rcases h with h | h | ⟨h1, h2, v, hv, h3⟩
    · exact .inl h
    · exact .inr (.inl h)
    · exact .inr (.inr ⟨h1, fun v hv => (h2 v hv).imp id (·.same s), v, hv, h3.same s⟩)
section
variable {P : Program} {w : World} {K : PySem.W.Frag} {mg : Str → Option Value} {base : Heap}
def spIsWordX (K : PySem.W.Frag) : Sp := fun vs H Q _ => ∃ x : V, vs = [x] ∧ ((∃ b, x = lvV b ∧ Q (.bl true) H) ∨ (NoWord K H x ∧ Q (.bl false) H))
theorem okA_is_word {f : Addr} {fd : FuncData} (F : Fun K "is_word" "is_word" s_is_word f fd) (T : Tx K mg) (hW : WordsAt K mg) : FnOk P w K mg base CX0 1 f fd ["given"] (spIsWordX K) := by
  obtain ⟨a_WORDS, g_WORDS, sW⟩ := hW
  refine F.ok sc_is_word (fun vs H Q E h => ?_) (fun cdv A outer s H vs Q E hr h => ?_)
  · obtain ⟨x, rfl, _⟩ := h
    rfl
  · obtain ⟨x, rfl, hx⟩ := h
    refine ⟨_, (pss_one (ps_ret (pe_and (pe_callB (isiK (K := K) rfl) (by rfl) T.b_isinstance (by decide +kernel) (pa_cons (pv 0) (pa_cons (pe_bltn (v := .ty "str") (u := .type "str") (by rfl) T.b_str (by decide +kernel) rfl) pa_nil))) (pe_one (pe_cmpR op_in_seq (pv 0) (pe_glob (v := .ref a_WORDS) rfl g_WORDS rfl) (by rfl)))))), ?_⟩
    have word : ∀ (s : Str) (b : Bool), wordB (.str s) = b → Q (.bl b) H → ∃ (p : Addr) (xs : List V), V.ref a_WORDS = .ref p ∧ (SqL K H p xs ∨ SqT K H p xs) ∧ flatV (.str s) = true ∧ xs.all flatV = true ∧ Q (.bl (if false then !inV (.str s) xs else inV (.str s) xs)) H := fun s b e q => by
      refine ⟨a_WORDS, _, rfl, .inr (sW _), rfl, rfl, ?_⟩
      have e2 : (if false then !inV (V.str s) [.str "stack", .str "queue"] else inV (V.str s) [.str "stack", .str "queue"]) = b := e
      rw [e2]
      exact q
    rcases hx with ⟨b, rfl, q⟩ | ⟨⟨a, ht, hk⟩ | ⟨s, rfl, hs⟩, q⟩
    · obtain ⟨x, ex, hx⟩ : ∃ x : Str, lvV b = .str x ∧ wordB (.str x) = true := by
        cases b
        · exact ⟨_, rfl, by decide⟩
        · exact ⟨_, rfl, by decide⟩
      rw [ex]
      exact ⟨.str x, rfl, _, _, _, _, true, rfl, .ty "str", .base (.str x), kit_ty (by decide +kernel), true, rfl, iteT ⟨.str x, rfl, word x true hx q⟩⟩
    · exact ⟨x, rfl, x, _, _, _, false, rfl, .ty "str", ht, kit_ty hk, false, rfl, iteF q⟩
    · exact ⟨.str s, rfl, _, _, _, _, true, rfl, .ty "str", .base (.str s), kit_ty (by decide +kernel), true, rfl, iteT ⟨.str s, rfl, word s false hs q⟩⟩
def spIsBaseX (K : PySem.W.Frag) : Sp := fun vs H Q _ => ∃ x : V, vs = [x] ∧ ((∃ n : Int, x = .int n ∧ 2 ≤ n ∧ n ≤ 64 ∧ Q (.bl true) H) ∨ (BadBase K H x ∧ Q (.bl false) H))
theorem okA_is_base {f : Addr} {fd : FuncData} (F : Fun K "is_base" "is_base" s_is_base f fd) (h1 : Has P w K mg base 1 "is_integer" ["given"] [] (spIsIntX K)) : FnOk P w K mg base CX0 2 f fd ["given"] (spIsBaseX K) := by
  obtain ⟨f_is_integer, fd_is_integer, ds_is_integer, G_is_integer, m_is_integer, k_is_integer, b_is_integer, v_is_integer⟩ := h1
  refine F.ok sc_is_base (fun vs H Q E h => ?_) (fun cdv A outer s H vs Q E hr h => ?_)
  · obtain ⟨x, rfl, _⟩ := h
    rfl
  · obtain ⟨x, rfl, hx⟩ := h
    refine ⟨_, (pss_one (ps_ret (pe_and (pe_call G_is_integer hr (by rfl) m_is_integer k_is_integer b_is_integer v_is_integer pass0 (pa_cons (pv 0) pa_nil)) (pe_one (pe_chain op_le op_le pe_int (pv 0) pe_int))))), ?_⟩
    have e2 : ∀ (n : Int) (b : Bool), decide (n ≤ 64) = b → Q (.bl b) H → Q (V.bl (decide (n ≤ 64))) H := fun n b e q => by
      rw [e]
      exact q
    rcases hx with ⟨n, rfl, l1, l2, q⟩ | ⟨hn | ⟨n, rfl, hn⟩, q⟩
    · refine ⟨.int n, rfl, .int n, rfl, .inl ⟨n, rfl, true, rfl, iteT ?_⟩⟩
      refine ⟨.int n, rfl, 2, n, rfl, rfl, true, congrArg V.bl (decide_eq_true l1), iteT ?_⟩
      exact ⟨n, 64, rfl, rfl, e2 n true (decide_eq_true l2) q⟩
    · exact ⟨x, rfl, x, rfl, .inr ⟨hn, false, rfl, iteF q⟩⟩
    · refine ⟨.int n, rfl, .int n, rfl, .inl ⟨n, rfl, true, rfl, iteT ?_⟩⟩
      by_cases l1 : 2 ≤ n
      · refine ⟨.int n, rfl, 2, n, rfl, rfl, true, congrArg V.bl (decide_eq_true l1), iteT ?_⟩
        exact ⟨n, 64, rfl, rfl, e2 n false (decide_eq_false (by omega)) q⟩
      · exact ⟨.int n, rfl, 2, n, rfl, rfl, false, congrArg V.bl (decide_eq_false l1), iteF q⟩
def spCheckBaseX (K : PySem.W.Frag) (CN : Addr) : Sp := fun vs H Q E => ∃ x : V, vs = [x] ∧ ((∃ n : Int, x = .int n ∧ 2 ≤ n ∧ n ≤ 64 ∧ Q .non H) ∨ (BadBase K H x ∧ E (.ref CN) none H))
theorem okX_check_base {f c_NoBase : Addr} {fd : FuncData} (F : Fun K "check_base" "check_base" s_check_base f fd) (T : Tx K mg) (X_NoBase : EC K mg "NoBase" c_NoBase) (h1 : Has P w K mg base 2 "is_base" ["given"] [] (spIsBaseX K)) : FnOk P w K mg base (L2.CX P w) 3 f fd ["base"] (spCheckBaseX K c_NoBase) := by
  obtain ⟨f_is_base, fd_is_base, ds_is_base, G_is_base, m_is_base, k_is_base, b_is_base, v_is_base⟩ := h1
  refine F.okX sc_check_base (fun vs H Q E h => ?_) (fun cdv A outer s H vs Q E hr h => ?_)
  · obtain ⟨x, rfl, _⟩ := h
    rfl
  · obtain ⟨x, rfl, hx⟩ := h
    refine ⟨_, (pss_one (ps_if (pt_not (pt_val (pe_call G_is_base hr (by rfl) m_is_base k_is_base b_is_base v_is_base pass0 (pa_cons (pv 0) pa_nil))))
        (pss_one (ps_raise rfl (takes_of rfl rfl rfl rfl) (pmk_own PySem.F.excBase_ValueError X_NoBase.x X_NoBase.g X_NoBase.k (raises_own X_NoBase.b X_NoBase.t) rfl)))
        pss_nil)), ?_⟩
    rcases hx with ⟨n, rfl, l1, l2, q⟩ | ⟨hn, q⟩
    · exact ⟨.int n, rfl, .int n, rfl, .inl ⟨n, rfl, l1, l2, true, rfl, iteF q⟩⟩
    · exact ⟨x, rfl, x, rfl, .inr ⟨hn, false, rfl, iteT q⟩⟩
/-- what is no length of levels -/
def BadLength (K : PySem.W.Frag) (H : Hp) (x : V) : Prop := NoInt K H x ∨ ∃ n : Int, x = .int n ∧ (n < 1 ∨ 60 < n)
theorem BadLength.same {K : PySem.W.Frag} {H H' : Hp} {x : V} (s : Same H H') (h : BadLength K H x) : BadLength K H' x := h.imp (·.same s) id
def spIsLengthX (K : PySem.W.Frag) : Sp := fun vs H Q _ => ∃ x : V, vs = [x] ∧ ((∃ n : Int, x = .int n ∧ 1 ≤ n ∧ n ≤ 60 ∧ Q (.bl true) H) ∨ (BadLength K H x ∧ Q (.bl false) H))
theorem okA_is_length {f : Addr} {fd : FuncData} (F : Fun K "is_length" "is_length" s_is_length f fd) (hM : MostAt mg) (h1 : Has P w K mg base 1 "is_integer" ["given"] [] (spIsIntX K)) : FnOk P w K mg base CX0 2 f fd ["given"] (spIsLengthX K) := by
  obtain ⟨tM, g_MOST_LEVELS⟩ := hM
  obtain ⟨f_is_integer, fd_is_integer, ds_is_integer, G_is_integer, m_is_integer, k_is_integer, b_is_integer, v_is_integer⟩ := h1
  refine F.ok sc_is_length (fun vs H Q E h => ?_) (fun cdv A outer s H vs Q E hr h => ?_)
  · obtain ⟨x, rfl, _⟩ := h
    rfl
  · obtain ⟨x, rfl, hx⟩ := h
    refine ⟨_, (pss_one (ps_ret (pe_and (pe_call G_is_integer hr (by rfl) m_is_integer k_is_integer b_is_integer v_is_integer pass0 (pa_cons (pv 0) pa_nil)) (pe_one (pe_chain op_le op_le pe_int (pv 0) (pe_glob (v := .int 60) rfl g_MOST_LEVELS ⟨_, rfl⟩)))))), ?_⟩
    have e2 : ∀ (n : Int) (b : Bool), decide (n ≤ 60) = b → Q (.bl b) H → Q (V.bl (decide (n ≤ 60))) H := fun n b e q => by
      rw [e]
      exact q
    rcases hx with ⟨n, rfl, l1, l2, q⟩ | ⟨hn | ⟨n, rfl, hn⟩, q⟩
    · refine ⟨.int n, rfl, .int n, rfl, .inl ⟨n, rfl, true, rfl, iteT ?_⟩⟩
      refine ⟨.int n, rfl, 1, n, rfl, rfl, true, congrArg V.bl (decide_eq_true l1), iteT ?_⟩
      exact ⟨n, 60, rfl, rfl, e2 n true (decide_eq_true l2) q⟩
    · exact ⟨x, rfl, x, rfl, .inr ⟨hn, false, rfl, iteF q⟩⟩
    · refine ⟨.int n, rfl, .int n, rfl, .inl ⟨n, rfl, true, rfl, iteT ?_⟩⟩
      by_cases l1 : 1 ≤ n
      · refine ⟨.int n, rfl, 1, n, rfl, rfl, true, congrArg V.bl (decide_eq_true l1), iteT ?_⟩
        exact ⟨n, 60, rfl, rfl, e2 n false (decide_eq_false (by omega)) q⟩
      · exact ⟨.int n, rfl, 1, n, rfl, rfl, false, congrArg V.bl (decide_eq_false l1), iteF q⟩
def spAreLevelsX (K : PySem.W.Frag) : Sp := fun vs H Q _ => ∃ x : V, vs = [x] ∧ ((∃ (q : Addr) (ws : List Bool), x = .ref q ∧ SqL K H q (ws.map lvV) ∧ ws ≠ [] ∧ ws.length ≤ 60 ∧ ∀ H', Same H H' → Q (.bl true) H') ∨ (BadLevels K H x ∧ ∀ H', Same H H' → Q (.bl false) H'))
theorem okA_are_levels {f : Addr} {fd : FuncData} (F : Fun K "are_levels" "are_levels" s_are_levels f fd) (T : Tx K mg) (h0 : Has P w K mg base 2 "is_length" ["given"] [] (spIsLengthX K)) (h1 : Has P w K mg base 1 "is_word" ["given"] [] (spIsWordX K)) : FnOk P w K mg base CX0 3 f fd ["given"] (spAreLevelsX K) := by
  obtain ⟨f_is_length, fd_is_length, ds_is_length, G_is_length, m_is_length, k_is_length, b_is_length, v_is_length⟩ := h0
  obtain ⟨f_is_word, fd_is_word, ds_is_word, G_is_word, m_is_word, k_is_word, b_is_word, v_is_word⟩ := h1
  refine F.ok sc_are_levels (fun vs H Q E h => ?_) (fun cdv A outer s H vs Q E hr h => ?_)
  · obtain ⟨x, rfl, _⟩ := h
    rfl
  · obtain ⟨x, rfl, hx⟩ := h
    have hx2 : (NotA K H "list" x ∧ Q (.bl false) H) ∨ (∃ (q : Addr) (xs : List V), x = .ref q ∧ SqL K H q xs ∧ (xs.length = 0 ∨ 60 < xs.length) ∧ Q (.bl false) H) ∨
        (∃ (q : Addr) (xs : List V), x = .ref q ∧ SqL K H q xs ∧ 1 ≤ xs.length ∧ xs.length ≤ 60 ∧ (∀ v ∈ xs, (∃ b, v = lvV b) ∨ NoWord K H v) ∧ ∀ H', Same H H' → if xs.all wordB = true then Q (.bl true) H' else Q (.bl false) H') := by
      rcases hx with ⟨q, ws, rfl, hL, hne, h60, c⟩ | ⟨hn | ⟨q, xs, rfl, hL, hb | hb | ⟨h60, hw, v, hv, hno⟩⟩, c⟩
      · refine .inr (.inr ⟨q, _, rfl, hL, ?_, ?_, fun v hv => ?_, fun H' s1 => ?_⟩)
        · rw [List.length_map]
          exact List.length_pos_iff.mpr hne
        · rw [List.length_map]
          exact h60
        · obtain ⟨b, _, e⟩ := List.mem_map.mp hv
          exact .inl ⟨b, e.symm⟩
        · rw [if_pos (List.all_eq_true.mpr fun v hv => by obtain ⟨b, _, e⟩ := List.mem_map.mp hv; rw [← e]; exact word_lv b)]
          exact c H' s1
      · exact .inl ⟨hn, c H fun _ _ e => e⟩
      · exact .inr (.inl ⟨q, xs, rfl, hL, .inl hb, c H fun _ _ e => e⟩)
      · exact .inr (.inl ⟨q, xs, rfl, hL, .inr hb, c H fun _ _ e => e⟩)
      · refine .inr (.inr ⟨q, xs, rfl, hL, List.length_pos_of_mem hv, h60, hw, fun H' s1 => ?_⟩)
        rw [if_neg fun e => by
          have z := List.all_eq_true.mp e v hv
          rw [no_word hno] at z
          cases z]
        exact c H' s1
    clear hx
    refine ⟨_, (pss_cons (ps_if (PW.pt (pw_or (pt_not (pt_val (pe_callB (isiK (K := K) rfl) (by rfl) T.b_isinstance (by decide +kernel) (pa_cons (pv 0) (pa_cons (pe_bltn (v := .ty "list") (u := .type "list") (by rfl) T.b_list (by decide +kernel) rfl) pa_nil))))) (pw_or1 (pt_not (pt_val (pe_call G_is_length hr (by rfl) m_is_length k_is_length b_is_length v_is_length pass0 (pa_cons (pe_callB (lenK (K := K) rfl) (by rfl) T.b_len PySem.boot_len (pa_cons (pv 0) pa_nil)) pa_nil)))))))
        (pss_one (ps_ret pe_bl))
        pss_nil)
      (pss_one (ps_ret (pe_callB (allK (K := K) rfl rfl) (by rfl) T.b_all (by decide +kernel) (pa_cons (pe_lc (own := [("word", 1)]) (g := gName 1) (tt := tYes) rfl sc_are_levels.nd (pi_list (pv 0)) (blkOk_by (own := [("word", 1)]) (N := N_are_levels) (sc := defScope s_are_levels) (by decide +kernel)) (fun _ _ _ _ _ => (pg_name (i := 1) sc_are_levels.nd rfl (.inl rfl))) (fun _ _ _ _ _ => pts_nil) (fun _ _ _ _ _ => (pe_call G_is_word (hr.mono (by decide)) (by rfl) m_is_word k_is_word b_is_word v_is_word pass0 (pa_cons (pv 1) pa_nil)))) pa_nil))))), ?_⟩
    rcases hx2 with ⟨⟨a, ht, hk⟩, q⟩ | ⟨q, xs, rfl, hL, hb, c⟩ | ⟨q, xs, rfl, hL, h0, h60, hw, c⟩
    · exact ⟨x, rfl, _, _, _, _, false, rfl, .ty "list", ht, kit_ty hk, false, rfl, iteT q⟩
    · refine ⟨.ref q, rfl, _, _, _, _, true, rfl, .ty "list", tyx_list hL, kit_ty (by decide +kernel), true, rfl, iteF ?_⟩
      exact ⟨.ref q, rfl, q, _, rfl, .inl hL, _, rfl, .inr ⟨.inr ⟨_, rfl, by omega⟩, false, rfl, iteT c⟩⟩
    refine ⟨.ref q, rfl, _, _, _, _, true, rfl, .ty "list", tyx_list hL, kit_ty (by decide +kernel), true, rfl, iteF ?_⟩
    refine ⟨.ref q, rfl, q, _, rfl, .inl hL, _, rfl, .inl ⟨_, rfl, by omega, by omega, true, rfl, iteF ?_⟩⟩
    refine ⟨.ref q, rfl, q, rfl, ⟨_, hL⟩, fun D hD => lc_list (K := K) (a := q) (xs := xs) (fun i H' => Same H H' ∧ H' D = some (.lst (((xs.take i).map wordB).map V.bl)))
      ⟨same_upd hD, upd_same⟩ (fun i H' _ ⟨sm, _⟩ => sm.seq hL) ?_ ?_⟩
    · rintro i x H' hx ⟨sm, eD⟩
      have hi : i < xs.length := (List.getElem?_eq_some_iff.mp hx).1
      refine ⟨rfl, yesT (iteT ?_)⟩
      have fin : ∃ acc, H' D = some (.lst acc) ∧ acc.length < sizeLine ∧ (Same H (upd H' D (.lst (acc ++ [V.bl (wordB x)]))) ∧ (upd H' D (.lst (acc ++ [V.bl (wordB x)]))) D = some (.lst (((xs.take (i + 1)).map wordB).map V.bl))) := by
        refine ⟨_, eD, ?_, fun c o e => ?_, ?_⟩
        · rw [List.length_map, List.length_map, List.length_take]
          exact sizeLine_ge (by omega)
        · rw [upd_ne (ne_of_none e hD)]
          exact sm _ _ e
        · rw [upd_same, List.take_add_one, hx, List.map_append, List.map_append]
          rfl
      rcases hw x (List.mem_of_getElem? hx) with ⟨b, rfl⟩ | hno
      · rw [word_lv b] at fin
        exact ⟨_, rfl, _, rfl, .inl ⟨b, rfl, fin⟩⟩
      · rw [no_word hno] at fin
        exact ⟨_, rfl, _, rfl, .inr ⟨hno.same sm, fin⟩⟩
    · rintro H1 ⟨s1, eD⟩
      rw [List.take_length] at eD
      have c1 := c H1 s1
      refine ⟨D, _, rfl, SqL.of eD, ?_⟩
      have ea : (xs.map wordB).all id = xs.all wordB := by
        rw [List.all_map]
        rfl
      rw [ea]
      cases hb : xs.all wordB with
      | true =>
        rw [if_pos hb] at c1
        exact c1
      | false =>
        rw [if_neg (by rw [hb]; exact Bool.false_ne_true)] at c1
        exact c1
def spCheckLevelsX (K : PySem.W.Frag) (CN : Addr) : Sp := fun vs H Q E => ∃ x : V, vs = [x] ∧ ((∃ (q : Addr) (ws : List Bool), x = .ref q ∧ SqL K H q (ws.map lvV) ∧ ws ≠ [] ∧ ws.length ≤ 60 ∧ ∀ H', Same H H' → Q .non H') ∨ (BadLevels K H x ∧ ∀ H', Same H H' → E (.ref CN) none H'))
theorem okX_check_levels {f c_NoLevels : Addr} {fd : FuncData} (F : Fun K "check_levels" "check_levels" s_check_levels f fd) (T : Tx K mg) (X_NoLevels : EC K mg "NoLevels" c_NoLevels) (h1 : Has P w K mg base 3 "are_levels" ["given"] [] (spAreLevelsX K)) : FnOk P w K mg base (L2.CX P w) 4 f fd ["levels"] (spCheckLevelsX K c_NoLevels) := by
  obtain ⟨f_are_levels, fd_are_levels, ds_are_levels, G_are_levels, m_are_levels, k_are_levels, b_are_levels, v_are_levels⟩ := h1
  refine F.okX sc_check_levels (fun vs H Q E h => ?_) (fun cdv A outer s H vs Q E hr h => ?_)
  · obtain ⟨x, rfl, _⟩ := h
    rfl
  · obtain ⟨x, rfl, hx⟩ := h
    refine ⟨_, (pss_one (ps_if (pt_not (pt_val (pe_call G_are_levels hr (by rfl) m_are_levels k_are_levels b_are_levels v_are_levels pass0 (pa_cons (pv 0) pa_nil))))
        (pss_one (ps_raise rfl (takes_of rfl rfl rfl rfl) (pmk_own PySem.F.excBase_ValueError X_NoLevels.x X_NoLevels.g X_NoLevels.k (raises_own X_NoLevels.b X_NoLevels.t) rfl)))
        pss_nil)), ?_⟩
    rcases hx with ⟨q, ws, rfl, hL, hne, h60, c⟩ | ⟨hn, c⟩
    · exact ⟨_, rfl, _, rfl, .inl ⟨q, ws, rfl, hL, hne, h60, fun H1 s1 => ⟨true, rfl, iteF (c H1 s1)⟩⟩⟩
    · exact ⟨_, rfl, _, rfl, .inr ⟨hn, fun H1 s1 => ⟨false, rfl, iteT (c H1 s1)⟩⟩⟩
end
/-! ### stations and sides, of any values -/
section
variable {P : Program} {w : World} {K : PySem.W.Frag} {mg : Str → Option Value} {base : Heap}
/-- base, now, due: what the first bad one raises -/
def spStationsX (K : PySem.W.Frag) (CB CT : Addr) : Sp := fun vs H Q E => ∃ x0 x1 x2 : V, vs = [x0, x1, x2] ∧ (
  (BadBase K H x0 ∧ E (.ref CB) none H) ∨ ∃ b : Nat, x0 = .int (b : Nat) ∧ 2 ≤ b ∧ b ≤ 64 ∧ (
  (BadTick K H x1 0 ∧ E (.ref CT) none H) ∨ ∃ n : Nat, x1 = .int (n : Nat) ∧ (
  (BadTick K H x2 ((n : Int) + 1) ∧ E (.ref CT) none H) ∨ ∃ d : Nat, x2 = .int (d : Nat) ∧ n < d ∧ d < 2 ^ 250 ∧
    ∀ k, IsLev b n d k → ∀ H' p ts, Same H H' → H p = none → H' p = some (.lst (ts.map V.ref)) → RowsAt H' ts (rowsOf b n d k) → Q (.ref p) H')))
theorem okX_stations {f CB CT : Addr} {fd : FuncData} (F : Fun K "stations" "stations" s_stations f fd) (h1 : HasX P w K mg base 3 "check_base" ["base"] [] (spCheckBaseX K CB))
    (h2 : HasX P w K mg base 3 "check_tick" ["tick", "least"] [.int 0] (spCheckTickX K CT)) (h3 : HasX P w K mg base 3 "check_tick" ["tick", "least"] [] (spCheckTickX K CT)) (h4 : Has P w K mg base 2 "path" ["base", "now", "due"] [] spPath) :
    FnOk P w K mg base (L2.CX P w) 4 f fd ["base", "now", "due"] (spStationsX K CB CT) := by
  obtain ⟨f_check_base, fd_check_base, ds_check_base, G_check_base, m_check_base, k_check_base, b_check_base, v_check_base⟩ := h1
  obtain ⟨f_check_tick1, fd_check_tick1, ds_check_tick1, G_check_tick1, m_check_tick1, k_check_tick1, b_check_tick1, v_check_tick1⟩ := h2
  obtain ⟨f_check_tick, fd_check_tick, ds_check_tick, G_check_tick, m_check_tick, k_check_tick, b_check_tick, v_check_tick⟩ := h3
  obtain ⟨f_path, fd_path, ds_path, G_path, m_path, k_path, b_path, v_path⟩ := h4
  refine F.okX sc_stations (fun vs H Q E h => ?_) (fun cdv A outer s H vs Q E hr h => ?_)
  · obtain ⟨x0, x1, x2, rfl, _⟩ := h
    rfl
  · obtain ⟨x0, x1, x2, rfl, h⟩ := h
    refine ⟨_, (pss_cons (ps_expr (pe_call G_check_base hr (by rfl) m_check_base k_check_base b_check_base v_check_base (passes_call (takes_of rfl rfl rfl rfl) (fun _ _ _ _ h => h)) (pa_cons (pv 0) pa_nil)))
      (pss_cons (ps_expr (pe_call G_check_tick1 hr (by rfl) m_check_tick1 k_check_tick1 b_check_tick1 v_check_tick1 (passes_call (takes_of rfl rfl rfl rfl) (fun _ _ _ _ h => h)) (pa_cons (pv 1) pa_nil)))
      (pss_cons (ps_expr (pe_call G_check_tick hr (by rfl) m_check_tick k_check_tick b_check_tick v_check_tick (passes_call (takes_of rfl rfl rfl rfl) (fun _ _ _ _ h => h)) (pa_cons (pv 2) (pa_cons (pe_op op_addN (pv 1) pe_int) pa_nil))))
      (pss_one (ps_ret (pe_call G_path (hr.mono (by decide)) (by rfl) m_path k_path b_path v_path pass0 (pa_cons (pv 0) (pa_cons (pv 1) (pa_cons (pv 2) pa_nil))))))))), ?_⟩
    rcases h with hb | ⟨b, rfl, hb, hb64, h⟩
    · exact ⟨_, rfl, x0, rfl, .inr hb⟩
    refine ⟨_, rfl, _, rfl, .inl ⟨b, rfl, by omega, by omega, ?_⟩⟩
    rcases h with hn | ⟨n, rfl, h⟩
    · exact ⟨_, rfl, x1, 0, rfl, .inr hn⟩
    refine ⟨_, rfl, _, 0, rfl, .inl ⟨n, rfl, by omega, ?_⟩⟩
    rcases h with hd | ⟨d, rfl, hnd, hd, q⟩
    · exact ⟨_, rfl, _, rfl, n, 1, rfl, rfl, trivial, x2, _, rfl, .inr hd⟩
    refine ⟨_, rfl, _, rfl, n, 1, rfl, rfl, trivial, _, _, rfl, .inl ⟨d, rfl, by show ((n + 1 : Nat) : Int) ≤ _; omega, ?_⟩⟩
    exact ⟨_, rfl, _, rfl, _, rfl, b, n, d, rfl, hb, hb64, hnd, hd, q⟩
end
section
variable {P : Program} {w : World} {K : PySem.W.Frag} {mg : Str → Option Value} {base : Heap}
/-- base, levels, now, due: what the first bad one raises -/
def spSideX (K : PySem.W.Frag) (CB CL CT : Addr) : Sp := fun vs H Q E => ∃ x0 xl x1 x2 : V, vs = [x0, xl, x1, x2] ∧ (
  (BadBase K H x0 ∧ E (.ref CB) none H) ∨ ∃ b : Nat, x0 = .int (b : Nat) ∧ 2 ≤ b ∧ b ≤ 64 ∧ (
  (BadLevels K H xl ∧ ∀ H', Same H H' → E (.ref CL) none H') ∨ ∃ (q : Addr) (ws : List Bool), xl = .ref q ∧ SqL K H q (ws.map lvV) ∧ ws ≠ [] ∧ ws.length ≤ 60 ∧ (
  (BadTick K H x1 0 ∧ ∀ H', Same H H' → E (.ref CT) none H') ∨ ∃ n : Nat, x1 = .int (n : Nat) ∧ (
  (BadTick K H x2 ((n : Int) + 1) ∧ ∀ H', Same H H' → E (.ref CT) none H') ∨ ∃ d : Nat, x2 = .int (d : Nat) ∧ n < d ∧ d < 2 ^ 250 ∧
    ∀ k, IsLev b n d k → ∀ H', Same H H' → Q (sdV (frontOf ws 0 (rowsOf b n d k))) H'))))
theorem okX_side {f CB CL CT : Addr} {fd : FuncData} (F : Fun K "side" "side" s_side f fd) (h1 : HasX P w K mg base 3 "check_base" ["base"] [] (spCheckBaseX K CB))
    (h2 : HasX P w K mg base 3 "check_tick" ["tick", "least"] [.int 0] (spCheckTickX K CT)) (h3 : HasX P w K mg base 3 "check_tick" ["tick", "least"] [] (spCheckTickX K CT)) (h4 : HasX P w K mg base 4 "check_levels" ["levels"] [] (spCheckLevelsX K CL))
    (h5 : Has P w K mg base 3 "goes_in_front" ["base", "levels", "now", "due", "lowest"] [] (spFront K)) : FnOk P w K mg base (L2.CX P w) 5 f fd ["base", "levels", "now", "due"] (spSideX K CB CL CT) := by
  obtain ⟨f_check_base, fd_check_base, ds_check_base, G_check_base, m_check_base, k_check_base, b_check_base, v_check_base⟩ := h1
  obtain ⟨f_check_tick1, fd_check_tick1, ds_check_tick1, G_check_tick1, m_check_tick1, k_check_tick1, b_check_tick1, v_check_tick1⟩ := h2
  obtain ⟨f_check_tick, fd_check_tick, ds_check_tick, G_check_tick, m_check_tick, k_check_tick, b_check_tick, v_check_tick⟩ := h3
  obtain ⟨f_check_levels, fd_check_levels, ds_check_levels, G_check_levels, m_check_levels, k_check_levels, b_check_levels, v_check_levels⟩ := h4
  obtain ⟨f_goes_in_front, fd_goes_in_front, ds_goes_in_front, G_goes_in_front, m_goes_in_front, k_goes_in_front, b_goes_in_front, v_goes_in_front⟩ := h5
  refine F.okX sc_side (fun vs H Q E h => ?_) (fun cdv A outer s H vs Q E hr h => ?_)
  · obtain ⟨x0, xl, x1, x2, rfl, _⟩ := h
    rfl
  · obtain ⟨x0, xl, x1, x2, rfl, h⟩ := h
    refine ⟨_, (pss_cons (ps_expr (pe_call G_check_base (hr.mono (by decide)) (by rfl) m_check_base k_check_base b_check_base v_check_base (passes_call (takes_of rfl rfl rfl rfl) (fun _ _ _ _ h => h)) (pa_cons (pv 0) pa_nil)))
      (pss_cons (ps_expr (pe_call G_check_levels hr (by rfl) m_check_levels k_check_levels b_check_levels v_check_levels (passes_call (takes_of rfl rfl rfl rfl) (fun _ _ _ _ h => h)) (pa_cons (pv 1) pa_nil)))
      (pss_cons (ps_expr (pe_call G_check_tick1 (hr.mono (by decide)) (by rfl) m_check_tick1 k_check_tick1 b_check_tick1 v_check_tick1 (passes_call (takes_of rfl rfl rfl rfl) (fun _ _ _ _ h => h)) (pa_cons (pv 2) pa_nil)))
      (pss_cons (ps_expr (pe_call G_check_tick (hr.mono (by decide)) (by rfl) m_check_tick k_check_tick b_check_tick v_check_tick (passes_call (takes_of rfl rfl rfl rfl) (fun _ _ _ _ h => h)) (pa_cons (pv 3) (pa_cons (pe_op op_addN (pv 2) pe_int) pa_nil))))
      (pss_cons (ps_if (pt_val (pe_call G_goes_in_front (hr.mono (by decide)) (by rfl) m_goes_in_front k_goes_in_front b_goes_in_front v_goes_in_front pass0 (pa_cons (pv 0) (pa_cons (pv 1) (pa_cons (pv 2) (pa_cons (pv 3) (pa_cons pe_int pa_nil)))))))
        (pss_one (ps_ret pe_str))
        pss_nil)
      (pss_one (ps_ret pe_str))))))), ?_⟩
    rcases h with hb | ⟨b, rfl, hb, hb64, h⟩
    · exact ⟨_, rfl, x0, rfl, .inr hb⟩
    refine ⟨_, rfl, _, rfl, .inl ⟨b, rfl, by omega, by omega, ?_⟩⟩
    rcases h with hl | ⟨q, ws, rfl, hL, hne, h60, h⟩
    · exact ⟨_, rfl, xl, rfl, .inr hl⟩
    refine ⟨_, rfl, _, rfl, .inl ⟨q, ws, rfl, hL, hne, h60, fun H1 s1 => ?_⟩⟩
    rcases h with ⟨hn, e⟩ | ⟨n, rfl, h⟩
    · exact ⟨_, rfl, x1, 0, rfl, .inr ⟨hn.same s1, e H1 s1⟩⟩
    refine ⟨_, rfl, _, 0, rfl, .inl ⟨n, rfl, by omega, ?_⟩⟩
    rcases h with ⟨hd, e⟩ | ⟨d, rfl, hnd, hd, c⟩
    · exact ⟨_, rfl, _, rfl, n, 1, rfl, rfl, trivial, x2, _, rfl, .inr ⟨hd.same s1, e H1 s1⟩⟩
    refine ⟨_, rfl, _, rfl, n, 1, rfl, rfl, trivial, _, _, rfl, .inl ⟨d, rfl, by show ((n + 1 : Nat) : Int) ≤ _; omega, ?_⟩⟩
    refine ⟨_, rfl, _, rfl, _, rfl, _, rfl, b, n, d, 0, q, ws, rfl, hb, hb64, hnd, hd, s1.seq hL, hne, fun k hk H2 s2 => ?_⟩
    have z := c k hk H2 (s1.trans s2)
    refine ⟨_, rfl, ?_⟩
    cases e : frontOf ws 0 (rowsOf b n d k) with
    | true =>
      rw [e] at z
      exact iteT z
    | false =>
      rw [e] at z
      exact iteF z
end
/-! ### the program: with_digit, moves_in -/
section
variable {P : Program} {w : World} {K : PySem.W.Frag} {mg : Str → Option Value} {base : Heap}
def spWd : Sp := fun vs H Q _ => ∃ b s x : Nat, vs = [.int (b : Nat), .int (s : Nat), .int (x : Nat)] ∧ 2 ≤ b ∧ b ≤ 64 ∧ 0 < s ∧ s < 2 ^ 210 ∧ x < 2 ^ 210 ∧ ∀ H', Same H H' → Q (.int (wdN b s x : Nat)) H'
theorem ok_with_digit {f : Addr} {fd : FuncData} (F : Fun K "with_digit" "with_digit" s_with_digit f fd) (T : Tx K mg) : FnOk P w K mg base CX0 1 f fd ["base", "size", "behind"] spWd := by
  refine F.ok sc_with_digit (fun vs H Q E h => ?_) (fun cdv A outer s H vs Q E hr h => ?_)
  · obtain ⟨b, s, x, rfl, _⟩ := h
    rfl
  · obtain ⟨b, s, x, rfl, hb, hb64, hs, hs2, hx, q⟩ := h
    have hsb : 0 < s * b := Nat.mul_pos hs (by omega)
    have h1 : x / (s * b) < 2 ^ 210 := Nat.lt_of_le_of_lt (Nat.div_le_self _ _) hx
    have h2 : x / (s * b) * s < 2 ^ 420 := by
      have z := Nat.mul_lt_mul'' h1 hs2
      rw [← Nat.pow_add] at z
      exact z
    refine ⟨_, (pss_cons (ps_asg (pe_callB call_divmodW (by rfl) T.b_divmod (by decide +kernel) (pa_cons (pv 2) (pa_cons (pe_op op_mulN (pv 1) (pv 0)) pa_nil))) (pg_tupK (K := K) (n := 2) rfl rfl (pgs_cons (pg_name (i := 3) sc_with_digit.nd rfl (.inl rfl)) (pgs_cons (pg_name (i := 4) sc_with_digit.nd rfl (.inl rfl)) pgs_nil))))
      (pss_one (ps_ret (pe_op op_addN (pe_op op_mulN (pe_op op_mulN (pv 3) (pv 1)) (pe_op op_subN (pv 0) pe_int)) (pe_callB (call_max2 rfl) (by rfl) T.b_max (by decide +kernel) (pa_cons pe_int (pa_cons (pe_op op_sub (pv 4) (pv 1)) pa_nil))))))), ?_⟩
    refine ⟨_, rfl, _, rfl, _, rfl, s, b, rfl, rfl, nmul_r (by omega), x, ((s * b : Nat) : Int), rfl, divp_s 210 (by omega) (by rw [natAbs_cast]; exact hx), fun p hp => ?_⟩
    refine ⟨p, _, rfl, .inl (.inl upd_same), rfl, _, _, rfl, _, _, rfl, rfl, ?_⟩
    refine ⟨_, rfl, _, rfl, x / (s * b), s, rfl, rfl, nmul_w 210 210 h1 hs2, _, rfl, b, 1, rfl, rfl, (by omega : 1 ≤ b), _, b - 1, rfl, rfl, nmul_r (by omega), _, rfl, _, rfl, _, _, rfl, rfl, 0, _, rfl, x / (s * b) * s * (b - 1), x % (s * b) - s, rfl, ?_, ?_⟩
    · refine congrArg V.int ?_
      show (if ((x % (s * b) : Nat) : Int) - (s : Int) > 0 then ((x % (s * b) : Nat) : Int) - (s : Int) else 0) = ((x % (s * b) - s : Nat) : Int)
      split <;> omega
    · exact ⟨trivial, q _ (same_upd hp)⟩
end
section
variable {P : Program} {w : World} {K : PySem.W.Frag} {mg : Str → Option Value} {base : Heap}
/-- base, now, first, behind: what the first bad one raises -/
def spMovesInX (K : PySem.W.Frag) (CB CT : Addr) : Sp := fun vs H Q E => ∃ x0 x1 x2 x3 : V, vs = [x0, x1, x2, x3] ∧ (
  (BadBase K H x0 ∧ E (.ref CB) none H) ∨ ∃ b : Nat, x0 = .int (b : Nat) ∧ 2 ≤ b ∧ b ≤ 64 ∧ (
  (BadTick K H x1 0 ∧ E (.ref CT) none H) ∨ ∃ n : Nat, x1 = .int (n : Nat) ∧ (
  (BadTick K H x2 ((n : Int) + 1) ∧ E (.ref CT) none H) ∨ ∃ f : Nat, x2 = .int (f : Nat) ∧ n < f ∧ (
  (BadTick K H x3 (f : Nat) ∧ E (.ref CT) none H) ∨ ∃ h : Nat, x3 = .int (h : Nat) ∧ f ≤ h ∧ h < 2 ^ 200 ∧
    ∀ v : Int, (∀ k, h ≤ b ^ k → v = mvS b n f h k) → ∀ H', Same H H' → Q (.int v) H'))))
theorem okX_moves_in {f CB CT : Addr} {fd : FuncData} (F : Fun K "moves_in" "moves_in" s_moves_in f fd) (T : Tx K mg) (h1 : HasX P w K mg base 3 "check_base" ["base"] [] (spCheckBaseX K CB))
    (h2 : HasX P w K mg base 3 "check_tick" ["tick", "least"] [.int 0] (spCheckTickX K CT)) (h3 : HasX P w K mg base 3 "check_tick" ["tick", "least"] [] (spCheckTickX K CT)) (h4 : Has P w K mg base 1 "with_digit" ["base", "size", "behind"] [] spWd) :
    FnOk P w K mg base (L2.CX P w) 4 f fd ["base", "now", "first", "behind"] (spMovesInX K CB CT) := by
  obtain ⟨f_check_base, fd_check_base, ds_check_base, G_check_base, m_check_base, k_check_base, b_check_base, v_check_base⟩ := h1
  obtain ⟨f_check_tick1, fd_check_tick1, ds_check_tick1, G_check_tick1, m_check_tick1, k_check_tick1, b_check_tick1, v_check_tick1⟩ := h2
  obtain ⟨f_check_tick, fd_check_tick, ds_check_tick, G_check_tick, m_check_tick, k_check_tick, b_check_tick, v_check_tick⟩ := h3
  obtain ⟨f_with_digit, fd_with_digit, ds_with_digit, G_with_digit, m_with_digit, k_with_digit, b_with_digit, v_with_digit⟩ := h4
  refine F.okX sc_moves_in (fun vs H Q E h => ?_) (fun cdv A outer s H vs Q E hr h => ?_)
  · obtain ⟨x0, x1, x2, x3, rfl, _⟩ := h
    rfl
  · obtain ⟨x0, x1, x2, x3, rfl, hx⟩ := h
    refine ⟨_, (pss_cons (ps_expr (pe_call G_check_base hr (by rfl) m_check_base k_check_base b_check_base v_check_base (passes_call (takes_of rfl rfl rfl rfl) (fun _ _ _ _ h => h)) (pa_cons (pv 0) pa_nil)))
      (pss_cons (ps_expr (pe_call G_check_tick1 hr (by rfl) m_check_tick1 k_check_tick1 b_check_tick1 v_check_tick1 (passes_call (takes_of rfl rfl rfl rfl) (fun _ _ _ _ h => h)) (pa_cons (pv 1) pa_nil)))
      (pss_cons (ps_expr (pe_call G_check_tick hr (by rfl) m_check_tick k_check_tick b_check_tick v_check_tick (passes_call (takes_of rfl rfl rfl rfl) (fun _ _ _ _ h => h)) (pa_cons (pv 2) (pa_cons (pe_op op_addN (pv 1) pe_int) pa_nil))))
      (pss_cons (ps_expr (pe_call G_check_tick hr (by rfl) m_check_tick k_check_tick b_check_tick v_check_tick (passes_call (takes_of rfl rfl rfl rfl) (fun _ _ _ _ h => h)) (pa_cons (pv 3) (pa_cons (pv 2) pa_nil))))
      (pss_cons (ps_asg (pe_tup (pa_cons pe_int (pa_cons pe_int pa_nil))) (pg_tupK (K := K) (n := 2) rfl rfl (pgs_cons (pg_name (i := 4) sc_moves_in.nd rfl (.inl rfl)) (pgs_cons (pg_name (i := 5) sc_moves_in.nd rfl (.inl rfl)) pgs_nil))))
      (pss_cons (ps_while (passes_of rfl) (pt_cmpR op_lt (pv 5) (pv 3) (nomark _))
        (pss_cons (ps_set (i := 6) sc_moves_in.nd rfl (.inl rfl) (pe_callB (max2N rfl) (by rfl) T.b_max (by decide +kernel) (pa_cons (pv 2) (pa_cons (pe_op op_mulN (pe_op op_addN (pe_op op_divN (pv 1) (pv 5)) pe_int) (pv 5)) pa_nil))))
        (pss_cons (ps_if (pt_cmpR op_lt (pv 6) (pv 3) (nomark _))
          (pss_one (ps_aug (i := 4) sc_moves_in.nd rfl (.inl rfl) (pe_op op_sub (pe_call G_with_digit (hr.mono (by decide)) (by rfl) m_with_digit k_with_digit b_with_digit v_with_digit pass0 (pa_cons (pv 0) (pa_cons (pv 5) (pa_cons (pv 3) pa_nil)))) (pe_call G_with_digit (hr.mono (by decide)) (by rfl) m_with_digit k_with_digit b_with_digit v_with_digit pass0 (pa_cons (pv 0) (pa_cons (pv 5) (pa_cons (pv 6) pa_nil))))) ip_add))
          pss_nil)
        (pss_one (ps_aug (i := 5) sc_moves_in.nd rfl (.inl rfl) (pv 0) ip_mulA)))))
      (pss_one (ps_ret (pv 4))))))))), ?_⟩
    rcases hx with hb | ⟨b, rfl, hb, hb64, hx⟩
    · exact ⟨_, rfl, x0, rfl, .inr hb⟩
    refine ⟨_, rfl, _, rfl, .inl ⟨b, rfl, by omega, by omega, ?_⟩⟩
    rcases hx with hn | ⟨n, rfl, hx⟩
    · exact ⟨_, rfl, x1, 0, rfl, .inr hn⟩
    refine ⟨_, rfl, _, 0, rfl, .inl ⟨n, rfl, by omega, ?_⟩⟩
    rcases hx with hd | ⟨f, rfl, hnf, hx⟩
    · exact ⟨_, rfl, _, rfl, n, 1, rfl, rfl, trivial, x2, _, rfl, .inr hd⟩
    refine ⟨_, rfl, _, rfl, n, 1, rfl, rfl, trivial, _, _, rfl, .inl ⟨f, rfl, by show ((n + 1 : Nat) : Int) ≤ _; omega, ?_⟩⟩
    rcases hx with hd | ⟨h, rfl, hfh, hh, q⟩
    · exact ⟨_, rfl, _, rfl, x3, f, rfl, .inr hd⟩
    refine ⟨_, rfl, _, rfl, _, f, rfl, .inl ⟨h, rfl, by omega, ?_⟩⟩
    refine ⟨by simp [sizeLine_eq], fun t hT => ⟨t, _, rfl, .inl (.inl upd_same), rfl, _, _, rfl, _, _, rfl, rfl, ?_⟩⟩
    refine while_by (fun σ H' => ∃ (k : Nat) (y6 : Option V), σ = [some (.int (b : Nat)), some (.int (n : Nat)), some (.int (f : Nat)), some (.int (h : Nat)), some (.int (mvS b n f h k)), some (.int ((b ^ k : Nat) : Int)), y6] ∧ Same H H' ∧ b ^ k ≤ 64 * h)
      (fun σ _ => slotInt σ 3 - slotInt σ 5) ⟨0, none, rfl, same_upd hT, by rw [Nat.pow_zero]; omega⟩ ?_ ?_
    · rintro σ H' ⟨k, y6, rfl, sm, hk⟩
      refine ⟨_, rfl, _, rfl, _, _, rfl, rfl, _, rfl, ite2 (fun e => ?_) (fun e => ?_)⟩
      · have hlt : b ^ k < h := by
          have z := of_decide_eq_true e
          omega
        have hp := pow_pos' hb k
        have hs : b ^ k < 2 ^ 210 := by omega
        have hq : n / b ^ k ≤ n := Nat.div_le_self _ _
        have hm : NMul (n / b ^ k + 1) (b ^ k) := nmul_w 210 210 (by omega) hs
        refine ⟨_, rfl, _, rfl, _, rfl, n, b ^ k, rfl, rfl, ndiv 210 hp hs, _, 1, rfl, rfl, trivial, _, rfl, n / b ^ k + 1, b ^ k, rfl, rfl, hm, f, (n / b ^ k + 1) * b ^ k, rfl, ?_⟩
        have hl := beg_ge n f (b ^ k)
        have hp2 : b ^ k < b ^ (k + 1) := Nat.pow_lt_pow_right (by omega) (Nat.lt_succ_self k)
        have e3 : ((b ^ (k + 1) : Nat) : Int) = ((b ^ k : Nat) : Int) * ((b : Nat) : Int) := by
          rw [Nat.pow_succ, Int.natCast_mul]
        have hk1 : b ^ (k + 1) ≤ 64 * h := by
          rw [Nat.pow_succ, Nat.mul_comm]
          exact Nat.mul_le_mul hb64 (Nat.le_of_lt hlt)
        have less : (h : Int).toNat - (((b ^ k : Nat) : Int) * ((b : Nat) : Int)).toNat < (h : Int).toNat - ((b ^ k : Nat) : Int).toNat := by
          rw [← e3, Int.toNat_natCast, Int.toNat_natCast, Int.toNat_natCast]
          omega
        have hmul : CMulA ((b ^ k : Nat) : Int) ((b : Nat) : Int) := nmul_r (by omega)
        refine ⟨_, rfl, _, rfl, (begN n f (b ^ k) : Nat), (h : Nat), rfl, rfl, _, rfl, ite2 (fun e2 => ?_) (fun e2 => ?_)⟩
        · have hl2 : begN n f (b ^ k) < h := by
            have z := of_decide_eq_true e2
            omega
          refine ⟨_, rfl, _, rfl, _, rfl, _, rfl, b, b ^ k, h, rfl, hb, hb64, hp, hs, by omega, fun H1 s1 => ?_⟩
          refine ⟨_, rfl, _, rfl, _, rfl, b, b ^ k, begN n f (b ^ k), rfl, hb, hb64, hp, hs, by omega, fun H2 s2 => ?_⟩
          refine ⟨_, _, rfl, rfl, _, _, rfl, rfl, _, rfl, _, rfl, _, _, rfl, rfl, hmul, ⟨k + 1, some (.int (begN n f (b ^ k) : Nat)), ?_, (sm.trans s1).trans s2, hk1⟩, less⟩
          have e1 : mvS b n f h (k + 1) = mvS b n f h k + ((wdN b (b ^ k) h : Int) - (wdN b (b ^ k) (begN n f (b ^ k)) : Int)) := by
            show mvS b n f h k + mvT b n f h (b ^ k) = _
            unfold mvT
            rw [if_pos hl2]
          rw [e1, e3]
          rfl
        · have hl2 : ¬ begN n f (b ^ k) < h := by
            have z := of_decide_eq_false (eq_false_of_ne_true e2)
            omega
          refine ⟨_, rfl, _, rfl, _, _, rfl, rfl, hmul, ⟨k + 1, some (.int (begN n f (b ^ k) : Nat)), ?_, sm, hk1⟩, less⟩
          have e1 : mvS b n f h (k + 1) = mvS b n f h k := by
            show mvS b n f h k + mvT b n f h (b ^ k) = _
            unfold mvT
            rw [if_neg hl2, Int.add_zero]
          rw [e1, e3]
          rfl
      · have hle : h ≤ b ^ k := by
          have z := of_decide_eq_false (eq_false_of_ne_true e)
          omega
        exact ⟨_, rfl, q _ (fun j hj => mvS_eq hb hle hj) H' sm⟩
    · rintro σ H' Q1 Q2 h ⟨x, hx, y, hy, i, j, e1, e2, k, e, z⟩
      exact ⟨x, hx, y, hy, i, j, e1, e2, k, e, h _ _ z⟩
end
/-! ### min of a list of pairs of whole numbers: one of them -/
def rMinP (K : PySem.W.Frag) : List V → Hp → VK → Prop := fun vs H Q => ∃ (a : Addr) (xs : List V) (p : Int × Int) (ps : List (Int × Int)), vs = [.ref a] ∧ SqL K H a xs ∧ DpAll K H xs ((p :: ps).map PySem.W.Datum.toD) ∧ ∀ (i : Nat) (x : V), xs[i]? = some x → Q x H
section
variable {X : Cx} {K : PySem.W.Frag}
theorem minP (e : X.K = K) (hc : X.calm = true) (hu : X.A.units + 64 < cLine) : CallR X (.builtin "min") (rMinP K) := by
  subst e
  intro pins s σ H vs us Q I r h
  obtain ⟨a, xs, p, ps, rfl, hs, hd, q⟩ := h
  obtain ⟨its, rv, hl, _⟩ := I.list hs
  rw [Vals.ref1 r]
  obtain ⟨as, ra⟩ := Dp.readsAll I _ _ _ hd rv
  have hdep : PySem.W.Datum.depth (Int × Int) ≤ 60 := by decide
  refine PySem.W.min_list_datum (α := Int × Int) (x := p) (xs := ps) (I.ok.hd hc) hl.isList ⟨as, by simpa using ra⟩ (by omega) fun i v h' tk hi _ hk => ?_
  have hi2 : its[i]? = some v := by simpa using hi
  have hlt : i < xs.length := by
    rw [rv.length]
    exact (List.getElem?_eq_some_iff.mp hi2).1
  obtain ⟨u, h1, h2⟩ := rv.get (List.getElem?_eq_getElem hlt)
  rw [hi2] at h1
  cases h1
  exact ⟨xs[i], H, I.kept hk, h2, q i _ (List.getElem?_eq_getElem hlt)⟩
end
/-! ### xs.count(y), xs of flat items -/
theorem count_eqU {y : V} : ∀ {ys : List V} {its : List Value}, Vals ys its → ys.all flatV = true → its.countP (eqU y) = ys.countP (fun z => eqV z y)
  | _, _, .nil, _ => rfl
  | z :: ys, u :: its, .cons r rs, f => by
    rw [List.all_cons, Bool.and_eq_true] at f
    rw [List.countP_cons, List.countP_cons, count_eqU rs f.2, eqU_of r f.1]
def rCntF (K : PySem.W.Frag) : V → List V → Hp → VK → Prop := fun x xs H Q => ∃ (p : Addr) (ys : List V) (y : V), x = .ref p ∧ xs = [y] ∧ SqL K H p ys ∧ flatV y = true ∧ ys.all flatV = true ∧ Q (.int (ys.countP (fun z => eqV z y) : Nat)) H
section
variable {X : Cx} {K : PySem.W.Frag}
theorem mt_lcountF (e : X.K = K) : MtR X "list.count" (rCntF K) := by
  subst e
  intro pins s σ H x xs v us Q I rx rxs h
  obtain ⟨p, ys, y, rfl, rfl, hs, fy, fys, q⟩ := h
  cases rx
  cases rxs with
  | cons ry rt =>
    rename_i uy ut
    cases rt
    obtain ⟨its, rv, ⟨⟨cls, dd, data, sl⟩, n, ho, hc, hdn, hd⟩, hlen⟩ := I.list hs
    simp only at hc hd
    subst hc hd
    refine call_meets PySem.F.slot_list_count ⟨_, ho, rfl⟩ PySem.F.entry_list_count (PySem.F.args_list_count_2 _ _)
      (SeqAt.list_countAt p its.toArray n dd sl uy (eqU y)) ⟨ho, fun u' hu' => mem_eqAt ry fy rv fys u' (by simpa using hu'), ?_⟩
    have ec : its.toArray.toList.countP (eqU y) = ys.countP (fun z => eqV z y) := count_eqU rv fys
    refine ⟨.int (ys.countP (fun z => eqV z y) : Nat), H, I.tok _, ⟨s.toks, ?_⟩, q⟩
    show Value.int ((its.toArray.toList.countP (eqU y) : Nat) : Int) s.toks = Value.int ((ys.countP (fun z => eqV z y) : Nat) : Int) s.toks
    rw [ec]
theorem mt_indexK (e : X.K = K) : MtR X "list.index" (rIndex K) := by subst e; exact mt_index
end
/-! ### the due ticks that may be the costliest -/
/-- as many ones as there are levels below k -/
def onesN (b : Nat) : Nat → Nat
  | 0 => 0
  | k + 1 => onesN b k + b ^ k
/-- the next later tick that ends in zeros below the level k, with ones in their place -/
def dueK (b f k : Nat) : Nat := (f / b ^ k + 1) * b ^ k + onesN b k
def duesL (b f k : Nat) : List Nat := f :: (List.range k).map (dueK b f)
theorem ones_lt {b : Nat} (hb : 2 ≤ b) : ∀ k, onesN b k < b ^ k
  | 0 => by show 0 < b ^ 0; rw [Nat.pow_zero]; exact Nat.one_pos
  | k + 1 => by
    have ih := ones_lt hb k
    have h2 : 2 * b ^ k ≤ b ^ (k + 1) := by
      rw [Nat.pow_succ, Nat.mul_comm]
      exact Nat.mul_le_mul_left _ hb
    show onesN b k + b ^ k < b ^ (k + 1)
    omega
theorem dueK_gt {b : Nat} (hb : 2 ≤ b) (f k : Nat) : f < dueK b f k := by
  have hp : 0 < b ^ k := Nat.pow_pos (by omega)
  have z := Nat.lt_mul_div_succ f hp
  rw [Nat.mul_comm] at z
  unfold dueK
  omega
theorem dueK_ge (b f k : Nat) : b ^ k ≤ dueK b f k := by
  have z : 1 * b ^ k ≤ (f / b ^ k + 1) * b ^ k := Nat.mul_le_mul_right _ (Nat.succ_le_succ (Nat.zero_le _))
  rw [Nat.one_mul] at z
  unfold dueK
  omega
theorem dueK_zero (b f : Nat) : dueK b f 0 = f + 1 := by
  unfold dueK
  rw [Nat.pow_zero, Nat.div_one, Nat.mul_one]
  rfl
theorem duesL_succ (b f k : Nat) : duesL b f (k + 1) = duesL b f k ++ [dueK b f k] := by
  unfold duesL
  rw [List.range_succ, List.map_append]
  rfl
theorem duesL_len (b f k : Nat) : (duesL b f k).length = k + 1 := by
  unfold duesL
  rw [List.length_cons, List.length_map, List.length_range]
theorem duesL_mem {b f h k d : Nat} (hb : 2 ≤ b) (hf : f < h) (hk : ∀ j, j < k → dueK b f j < h) (hd : d ∈ duesL b f k) : f ≤ d ∧ d < h := by
  rcases List.mem_cons.mp hd with e | hd
  · rw [e]
    exact ⟨Nat.le_refl _, hf⟩
  · obtain ⟨j, hj, e⟩ := List.mem_map.mp hd
    rw [← e]
    exact ⟨Nat.le_of_lt (dueK_gt hb f j), hk j (List.mem_range.mp hj)⟩
/-! pairs of whole numbers at places -/
def PairsAt (H : Hp) : List Addr → List (Int × Int) → Prop
  | [], [] => True
  | t :: ts, p :: ps => H t = some (.tup [.int p.1, .int p.2]) ∧ PairsAt H ts ps
  | _, _ => False
theorem PairsAt.same {H H' : Hp} (s : ∀ t xs, H t = some (.tup xs) → H' t = some (.tup xs)) : ∀ {ts : List Addr} {ps : List (Int × Int)}, PairsAt H ts ps → PairsAt H' ts ps
  | [], [], h => h
  | _ :: _, _ :: _, h => ⟨s _ _ h.1, h.2.same s⟩
  | [], _ :: _, h => h
  | _ :: _, [], h => h
theorem PairsAt.snoc {H : Hp} {t : Addr} {p : Int × Int} : ∀ {ts : List Addr} {ps : List (Int × Int)}, PairsAt H ts ps → H t = some (.tup [.int p.1, .int p.2]) → PairsAt H (ts ++ [t]) (ps ++ [p])
  | [], [], _, h => ⟨h, trivial⟩
  | _ :: _, _ :: _, h, h2 => ⟨h.1, h.2.snoc h2⟩
  | [], _ :: _, h, _ => h.elim
  | _ :: _, [], h, _ => h.elim
theorem PairsAt.item {H : Hp} : ∀ {ts : List Addr} {ps : List (Int × Int)} {i : Nat} {x : V}, PairsAt H ts ps → (ts.map V.ref)[i]? = some x → ∃ t p, x = .ref t ∧ ps[i]? = some p ∧ H t = some (.tup [.int p.1, .int p.2])
  | t :: _, p :: _, 0, _, h, e => ⟨t, p, (Option.some.inj e).symm, rfl, h.1⟩
  | _ :: _, _ :: _, i + 1, _, h, e => h.2.item (i := i) e
  | [], _, _, _, _, e => by simp at e
  | _ :: _, [], _, _, h, _ => h.elim
theorem PairsAt.dp {K : PySem.W.Frag} {H : Hp} : ∀ {ts : List Addr} {ps : List (Int × Int)}, PairsAt H ts ps → DpAll K H (ts.map V.ref) (ps.map PySem.W.Datum.toD)
  | [], [], _ => .nil
  | _ :: _, _ :: _, h => .cons (.tup (SqT.of h.1) (.cons (.int _) (.cons (.int _) .nil))) h.2.dp
  | [], _ :: _, h => h.elim
  | _ :: _, [], h => h.elim
section
variable {P : Program} {w : World} {K : PySem.W.Frag} {mg : Str → Option Value} {base : Heap}
def spDues : Sp := fun vs H Q _ => ∃ b f h : Nat, vs = [.int (b : Nat), .int (f : Nat), .int (h : Nat)] ∧ 2 ≤ b ∧ b ≤ 64 ∧ f < h ∧ h < 2 ^ 200 ∧
  ∀ k, (∀ j, j < k → dueK b f j < h) → h ≤ dueK b f k → ∀ H' p, Same H H' → H p = none → H' p = some (.lst ((duesL b f k).map fun x => V.int (x : Nat))) → Q (.ref p) H'
theorem ok_dues_to_try {f : Addr} {fd : FuncData} (F : Fun K "dues_to_try" "dues_to_try" s_dues_to_try f fd) : FnOk P w K mg base CX0 1 f fd ["base", "first", "behind"] spDues := by
  refine F.ok sc_dues_to_try (fun vs H Q E h => ?_) (fun cdv A outer s H vs Q E hr h => ?_)
  · obtain ⟨b, f, h, rfl, _⟩ := h
    rfl
  · obtain ⟨b, f, h, rfl, hb, hb64, hfh, hh, q⟩ := h
    refine ⟨_, (pss_cons (ps_set (i := 3) sc_dues_to_try.nd rfl (.inl rfl) (pe_lst (pa_cons (pv 1) pa_nil)))
      (pss_cons (ps_asg (pe_tup (pa_cons pe_int (pa_cons pe_int pa_nil))) (pg_tupK (K := K) (n := 2) rfl rfl (pgs_cons (pg_name (i := 4) sc_dues_to_try.nd rfl (.inl rfl)) (pgs_cons (pg_name (i := 5) sc_dues_to_try.nd rfl (.inl rfl)) pgs_nil))))
      (pss_cons (ps_set (i := 6) sc_dues_to_try.nd rfl (.inl rfl) (pe_op op_addN (pv 1) pe_int))
      (pss_cons (ps_while PassesOwn.never (pt_cmpR op_lt (pv 6) (pv 2) (nomark _))
        (pss_cons (ps_expr (pe_bm PySem.F.plainAttrs_list PySem.F.slot_list_append PySem.F.type_list_append mt_append (pv 3) (pa_cons (pv 6) pa_nil)))
        (pss_cons (ps_par (i := 4) (j := 5) (by rfl) sc_dues_to_try.nd rfl rfl (by decide) rfl rfl (pa_cons (pe_op op_mulN (pv 4) (pv 0)) (pa_cons (pe_op op_addN (pv 5) (pv 4)) pa_nil)) (by rfl))
        (pss_one (ps_set (i := 6) sc_dues_to_try.nd rfl (.inl rfl) (pe_op op_addN (pe_op op_mulN (pe_op op_addN (pe_op op_divN (pv 1) (pv 4)) pe_int) (pv 4)) (pv 5)))))))
      (pss_one (ps_ret (pv 3))))))), ?_⟩
    refine ⟨_, rfl, by simp [sizeLine_eq], fun p hp0 => ?_⟩
    have s1 := same_upd (o := .lst [.int (f : Nat)]) hp0
    have e1 : (upd H p (.lst [.int (f : Nat)])) p = some (.lst ((duesL b f 0).map fun x => V.int (x : Nat))) := upd_same
    generalize upd H p (.lst [.int (f : Nat)]) = H1 at s1 e1 ⊢
    refine ⟨by simp [sizeLine_eq], fun t hT => ⟨t, _, rfl, .inl (.inl upd_same), rfl, _, _, rfl, _, _, rfl, rfl, ?_⟩⟩
    have s2 := same_upd (o := .tup [.int 1, .int 0]) hT
    refine ⟨_, rfl, f, 1, rfl, rfl, trivial, ?_⟩
    refine while_by (fun σ H' => ∃ k : Nat, σ = [some (.int (b : Nat)), some (.int (f : Nat)), some (.int (h : Nat)), some (.ref p), some (.int ((b ^ k : Nat) : Int)), some (.int (onesN b k : Nat)), some (.int (dueK b f k : Nat))] ∧ Same H H' ∧ H' p = some (.lst ((duesL b f k).map fun x => V.int (x : Nat))) ∧ ∀ j, j < k → dueK b f j < h)
      (fun σ _ => slotInt σ 2 - slotInt σ 4) ⟨0, ?_, s1.trans s2, s2 _ _ e1, fun j hj => absurd hj (Nat.not_lt_zero j)⟩ ?_ ?_
    · rw [dueK_zero]
      rfl
    · rintro σ H' ⟨k, rfl, sm, er, hk⟩
      refine ⟨_, rfl, _, rfl, _, _, rfl, rfl, _, rfl, ite2 (fun e => ?_) (fun e => ?_)⟩
      · have hlt : dueK b f k < h := by
          have z := of_decide_eq_true e
          omega
        have hp := pow_pos' hb k
        have hge := dueK_ge b f k
        have hs : b ^ k < 2 ^ 200 := by omega
        have hk2 : k < 200 := (Nat.pow_lt_pow_iff_right (by decide : 1 < 2)).mp (Nat.lt_of_le_of_lt (pow_two_le hb k) hs)
        have hs2 : b ^ (k + 1) < 2 ^ 206 := by
          rw [Nat.pow_succ, Nat.mul_comm]
          exact Nat.lt_of_le_of_lt (Nat.mul_le_mul hb64 (Nat.le_refl _)) (by omega)
        have hp2 := pow_pos' hb (k + 1)
        have hq : f / b ^ (k + 1) ≤ f := Nat.div_le_self _ _
        have hm : NMul (f / b ^ (k + 1) + 1) (b ^ (k + 1)) := nmul_w 210 210 (by omega) (by omega)
        have epow : b ^ (k + 1) = b ^ k * b := Nat.pow_succ b k
        have edue : dueK b f (k + 1) = (f / (b ^ k * b) + 1) * (b ^ k * b) + (onesN b k + b ^ k) := by
          show (f / b ^ (k + 1) + 1) * b ^ (k + 1) + (onesN b k + b ^ k) = _
          rw [epow]
        have hlt2 : b ^ k < b ^ k * b := by
          rw [← epow]
          exact Nat.pow_lt_pow_right (by omega) (Nat.lt_succ_self k)
        rw [epow] at hs2 hp2 hq hm
        have npp : ∀ c o, H c = some o → c ≠ p := fun c o e => ne_of_none e hp0
        refine ⟨_, rfl, .inl ⟨rfl, _, .inl (.inl er)⟩, _, rfl, p, _, _, rfl, rfl, er, ?_, ?_⟩
        · rw [List.length_map, duesL_len]
          exact sizeLine_ge (by omega)
        refine ⟨_, rfl, _, rfl, _, _, rfl, rfl, nmul_r (by omega), _, rfl, _, rfl, _, _, rfl, rfl, trivial, _, _, rfl, ?_⟩
        refine ⟨_, rfl, _, rfl, f, b ^ k * b, rfl, rfl, ndiv 210 hp2 (by omega), _, 1, rfl, rfl, trivial, _, rfl, f / (b ^ k * b) + 1, b ^ k * b, rfl, rfl, hm, _, rfl, _, onesN b k + b ^ k, rfl, rfl, trivial, ⟨k + 1, ?_, fun c o e => ?_, ?_, fun j hj => ?_⟩, ?_⟩
        · rw [edue, epow]
          rfl
        · rw [upd_ne (npp c o e)]
          exact sm c o e
        · rw [upd_same, duesL_succ, List.map_append]
          rfl
        · by_cases e : j = k
          · rw [e]
            exact hlt
          · exact hk j (by omega)
        · show (h : Int).toNat - ((b ^ k * b : Nat) : Int).toNat < (h : Int).toNat - ((b ^ k : Nat) : Int).toNat
          rw [Int.toNat_natCast, Int.toNat_natCast, Int.toNat_natCast]
          omega
      · have hle : h ≤ dueK b f k := by
          have z := of_decide_eq_false (eq_false_of_ne_true e)
          omega
        exact ⟨_, rfl, q k hk hle H' p sm hp0 er⟩
    · rintro σ H' Q1 Q2 h ⟨x, hx, y, hy, i, j, e1, e2, k, e, z⟩
      exact ⟨x, hx, y, hy, i, j, e1, e2, k, e, h _ _ z⟩
/-- base, now, first, behind: what the first bad one raises -/
def spCostliestX (K : PySem.W.Frag) (CB CT : Addr) : Sp := fun vs H Q E => ∃ x0 x1 x2 x3 : V, vs = [x0, x1, x2, x3] ∧ (
  (BadBase K H x0 ∧ E (.ref CB) none H) ∨ ∃ b : Nat, x0 = .int (b : Nat) ∧ 2 ≤ b ∧ b ≤ 64 ∧ (
  (BadTick K H x1 0 ∧ E (.ref CT) none H) ∨ ∃ n : Nat, x1 = .int (n : Nat) ∧ (
  (BadTick K H x2 ((n : Int) + 1) ∧ E (.ref CT) none H) ∨ ∃ f : Nat, x2 = .int (f : Nat) ∧ n < f ∧ (
  (BadTick K H x3 ((f : Int) + 1) ∧ E (.ref CT) none H) ∨ ∃ h : Nat, x3 = .int (h : Nat) ∧ f < h ∧ h < 2 ^ 200 ∧
    ∀ H' p (c d : Int), Same H H' → H p = none → H' p = some (.tup [.int c, .int d]) → Q (.ref p) H'))))
theorem okX_costliest {f CB CT : Addr} {fd : FuncData} (F : Fun K "costliest" "costliest" s_costliest f fd) (T : Tx K mg) (h1 : HasX P w K mg base 3 "check_base" ["base"] [] (spCheckBaseX K CB))
    (h2 : HasX P w K mg base 3 "check_tick" ["tick", "least"] [.int 0] (spCheckTickX K CT)) (h3 : HasX P w K mg base 3 "check_tick" ["tick", "least"] [] (spCheckTickX K CT)) (h4 : Has P w K mg base 1 "dues_to_try" ["base", "first", "behind"] [] spDues)
    (h5 : Has P w K mg base 2 "path" ["base", "now", "due"] [] spPath) : FnOk P w K mg base (L2.CX P w) 4 f fd ["base", "now", "first", "behind"] (spCostliestX K CB CT) := by
  obtain ⟨f_check_base, fd_check_base, ds_check_base, G_check_base, m_check_base, k_check_base, b_check_base, v_check_base⟩ := h1
  obtain ⟨f_check_tick1, fd_check_tick1, ds_check_tick1, G_check_tick1, m_check_tick1, k_check_tick1, b_check_tick1, v_check_tick1⟩ := h2
  obtain ⟨f_check_tick, fd_check_tick, ds_check_tick, G_check_tick, m_check_tick, k_check_tick, b_check_tick, v_check_tick⟩ := h3
  obtain ⟨f_dues_to_try, fd_dues_to_try, ds_dues_to_try, G_dues_to_try, m_dues_to_try, k_dues_to_try, b_dues_to_try, v_dues_to_try⟩ := h4
  obtain ⟨f_path, fd_path, ds_path, G_path, m_path, k_path, b_path, v_path⟩ := h5
  refine F.okX sc_costliest (fun vs H Q E h => ?_) (fun cdv A outer s H vs Q E hr h => ?_)
  · obtain ⟨x0, x1, x2, x3, rfl, _⟩ := h
    rfl
  · obtain ⟨x0, x1, x2, x3, rfl, hx⟩ := h
    refine ⟨_, (pss_cons (ps_expr (pe_call G_check_base hr (by rfl) m_check_base k_check_base b_check_base v_check_base (passes_call (takes_of rfl rfl rfl rfl) (fun _ _ _ _ h => h)) (pa_cons (pv 0) pa_nil)))
      (pss_cons (ps_expr (pe_call G_check_tick1 hr (by rfl) m_check_tick1 k_check_tick1 b_check_tick1 v_check_tick1 (passes_call (takes_of rfl rfl rfl rfl) (fun _ _ _ _ h => h)) (pa_cons (pv 1) pa_nil)))
      (pss_cons (ps_expr (pe_call G_check_tick hr (by rfl) m_check_tick k_check_tick b_check_tick v_check_tick (passes_call (takes_of rfl rfl rfl rfl) (fun _ _ _ _ h => h)) (pa_cons (pv 2) (pa_cons (pe_op op_addN (pv 1) pe_int) pa_nil))))
      (pss_cons (ps_expr (pe_call G_check_tick hr (by rfl) m_check_tick k_check_tick b_check_tick v_check_tick (passes_call (takes_of rfl rfl rfl rfl) (fun _ _ _ _ h => h)) (pa_cons (pv 3) (pa_cons (pe_op op_addN (pv 2) pe_int) pa_nil))))
      (pss_cons (ps_setLc (i := 5) (own := [("due", 4)]) (g := gName 4) (tt := tYes) rfl sc_costliest.nd rfl rfl (sw_true rfl rfl rfl (by decide +kernel)) (pi_list (pe_call G_dues_to_try (hr.mono (by decide)) (by rfl) m_dues_to_try k_dues_to_try b_dues_to_try v_dues_to_try pass0 (pa_cons (pv 0) (pa_cons (pv 2) (pa_cons (pv 3) pa_nil))))) (blkOk_by (own := [("due", 4)]) (N := N_costliest) (sc := defScope s_costliest) (by decide +kernel)) (fun _ _ _ _ _ => (pg_name (i := 4) sc_costliest.nd rfl (.inl rfl))) (fun _ _ _ _ _ => pts_nil) (fun _ _ _ _ _ => (pe_tup (pa_cons (pe_un un_neg (pe_callB (lenK (K := K) rfl) (by rfl) T.b_len PySem.boot_len (pa_cons (pe_call G_path (hr.mono (by decide)) (by rfl) m_path k_path b_path v_path pass0 (pa_cons (pv 0) (pa_cons (pv 1) (pa_cons (pv 4) pa_nil)))) pa_nil))) (pa_cons (pv 4) pa_nil)))))
      (pss_cons (ps_asg (pe_callB (minP (K := K) rfl rfl hr.units) (by rfl) T.b_min (by decide +kernel) (pa_cons (pv 5) pa_nil)) (pg_tupK (K := K) (n := 2) rfl rfl (pgs_cons (pg_name (i := 6) sc_costliest.nd rfl (.inl rfl)) (pgs_cons (pg_name (i := 4) sc_costliest.nd rfl (.inl rfl)) pgs_nil))))
      (pss_one (ps_ret (pe_tup (pa_cons (pe_un un_neg (pv 6)) (pa_cons (pv 4) pa_nil))))))))))), ?_⟩
    rcases hx with hb | ⟨b, rfl, hb, hb64, hx⟩
    · exact ⟨_, rfl, x0, rfl, .inr hb⟩
    refine ⟨_, rfl, _, rfl, .inl ⟨b, rfl, by omega, by omega, ?_⟩⟩
    rcases hx with hn | ⟨n, rfl, hx⟩
    · exact ⟨_, rfl, x1, 0, rfl, .inr hn⟩
    refine ⟨_, rfl, _, 0, rfl, .inl ⟨n, rfl, by omega, ?_⟩⟩
    rcases hx with hd | ⟨f, rfl, hnf, hx⟩
    · exact ⟨_, rfl, _, rfl, n, 1, rfl, rfl, trivial, x2, _, rfl, .inr hd⟩
    refine ⟨_, rfl, _, rfl, n, 1, rfl, rfl, trivial, _, _, rfl, .inl ⟨f, rfl, by show ((n + 1 : Nat) : Int) ≤ _; omega, ?_⟩⟩
    rcases hx with hd | ⟨h, rfl, hfh, hh, q⟩
    · exact ⟨_, rfl, _, rfl, f, 1, rfl, rfl, trivial, x3, _, rfl, .inr hd⟩
    refine ⟨_, rfl, _, rfl, f, 1, rfl, rfl, trivial, _, _, rfl, .inl ⟨h, rfl, by show ((f + 1 : Nat) : Int) ≤ _; omega, ?_⟩⟩
    refine ⟨_, rfl, _, rfl, _, rfl, b, f, h, rfl, hb, hb64, hfh, hh, fun k hk hle H1 a s1 ha0 ha => ?_⟩
    have hk2 : k ≤ 200 := by
      by_cases e : k = 0
      · omega
      · have z1 := hk (k - 1) (by omega)
        have z2 := dueK_ge b f (k - 1)
        have z3 := pow_two_le hb (k - 1)
        have z4 : k - 1 < 200 := (Nat.pow_lt_pow_iff_right (by decide : 1 < 2)).mp (Nat.lt_of_le_of_lt z3 (by omega))
        omega
    have hmem : ∀ d ∈ duesL b f k, n < d ∧ d < 2 ^ 250 := fun d hd => by
      have z := duesL_mem hb hfh hk hd
      omega
    have hlen := duesL_len b f k
    generalize duesL b f k = l at ha hmem hlen
    refine ⟨a, rfl, ⟨_, SqL.of ha⟩, fun D hD => lc_list (K := K) (a := a) (xs := l.map fun x => V.int (x : Nat)) (fun i H' => Same H1 H' ∧ ∃ (ts : List Addr) (ps : List (Int × Int)), H' D = some (.lst (ts.map V.ref)) ∧ ts.length = i ∧ ps.length = i ∧ PairsAt H' ts ps)
      ⟨same_upd hD, [], [], upd_same, rfl, rfl, trivial⟩ (fun i H' _ ⟨sm, _⟩ => SqL.of (sm _ _ ha)) ?_ ?_⟩
    · rintro i x H' hx ⟨sm, ts, ps, eD, hts, hps, PA⟩
      have hi : i < l.length := by
        have z := (List.getElem?_eq_some_iff.mp hx).1
        rw [List.length_map] at z
        exact z
      rw [List.getElem?_map, List.getElem?_eq_getElem hi] at hx
      obtain rfl := (Option.some.inj hx).symm
      have hd := hmem _ (List.getElem_mem hi)
      refine ⟨rfl, yesT (iteT ?_)⟩
      refine ⟨_, rfl, _, rfl, _, rfl, b, n, l[i], rfl, hb, hb64, hd.1, hd.2, fun k' hk' H2 pp us s2 hpp0 hpp R => ⟨pp, _, rfl, .inl (SqL.of hpp), _, rfl, _, rfl, by simp [sizeLine_eq], fun tt htt => ?_⟩⟩
      have s3 := s2.trans (same_upd (o := .tup [.int (-((us.map V.ref).length : Int)), .int (l[i] : Nat)]) htt)
      have ett : (upd H2 tt (.tup [.int (-((us.map V.ref).length : Int)), .int (l[i] : Nat)])) tt = some (.tup [.int (-((us.map V.ref).length : Int)), .int (l[i] : Nat)]) := upd_same
      have eD3 := s3 _ _ eD
      refine ⟨_, eD3, ?_, fun c o e => ?_, ts ++ [tt], ps ++ [(-((us.map V.ref).length : Int), (l[i] : Int))], ?_, ?_, ?_, ?_⟩
      · rw [List.length_map]
        exact sizeLine_ge (by omega)
      · rw [upd_ne (ne_of_none e hD)]
        exact s3 _ _ (sm _ _ e)
      · rw [upd_same, List.map_append]
        rfl
      · rw [List.length_append, hts]
        rfl
      · rw [List.length_append, hps]
        rfl
      · have keep : ∀ (t : Addr) (ys : List V), (upd H2 tt (.tup [.int (-((us.map V.ref).length : Int)), .int (l[i] : Nat)])) t = some (.tup ys) → (upd (upd H2 tt (.tup [.int (-((us.map V.ref).length : Int)), .int (l[i] : Nat)])) D (.lst (ts.map V.ref ++ [V.ref tt]))) t = some (.tup ys) := fun t ys e => by
          rw [upd_ne (ne_of e eD3 (by intro z; cases z))]
          exact e
        exact ((PA.same fun t ys e => s3 _ _ e).same keep).snoc (keep _ _ ett)
    · rintro H4 ⟨s4, ts, ps, eD, hts, hps, PA⟩
      have h0 : 0 < ts.length := by
        rw [hts, List.length_map, hlen]
        exact Nat.succ_pos _
      cases ps with
      | nil =>
        rw [List.length_nil] at hps
        omega
      | cons p0 ps =>
        refine ⟨_, rfl, D, _, p0, ps, rfl, SqL.of eD, PA.dp, fun i x hx => ?_⟩
        obtain ⟨t, pr, rfl, hp, et⟩ := PA.item hx
        refine ⟨t, _, rfl, .inl (.inl et), rfl, _, _, rfl, _, _, rfl, rfl, ?_⟩
        refine ⟨_, rfl, _, rfl, _, rfl, by simp [sizeLine_eq], fun p5 hp5 => ?_⟩
        have s5 := (s1.trans s4).trans (same_upd (o := .tup [.int (-pr.1), .int pr.2]) hp5)
        exact q _ p5 (-pr.1) pr.2 s5 ((s1.trans s4).free hp5) upd_same
end
/-! ### the word for what a call does: one class of errors of eight -/
def trySuite : List Stmt → List Stmt
  | .Try _ [.ExceptHandler _ _ b _] _ _ _ :: _ => b
  | _ => []
/-- an error of the class N is one of the j-th of the classes cs, and of no other -/
structure Kind8 (K : PySem.W.Frag) (N : Addr) (cs : List Addr) (j : Nat) : Prop where
  ec : ExcC K N
  ve : PySem.W.kitOne K (.ref N) (.type "ValueError") = some true
  lt : j < 8
  at_ : ∀ i c, cs[i]? = some c → PySem.W.kitOne K (.ref N) (.ref c) = some (decide (i = j))
def marks8 (j : Nat) : List V := ([.bl (decide (0 = j)), .bl (decide (1 = j)), .bl (decide (2 = j)), .bl (decide (3 = j))] ++ [.bl (decide (4 = j)), .bl (decide (5 = j)), .bl (decide (6 = j))]) ++ [.bl (decide (7 = j))]
theorem marks_count {j : Nat} (h : j < 8) : (marks8 j).countP (fun z => eqV z (.bl true)) = 1 := by
  have z : j = 0 ∨ j = 1 ∨ j = 2 ∨ j = 3 ∨ j = 4 ∨ j = 5 ∨ j = 6 ∨ j = 7 := by omega
  rcases z with rfl | rfl | rfl | rfl | rfl | rfl | rfl | rfl <;> rfl
theorem marks_at {j : Nat} (h : j < 8) : (marks8 j)[j]? = some (.bl true) := by
  have z : j = 0 ∨ j = 1 ∨ j = 2 ∨ j = 3 ∨ j = 4 ∨ j = 5 ∨ j = 6 ∨ j = 7 := by omega
  rcases z with rfl | rfl | rfl | rfl | rfl | rfl | rfl | rfl <;> rfl
theorem marks_no {j : Nat} (h : j < 8) (m : Nat) (z' : V) (hm : m < j) (hz : (marks8 j)[m]? = some z') : eqV z' (.bl true) = false := by
  have e : (marks8 j)[m]? = some (.bl (decide (m = j))) := by
    have z : m = 0 ∨ m = 1 ∨ m = 2 ∨ m = 3 ∨ m = 4 ∨ m = 5 ∨ m = 6 := by omega
    rcases z with rfl | rfl | rfl | rfl | rfl | rfl | rfl <;> rfl
  rw [e, decide_eq_false (by omega)] at hz
  cases hz
  rfl
theorem marks_flat (j : Nat) : (marks8 j).all flatV = true := rfl
theorem pss_imp {X : Cx} {st : List Stmt} {t' : TS} (h : ∃ t, PSs X st t ∧ ∀ D σ H, t' D σ H → t D σ H) : PSs X st t' := by
  obtain ⟨t, hp, hi⟩ := h
  exact ⟨fun pins s σ H D I q => hp.run pins s σ H D I (hi D σ H q)⟩
/-! ### law k18: the word for what a call does -/
def words18 : List V := [.str "base", .str "levels", .str "tick", .str "order", .str "period", .str "sighting", .str "timer", .str "many"]
section
variable {P : Program} {w : World} {K : PySem.W.Frag} {mg : Str → Option Value} {base : Heap}
/-- what the suite wants: e is an error of the class N, the j-th -/
def tWord8 (K : PySem.W.Frag) (cs : List Addr) (a : Addr) (cls : Value) (d : Option Addr) : TS := fun D σ H => ∃ (N : Addr) (j : Nat) (x : Str) (v0 v1 v3 : Option V), cls = .ref N ∧ d = none ∧ σ = [v0, v1, some (.ref a), v3] ∧ Kind8 K N cs j ∧ words18[j]? = some (.str x) ∧ ∀ H', Same H H' → D.rt (.str x) H'
theorem word_suite {f c_NoBase c_NoLevels c_NoTick c_NoOrder c_NoPeriod c_NoSighting c_NoTimer c_TooMany a : Addr} {cdv cls : Value} {A : Around} {outer : List Env} {s : Shared} {H : Hp} {E : XK} {d : Option Addr} {oe : Obj} {pn : List (Addr × Obj)} (T : Tx K mg)
    (X_NoBase : EG mg "NoBase" c_NoBase) (X_NoLevels : EG mg "NoLevels" c_NoLevels) (X_NoTick : EG mg "NoTick" c_NoTick) (X_NoOrder : EG mg "NoOrder" c_NoOrder) (X_NoPeriod : EG mg "NoPeriod" c_NoPeriod) (X_NoSighting : EG mg "NoSighting" c_NoSighting) (X_NoTimer : EG mg "NoTimer" c_NoTimer) (X_TooMany : EG mg "TooMany" c_TooMany)
    (hz : Zc cls d oe) (hf : ∃ vs, oe.data = .fields vs) : PSs ((cxOf CX0 P w K mg base N__law_word (Str.ofString "_law_word") (defScope s__law_word) f cdv A outer s H E).nox.suite a ((a, oe) :: pn)) (trySuite (defBody s__law_word)) (tWord8 K [c_NoBase, c_NoLevels, c_NoTick, c_NoOrder, c_NoPeriod, c_NoSighting, c_NoTimer, c_TooMany] a cls d) := by
  refine pss_imp ⟨_, (pss_cons (ps_set (i := 3) sc__law_word.nd rfl (.inl rfl) (pe_lst (pa_cons (pe_callB (isiE hz hf) (by rfl) T.b_isinstance (by decide +kernel) (pa_cons (pv 2) (pa_cons (pe_glob (v := .ref c_NoBase) rfl X_NoBase.g rfl) pa_nil))) (pa_cons (pe_callB (isiE hz hf) (by rfl) T.b_isinstance (by decide +kernel) (pa_cons (pv 2) (pa_cons (pe_glob (v := .ref c_NoLevels) rfl X_NoLevels.g rfl) pa_nil))) (pa_cons (pe_callB (isiE hz hf) (by rfl) T.b_isinstance (by decide +kernel) (pa_cons (pv 2) (pa_cons (pe_glob (v := .ref c_NoTick) rfl X_NoTick.g rfl) pa_nil))) (pa_cons (pe_callB (isiE hz hf) (by rfl) T.b_isinstance (by decide +kernel) (pa_cons (pv 2) (pa_cons (pe_glob (v := .ref c_NoOrder) rfl X_NoOrder.g rfl) pa_nil))) pa_nil))))))
      (pss_cons (ps_set (i := 3) sc__law_word.nd rfl (.inl rfl) (pe_op op_cat (pv 3) (pe_lst (pa_cons (pe_callB (isiE hz hf) (by rfl) T.b_isinstance (by decide +kernel) (pa_cons (pv 2) (pa_cons (pe_glob (v := .ref c_NoPeriod) rfl X_NoPeriod.g rfl) pa_nil))) (pa_cons (pe_callB (isiE hz hf) (by rfl) T.b_isinstance (by decide +kernel) (pa_cons (pv 2) (pa_cons (pe_glob (v := .ref c_NoSighting) rfl X_NoSighting.g rfl) pa_nil))) (pa_cons (pe_callB (isiE hz hf) (by rfl) T.b_isinstance (by decide +kernel) (pa_cons (pv 2) (pa_cons (pe_glob (v := .ref c_NoTimer) rfl X_NoTimer.g rfl) pa_nil))) pa_nil))))))
      (pss_cons (ps_expr (pe_bm PySem.F.plainAttrs_list PySem.F.slot_list_append PySem.F.type_list_append mt_append (pv 3) (pa_cons (pe_callB (isiE hz hf) (by rfl) T.b_isinstance (by decide +kernel) (pa_cons (pv 2) (pa_cons (pe_glob (v := .ref c_TooMany) rfl X_TooMany.g rfl) pa_nil))) pa_nil)))
      (pss_cons (ps_if (PW.pt (pw_or (pt_cmpR op_ne (pe_bm PySem.F.plainAttrs_list PySem.F.slot_list_count PySem.F.type_list_count (mt_lcountF (K := K) rfl) (pv 3) (pa_cons pe_bl pa_nil)) pe_int (nomark _)) (pw_or1 (pt_not (pt_val (pe_callB (isiE hz hf) (by rfl) T.b_isinstance (by decide +kernel) (pa_cons (pv 2) (pa_cons (pe_bltn (v := .ty "ValueError") (u := .type "ValueError") (by rfl) T.b_ValueError (by decide +kernel) rfl) pa_nil))))))))
        (pss_one (ps_ret pe_str))
        pss_nil)
      (pss_one (ps_ret (pe_ix (ix_listK (K := K) rfl) (pe_lst (pa_cons pe_str (pa_cons pe_str (pa_cons pe_str (pa_cons pe_str (pa_cons pe_str (pa_cons pe_str (pa_cons pe_str (pa_cons pe_str pa_nil))))))))) (pe_bm PySem.F.plainAttrs_list PySem.F.slot_list_index PySem.F.type_list_index (mt_indexK (K := K) rfl) (pv 3) (pa_cons pe_bl pa_nil)) (fun _ _ => rfl)))))))), fun D σ H' h => ?_⟩
  obtain ⟨N, j, x, v0, v1, v3, rfl, rfl, rfl, ⟨hC, ve, hj, at_⟩, hx, c⟩ := h
  have n0 := at_ 0 _ rfl
  have n1 := at_ 1 _ rfl
  have n2 := at_ 2 _ rfl
  have n3 := at_ 3 _ rfl
  have n4 := at_ 4 _ rfl
  have n5 := at_ 5 _ rfl
  have n6 := at_ 6 _ rfl
  have n7 := at_ 7 _ rfl
  refine ⟨_, rfl, N, rfl, rfl, hC, _, _, _, rfl, fun _ h => h, n0, _, rfl, N, rfl, rfl, hC, _, _, _, rfl, fun _ h => h, n1, _, rfl, N, rfl, rfl, hC, _, _, _, rfl, fun _ h => h, n2, _, rfl, N, rfl, rfl, hC, _, _, _, rfl, fun _ h => h, n3, by simp [sizeLine_eq], fun m1 hm1 => ?_⟩
  refine ⟨_, rfl, _, rfl, N, rfl, rfl, hC, _, _, _, rfl, fun _ h => h, n4, _, rfl, N, rfl, rfl, hC, _, _, _, rfl, fun _ h => h, n5, _, rfl, N, rfl, rfl, hC, _, _, _, rfl, fun _ h => h, n6, by simp [sizeLine_eq], fun m2 hm2 => ?_⟩
  have s1 := same_upd (o := .lst [.bl (decide (0 = j)), .bl (decide (1 = j)), .bl (decide (2 = j)), .bl (decide (3 = j))]) hm1
  have s2 := s1.trans (same_upd (o := .lst [.bl (decide (4 = j)), .bl (decide (5 = j)), .bl (decide (6 = j))]) hm2)
  refine ⟨m1, m2, _, _, rfl, rfl, (same_upd hm2) _ _ upd_same, upd_same, by simp [sizeLine_eq], fun m3 hm3 => ?_⟩
  generalize hH3 : upd (upd H' m1 _) m2 _ = H3 at s2 hm3 ⊢
  clear hH3
  refine ⟨_, rfl, .inl ⟨rfl, _, .inl (.inl upd_same)⟩, _, rfl, N, rfl, rfl, hC, _, _, _, rfl, fun _ h => h, n7, m3, _, _, rfl, rfl, upd_same, by simp [sizeLine_eq], ?_⟩
  have s4 : Same H' (upd (upd H3 m3 (.lst ([.bl (decide (0 = j)), .bl (decide (1 = j)), .bl (decide (2 = j)), .bl (decide (3 = j))] ++ [.bl (decide (4 = j)), .bl (decide (5 = j)), .bl (decide (6 = j))]))) m3 (.lst (([.bl (decide (0 = j)), .bl (decide (1 = j)), .bl (decide (2 = j)), .bl (decide (3 = j))] ++ [.bl (decide (4 = j)), .bl (decide (5 = j)), .bl (decide (6 = j))]) ++ [.bl (decide (7 = j))]))) := fun p o e => by
    rw [upd_ne (ne_of_none (s2 _ _ e) hm3), upd_ne (ne_of_none (s2 _ _ e) hm3)]
    exact s2 _ _ e
  have e4 : (upd (upd H3 m3 (.lst ([.bl (decide (0 = j)), .bl (decide (1 = j)), .bl (decide (2 = j)), .bl (decide (3 = j))] ++ [.bl (decide (4 = j)), .bl (decide (5 = j)), .bl (decide (6 = j))]))) m3 (.lst (([.bl (decide (0 = j)), .bl (decide (1 = j)), .bl (decide (2 = j)), .bl (decide (3 = j))] ++ [.bl (decide (4 = j)), .bl (decide (5 = j)), .bl (decide (6 = j))]) ++ [.bl (decide (7 = j))]))) m3 = some (.lst (marks8 j)) := upd_same
  generalize upd (upd H3 m3 (.lst ([.bl (decide (0 = j)), .bl (decide (1 = j)), .bl (decide (2 = j)), .bl (decide (3 = j))] ++ [.bl (decide (4 = j)), .bl (decide (5 = j)), .bl (decide (6 = j))]))) m3 (.lst (([.bl (decide (0 = j)), .bl (decide (1 = j)), .bl (decide (2 = j)), .bl (decide (3 = j))] ++ [.bl (decide (4 = j)), .bl (decide (5 = j)), .bl (decide (6 = j))]) ++ [.bl (decide (7 = j))])) = H4 at s4 e4 ⊢
  refine ⟨_, rfl, .inl ⟨rfl, _, SqL.of e4⟩, m3, _, _, rfl, rfl, SqL.of e4, rfl, marks_flat j, rfl, false, nF (congrArg (fun z : Nat => V.int (z : Nat)) (marks_count hj)), iteF ?_⟩
  refine ⟨_, rfl, N, rfl, rfl, hC, .ty "ValueError", .type "ValueError", true, rfl, fun _ h => h, ve, true, rfl, iteF ?_⟩
  refine ⟨by simp [sizeLine_eq], fun m6 hm6 => ?_⟩
  have s6 := same_upd (o := .lst words18) hm6
  refine ⟨_, rfl, .inl ⟨rfl, _, SqL.of (s6 _ _ e4)⟩, m3, _, _, j, _, rfl, rfl, SqL.of (s6 _ _ e4), rfl, marks_flat j, marks_at hj, rfl, marks_no hj, ?_⟩
  exact ⟨m6, words18, j, _, rfl, rfl, SqL.of upd_same, atI_nat hx, c _ (s4.trans s6)⟩
end
/-! what the calls of law k18 come to, by their values: rb, rl, rt where the first bad one is the base, the levels, a tick; rn where none is -/
def resSt (K : PySem.W.Frag) (H : Hp) (x0 x1 x2 : V) (rb rt rn : Prop) : Prop := (BadBase K H x0 ∧ rb) ∨ ∃ b : Nat, x0 = .int (b : Nat) ∧ 2 ≤ b ∧ b ≤ 64 ∧ ((BadTick K H x1 0 ∧ rt) ∨ ∃ n : Nat, x1 = .int (n : Nat) ∧ ((BadTick K H x2 ((n : Int) + 1) ∧ rt) ∨ ∃ d : Nat, x2 = .int (d : Nat) ∧ n < d ∧ d < 2 ^ 250 ∧ rn))
def resSd (K : PySem.W.Frag) (H : Hp) (x0 xl x1 x2 : V) (rb rl rt rn : Prop) : Prop := (BadBase K H x0 ∧ rb) ∨ ∃ b : Nat, x0 = .int (b : Nat) ∧ 2 ≤ b ∧ b ≤ 64 ∧ ((BadLevels K H xl ∧ rl) ∨ ∃ (q : Addr) (ws : List Bool), xl = .ref q ∧ SqL K H q (ws.map lvV) ∧ ws ≠ [] ∧ ws.length ≤ 60 ∧
  ((BadTick K H x1 0 ∧ rt) ∨ ∃ n : Nat, x1 = .int (n : Nat) ∧ ((BadTick K H x2 ((n : Int) + 1) ∧ rt) ∨ ∃ d : Nat, x2 = .int (d : Nat) ∧ n < d ∧ d < 2 ^ 250 ∧ rn)))
def resMv (K : PySem.W.Frag) (H : Hp) (x0 x1 x2 x3 : V) (g : Nat) (rb rt rn : Prop) : Prop := (BadBase K H x0 ∧ rb) ∨ ∃ b : Nat, x0 = .int (b : Nat) ∧ 2 ≤ b ∧ b ≤ 64 ∧ ((BadTick K H x1 0 ∧ rt) ∨ ∃ n : Nat, x1 = .int (n : Nat) ∧
  ((BadTick K H x2 ((n : Int) + 1) ∧ rt) ∨ ∃ f : Nat, x2 = .int (f : Nat) ∧ n < f ∧ ((BadTick K H x3 ((f : Int) + (g : Int)) ∧ rt) ∨ ∃ h : Nat, x3 = .int (h : Nat) ∧ f + g ≤ h ∧ h < 2 ^ 200 ∧ rn)))
section
variable {P : Program} {w : World} {K : PySem.W.Frag} {mg : Str → Option Value} {base : Heap}
def spWord18 (K : PySem.W.Frag) : Sp := fun vs H Q _ => ∃ (way : Nat) (sm : Addr) (x0 xl x1 x2 x3 : V), vs = [.int (way : Nat), .ref sm] ∧ H sm = some (.lst [x0, xl, x1, x2, x3]) ∧ (
  (way = 0 ∧ resSt K H x0 x1 x2 (∀ H', Same H H' → Q (.str "base") H') (∀ H', Same H H' → Q (.str "tick") H') (∀ H', Same H H' → Q (.str "none") H')) ∨
  (way = 1 ∧ resSd K H x0 xl x1 x2 (∀ H', Same H H' → Q (.str "base") H') (∀ H', Same H H' → Q (.str "levels") H') (∀ H', Same H H' → Q (.str "tick") H') (∀ H', Same H H' → Q (.str "none") H')) ∨
  (way = 2 ∧ resMv K H x0 x1 x2 x3 0 (∀ H', Same H H' → Q (.str "base") H') (∀ H', Same H H' → Q (.str "tick") H') (∀ H', Same H H' → Q (.str "none") H')) ∨
  (way = 3 ∧ resMv K H x0 x1 x2 x3 1 (∀ H', Same H H' → Q (.str "base") H') (∀ H', Same H H' → Q (.str "tick") H') (∀ H', Same H H' → Q (.str "none") H')))
theorem ok_word {f c_NoBase c_NoLevels c_NoTick c_NoOrder c_NoPeriod c_NoSighting c_NoTimer c_TooMany c_TimerError : Addr} {fd : FuncData} (F : Fun K "_law_word" "_law_word" s__law_word f fd) (T : Tx K mg)
    (X_TimerError : EG mg "TimerError" c_TimerError) (X_NoBase : EG mg "NoBase" c_NoBase) (X_NoLevels : EG mg "NoLevels" c_NoLevels) (X_NoTick : EG mg "NoTick" c_NoTick) (X_NoOrder : EG mg "NoOrder" c_NoOrder) (X_NoPeriod : EG mg "NoPeriod" c_NoPeriod) (X_NoSighting : EG mg "NoSighting" c_NoSighting) (X_NoTimer : EG mg "NoTimer" c_NoTimer) (X_TooMany : EG mg "TooMany" c_TooMany)
    (teB : PySem.W.exmOne K (.ref c_NoBase) (.ref c_TimerError) = some true) (teL : PySem.W.exmOne K (.ref c_NoLevels) (.ref c_TimerError) = some true) (teT : PySem.W.exmOne K (.ref c_NoTick) (.ref c_TimerError) = some true)
    (kB : Kind8 K c_NoBase [c_NoBase, c_NoLevels, c_NoTick, c_NoOrder, c_NoPeriod, c_NoSighting, c_NoTimer, c_TooMany] 0) (kL : Kind8 K c_NoLevels [c_NoBase, c_NoLevels, c_NoTick, c_NoOrder, c_NoPeriod, c_NoSighting, c_NoTimer, c_TooMany] 1) (kT : Kind8 K c_NoTick [c_NoBase, c_NoLevels, c_NoTick, c_NoOrder, c_NoPeriod, c_NoSighting, c_NoTimer, c_TooMany] 2)
    (h1 : HasX P w K mg base 4 "stations" ["base", "now", "due"] [] (spStationsX K c_NoBase c_NoTick)) (h2 : HasX P w K mg base 5 "side" ["base", "levels", "now", "due"] [] (spSideX K c_NoBase c_NoLevels c_NoTick))
    (h3 : HasX P w K mg base 4 "moves_in" ["base", "now", "first", "behind"] [] (spMovesInX K c_NoBase c_NoTick)) (h4 : HasX P w K mg base 4 "costliest" ["base", "now", "first", "behind"] [] (spCostliestX K c_NoBase c_NoTick)) :
    FnOk P w K mg base CX0 6 f fd ["_law_way", "_law_some"] (spWord18 K) := by
  obtain ⟨f_stations, fd_stations, ds_stations, G_stations, m_stations, k_stations, b_stations, v_stations⟩ := h1
  obtain ⟨f_side, fd_side, ds_side, G_side, m_side, k_side, b_side, v_side⟩ := h2
  obtain ⟨f_moves_in, fd_moves_in, ds_moves_in, G_moves_in, m_moves_in, k_moves_in, b_moves_in, v_moves_in⟩ := h3
  obtain ⟨f_costliest, fd_costliest, ds_costliest, G_costliest, m_costliest, k_costliest, b_costliest, v_costliest⟩ := h4
  cases v_stations
  cases v_side
  cases v_moves_in
  cases v_costliest
  refine F.ok sc__law_word (fun vs H Q E h => ?_) (fun cdv A outer s H vs Q E hr h => ?_)
  · obtain ⟨way, sm, x0, xl, x1, x2, x3, rfl, _⟩ := h
    rfl
  · obtain ⟨way, sm, x0, xl, x1, x2, x3, rfl, hsm, h⟩ := h
    have hs := SqL.of (K := K) hsm
    refine ⟨_, (pss_cons (ps_try_as (i := 2) rfl rfl sc__law_word.nd rfl rfl ⟨rfl, by decide, .inl X_TimerError.g⟩ takes0 (fun W pn xe tk _ => 
        (pss_one (ps_if (pt_cmpR op_eq (pv 0) pe_int (nomark _))
          (pss_one (ps_expr (pe_callS G_stations (hr.mono (by decide)) (by rfl) m_stations k_stations b_stations (fun σ => passAt tk σ) (pa_cons (pe_ix (ix_listK (K := K) rfl) (pv 1) pe_int (fun _ _ => rfl)) (pa_cons (pe_ix (ix_listK (K := K) rfl) (pv 1) pe_int (fun _ _ => rfl)) (pa_cons (pe_ix (ix_listK (K := K) rfl) (pv 1) pe_int (fun _ _ => rfl)) pa_nil))))))
          (pss_one (ps_if (pt_cmpR op_eq (pv 0) pe_int (nomark _))
            (pss_one (ps_expr (pe_callS G_side hr (by rfl) m_side k_side b_side (fun σ => passAt tk σ) (pa_cons (pe_ix (ix_listK (K := K) rfl) (pv 1) pe_int (fun _ _ => rfl)) (pa_cons (pe_ix (ix_listK (K := K) rfl) (pv 1) pe_int (fun _ _ => rfl)) (pa_cons (pe_ix (ix_listK (K := K) rfl) (pv 1) pe_int (fun _ _ => rfl)) (pa_cons (pe_ix (ix_listK (K := K) rfl) (pv 1) pe_int (fun _ _ => rfl)) pa_nil)))))))
            (pss_one (ps_if (pt_cmpR op_eq (pv 0) pe_int (nomark _))
              (pss_one (ps_expr (pe_callS G_moves_in (hr.mono (by decide)) (by rfl) m_moves_in k_moves_in b_moves_in (fun σ => passAt tk σ) (pa_cons (pe_ix (ix_listK (K := K) rfl) (pv 1) pe_int (fun _ _ => rfl)) (pa_cons (pe_ix (ix_listK (K := K) rfl) (pv 1) pe_int (fun _ _ => rfl)) (pa_cons (pe_ix (ix_listK (K := K) rfl) (pv 1) pe_int (fun _ _ => rfl)) (pa_cons (pe_ix (ix_listK (K := K) rfl) (pv 1) pe_int (fun _ _ => rfl)) pa_nil)))))))
              (pss_one (ps_expr (pe_callS G_costliest (hr.mono (by decide)) (by rfl) m_costliest k_costliest b_costliest (fun σ => passAt tk σ) (pa_cons (pe_ix (ix_listK (K := K) rfl) (pv 1) pe_int (fun _ _ => rfl)) (pa_cons (pe_ix (ix_listK (K := K) rfl) (pv 1) pe_int (fun _ _ => rfl)) (pa_cons (pe_ix (ix_listK (K := K) rfl) (pv 1) pe_int (fun _ _ => rfl)) (pa_cons (pe_ix (ix_listK (K := K) rfl) (pv 1) pe_int (fun _ _ => rfl)) pa_nil)))))))))))))) (fun a oe cls d pn hz hf => 
        (word_suite T X_NoBase X_NoLevels X_NoTick X_NoOrder X_NoPeriod X_NoSighting X_NoTimer X_TooMany hz hf)))
      (pss_one (ps_ret pe_str))), ?_⟩
    rcases h with ⟨rfl, h⟩ | ⟨rfl, h⟩ | ⟨rfl, h⟩ | ⟨rfl, h⟩
    · refine ⟨_, rfl, rfl, true, dT rfl, iteT ?_⟩
      refine ⟨_, rfl, sm, _, 0, _, rfl, rfl, hs, atI_nat (j := 0) rfl, _, rfl, sm, _, 2, _, rfl, rfl, hs, atI_nat (j := 2) rfl, _, rfl, sm, _, 3, _, rfl, rfl, hs, atI_nat (j := 3) rfl, x0, x1, x2, rfl, ?_⟩
      rcases h with ⟨hb, r⟩ | ⟨b, rfl, hb0, hb64, ⟨hb, r⟩ | ⟨n, rfl, ⟨hb, r⟩ | ⟨d, rfl, hnd, hd, r⟩⟩⟩
      · exact .inl ⟨hb, true, teB, fun _ a _ => ⟨c_NoBase, 0, _, _, _, _, rfl, rfl, rfl, kB, rfl, fun H' s => r H' s⟩, fun z => nomatch z⟩
      · exact .inr ⟨b, rfl, hb0, hb64, .inl ⟨hb, true, teT, fun _ a _ => ⟨c_NoTick, 2, _, _, _, _, rfl, rfl, rfl, kT, rfl, fun H' s => r H' s⟩, fun z => nomatch z⟩⟩
      · exact .inr ⟨b, rfl, hb0, hb64, .inr ⟨n, rfl, .inl ⟨hb, true, teT, fun _ a _ => ⟨c_NoTick, 2, _, _, _, _, rfl, rfl, rfl, kT, rfl, fun H' s => r H' s⟩, fun z => nomatch z⟩⟩⟩
      · exact .inr ⟨b, rfl, hb0, hb64, .inr ⟨n, rfl, .inr ⟨d, rfl, hnd, hd, fun k hk H' p ts s1 _ _ _ => r H' s1⟩⟩⟩
    · refine ⟨_, rfl, rfl, false, dF (by decide), iteF ?_⟩
      refine ⟨_, rfl, rfl, true, dT rfl, iteT ?_⟩
      refine ⟨_, rfl, sm, _, 0, _, rfl, rfl, hs, atI_nat (j := 0) rfl, _, rfl, sm, _, 1, _, rfl, rfl, hs, atI_nat (j := 1) rfl, _, rfl, sm, _, 2, _, rfl, rfl, hs, atI_nat (j := 2) rfl, _, rfl, sm, _, 3, _, rfl, rfl, hs, atI_nat (j := 3) rfl, x0, xl, x1, x2, rfl, ?_⟩
      rcases h with ⟨hb, r⟩ | ⟨b, rfl, hb0, hb64, ⟨hb, r⟩ | ⟨q, ws, rfl, hL, hne, h60, ⟨hb, r⟩ | ⟨n, rfl, ⟨hb, r⟩ | ⟨d, rfl, hnd, hd, r⟩⟩⟩⟩
      · exact .inl ⟨hb, true, teB, fun _ a _ => ⟨c_NoBase, 0, _, _, _, _, rfl, rfl, rfl, kB, rfl, fun H' s => r H' s⟩, fun z => nomatch z⟩
      · exact .inr ⟨b, rfl, hb0, hb64, .inl ⟨hb, fun H1 s1 => ⟨true, teL, fun _ a _ => ⟨c_NoLevels, 1, _, _, _, _, rfl, rfl, rfl, kL, rfl, fun H' s => r H' (s1.trans s)⟩, fun z => nomatch z⟩⟩⟩
      · exact .inr ⟨b, rfl, hb0, hb64, .inr ⟨q, ws, rfl, hL, hne, h60, .inl ⟨hb, fun H1 s1 => ⟨true, teT, fun _ a _ => ⟨c_NoTick, 2, _, _, _, _, rfl, rfl, rfl, kT, rfl, fun H' s => r H' (s1.trans s)⟩, fun z => nomatch z⟩⟩⟩⟩
      · exact .inr ⟨b, rfl, hb0, hb64, .inr ⟨q, ws, rfl, hL, hne, h60, .inr ⟨n, rfl, .inl ⟨hb, fun H1 s1 => ⟨true, teT, fun _ a _ => ⟨c_NoTick, 2, _, _, _, _, rfl, rfl, rfl, kT, rfl, fun H' s => r H' (s1.trans s)⟩, fun z => nomatch z⟩⟩⟩⟩⟩
      · exact .inr ⟨b, rfl, hb0, hb64, .inr ⟨q, ws, rfl, hL, hne, h60, .inr ⟨n, rfl, .inr ⟨d, rfl, hnd, hd, fun k hk H' s1 => r H' s1⟩⟩⟩⟩
    · refine ⟨_, rfl, rfl, false, dF (by decide), iteF ?_⟩
      refine ⟨_, rfl, rfl, false, dF (by decide), iteF ?_⟩
      refine ⟨_, rfl, rfl, true, dT rfl, iteT ?_⟩
      refine ⟨_, rfl, sm, _, 0, _, rfl, rfl, hs, atI_nat (j := 0) rfl, _, rfl, sm, _, 2, _, rfl, rfl, hs, atI_nat (j := 2) rfl, _, rfl, sm, _, 3, _, rfl, rfl, hs, atI_nat (j := 3) rfl, _, rfl, sm, _, 4, _, rfl, rfl, hs, atI_nat (j := 4) rfl, x0, x1, x2, x3, rfl, ?_⟩
      rcases h with ⟨hb, r⟩ | ⟨b, rfl, hb0, hb64, ⟨hb, r⟩ | ⟨n, rfl, ⟨hb, r⟩ | ⟨f, rfl, hnf, ⟨hb, r⟩ | ⟨h, rfl, hfh, hh, r⟩⟩⟩⟩
      · exact .inl ⟨hb, true, teB, fun _ a _ => ⟨c_NoBase, 0, _, _, _, _, rfl, rfl, rfl, kB, rfl, fun H' s => r H' s⟩, fun z => nomatch z⟩
      · exact .inr ⟨b, rfl, hb0, hb64, .inl ⟨hb, true, teT, fun _ a _ => ⟨c_NoTick, 2, _, _, _, _, rfl, rfl, rfl, kT, rfl, fun H' s => r H' s⟩, fun z => nomatch z⟩⟩
      · exact .inr ⟨b, rfl, hb0, hb64, .inr ⟨n, rfl, .inl ⟨hb, true, teT, fun _ a _ => ⟨c_NoTick, 2, _, _, _, _, rfl, rfl, rfl, kT, rfl, fun H' s => r H' s⟩, fun z => nomatch z⟩⟩⟩
      · exact .inr ⟨b, rfl, hb0, hb64, .inr ⟨n, rfl, .inr ⟨f, rfl, hnf, .inl ⟨by simpa using hb, true, teT, fun _ a _ => ⟨c_NoTick, 2, _, _, _, _, rfl, rfl, rfl, kT, rfl, fun H' s => r H' s⟩, fun z => nomatch z⟩⟩⟩⟩
      · exact .inr ⟨b, rfl, hb0, hb64, .inr ⟨n, rfl, .inr ⟨f, rfl, hnf, .inr ⟨h, rfl, by omega, hh, fun _ _ H' s1 => r H' s1⟩⟩⟩⟩
    · refine ⟨_, rfl, rfl, false, dF (by decide), iteF ?_⟩
      refine ⟨_, rfl, rfl, false, dF (by decide), iteF ?_⟩
      refine ⟨_, rfl, rfl, false, dF (by decide), iteF ?_⟩
      refine ⟨_, rfl, sm, _, 0, _, rfl, rfl, hs, atI_nat (j := 0) rfl, _, rfl, sm, _, 2, _, rfl, rfl, hs, atI_nat (j := 2) rfl, _, rfl, sm, _, 3, _, rfl, rfl, hs, atI_nat (j := 3) rfl, _, rfl, sm, _, 4, _, rfl, rfl, hs, atI_nat (j := 4) rfl, x0, x1, x2, x3, rfl, ?_⟩
      rcases h with ⟨hb, r⟩ | ⟨b, rfl, hb0, hb64, ⟨hb, r⟩ | ⟨n, rfl, ⟨hb, r⟩ | ⟨f, rfl, hnf, ⟨hb, r⟩ | ⟨h, rfl, hfh, hh, r⟩⟩⟩⟩
      · exact .inl ⟨hb, true, teB, fun _ a _ => ⟨c_NoBase, 0, _, _, _, _, rfl, rfl, rfl, kB, rfl, fun H' s => r H' s⟩, fun z => nomatch z⟩
      · exact .inr ⟨b, rfl, hb0, hb64, .inl ⟨hb, true, teT, fun _ a _ => ⟨c_NoTick, 2, _, _, _, _, rfl, rfl, rfl, kT, rfl, fun H' s => r H' s⟩, fun z => nomatch z⟩⟩
      · exact .inr ⟨b, rfl, hb0, hb64, .inr ⟨n, rfl, .inl ⟨hb, true, teT, fun _ a _ => ⟨c_NoTick, 2, _, _, _, _, rfl, rfl, rfl, kT, rfl, fun H' s => r H' s⟩, fun z => nomatch z⟩⟩⟩
      · exact .inr ⟨b, rfl, hb0, hb64, .inr ⟨n, rfl, .inr ⟨f, rfl, hnf, .inl ⟨hb, true, teT, fun _ a _ => ⟨c_NoTick, 2, _, _, _, _, rfl, rfl, rfl, kT, rfl, fun H' s => r H' s⟩, fun z => nomatch z⟩⟩⟩⟩
      · exact .inr ⟨b, rfl, hb0, hb64, .inr ⟨n, rfl, .inr ⟨f, rfl, hnf, .inr ⟨h, rfl, by omega, hh, fun H' _ _ _ s1 _ _ => r H' s1⟩⟩⟩⟩
end
/-! ### the law's drawing of numbers -/
def SrcAt (H : Hp) (p : Addr) : Prop := ∃ a b c : Int, H p = some (.lst [.int a, .int b, .int c])
/-- all but the source p stands as it was; p is a source again -/
structure Stp (p : Addr) (H H' : Hp) : Prop where
  keep : ∀ q o, q ≠ p → H q = some o → H' q = some o
  src : SrcAt H' p
theorem Stp.refl {p : Addr} {H : Hp} (h : SrcAt H p) : Stp p H H := ⟨fun _ _ _ e => e, h⟩
theorem Stp.trans {p : Addr} {H H1 H2 : Hp} (a : Stp p H H1) (b : Stp p H1 H2) : Stp p H H2 := ⟨fun q o n e => b.keep q o n (a.keep q o n e), b.src⟩
theorem Stp.same {p : Addr} {H H1 H2 : Hp} (a : Stp p H H1) (b : Same H1 H2) : Stp p H H2 := by
  obtain ⟨x, y, z, e⟩ := a.src
  exact ⟨fun q o n e => b q o (a.keep q o n e), ⟨x, y, z, b _ _ e⟩⟩
theorem SrcAt.same {p : Addr} {H H' : Hp} (h : SrcAt H p) (s : Same H H') : SrcAt H' p := by
  obtain ⟨a, b, c, e⟩ := h
  exact ⟨a, b, c, s _ _ e⟩
theorem Stp.free {p q : Addr} {H H' : Hp} (a : Stp p H H') (hq : H' q = none) : H q = none := by
  cases e : H q with
  | none => rfl
  | some o =>
    by_cases z : q = p
    · obtain ⟨x, y, u, w⟩ := a.src
      rw [z, w] at hq
      cases hq
    · rw [a.keep q o z e] at hq
      cases hq
theorem SrcAt.ne {H : Hp} {p l : Addr} (h : SrcAt H p) (hl : H l = none) : l ≠ p := fun e => by
  obtain ⟨x, y, z, w⟩ := h
  rw [e, w] at hl
  cases hl
theorem SrcAt.stp_same {p : Addr} {H H' : Hp} (h : SrcAt H p) (s : Same H H') : Stp p H H' := (Stp.refl h).same s
theorem Stp.seqL {K : PySem.W.Frag} {p a : Addr} {xs : List V} {H H' : Hp} (s : Stp p H H') (n : a ≠ p) (h : SqL K H a xs) : SqL K H' a xs := by
  rcases h with (h | ⟨o, h⟩) | h
  · exact .inl (.inl (s.keep _ _ n h))
  · exact .inl (.inr ⟨o, s.keep _ _ n h⟩)
  · exact .inr h
section
variable {P : Program} {w : World} {K : PySem.W.Frag} {mg : Str → Option Value} {base : Heap}
def spCellAt (K : PySem.W.Frag) : Sp := fun vs H Q _ => ∃ (a : Addr) (ns : List Int) (k : Nat), vs = [.ref a, .int (k : Nat)] ∧ SqL K H a (ns.map V.int) ∧ ∀ v : Int, Q (.int v) H
theorem ok_cell_at {f : Addr} {fd : FuncData} (F : Fun K "_law_cell_at" "_law_cell_at" s__law_cell_at f fd) (T : Tx K mg) : FnOk P w K mg base CX0 1 f fd ["_law_script", "_law_k"] (spCellAt K) := by
  refine F.ok sc__law_cell_at (fun vs H Q E h => ?_) (fun cdv A outer s H vs Q E hr h => ?_)
  · obtain ⟨a, ns, k, rfl, _⟩ := h
    rfl
  · obtain ⟨a, ns, k, rfl, hS, q⟩ := h
    refine ⟨_, (pss_cons (ps_if (pt_cmpR op_lt (pv 1) (pe_callB (lenK (K := K) rfl) (by rfl) T.b_len PySem.boot_len (pa_cons (pv 0) pa_nil)) (nomark _))
        (pss_one (ps_ret (pe_ix (ix_listK (K := K) rfl) (pv 0) (pv 1) (fun _ _ => rfl))))
        pss_nil)
      (pss_one (ps_ret pe_int))), ?_⟩
    refine ⟨_, rfl, .ref a, rfl, a, ns.map V.int, rfl, .inl hS, _, _, rfl, rfl, _, rfl, ite2 (fun e => ?_) (fun e => ?_)⟩
    · have hk : k < ns.length := by
        have z := of_decide_eq_true e
        rw [List.length_map] at z
        omega
      have g : (ns.map V.int)[k]? = some (.int ns[k]) := by
        rw [List.getElem?_map, List.getElem?_eq_getElem hk]
        rfl
      exact ⟨.ref a, rfl, _, rfl, a, _, _, _, rfl, rfl, hS, atI_nat g, q _⟩
    · exact q 0
def spMixed : Sp := fun vs H Q _ => ∃ c k : Int, vs = [.int c, .int k] ∧ ∀ r : Int, 0 ≤ r → r < 2147483563 → Q (.int r) H
theorem ok_mixed {f : Addr} {fd : FuncData} (F : Fun K "_law_mixed" "_law_mixed" s__law_mixed f fd) : FnOk P w K mg base CX0 1 f fd ["_law_cell", "_law_k"] spMixed := by
  refine F.ok sc__law_mixed (fun vs H Q E h => ?_) (fun cdv A outer s H vs Q E hr h => ?_)
  · obtain ⟨c, k, rfl, _⟩ := h
    rfl
  · obtain ⟨c, k, rfl, q⟩ := h
    refine ⟨_, (pss_cons (ps_set (i := 2) sc__law_mixed.nd rfl (.inl rfl) (pe_op op_add (pe_op op_mod (pv 0) pe_int) (pe_op op_mulA (pe_op op_fdivW (pv 0) pe_int) pe_int)))
      (pss_cons (ps_set (i := 2) sc__law_mixed.nd rfl (.inl rfl) (pe_op op_mod (pe_op op_mulA (pe_op op_add (pe_op op_add (pv 2) (pe_op op_mulA pe_int (pv 1))) pe_int) pe_int) pe_int))
      (pss_cons (ps_set (i := 2) sc__law_mixed.nd rfl (.inl rfl) (pe_op op_mod (pe_op op_mulA (pv 2) (pe_op op_add (pe_op op_add (pe_op op_fdivW (pv 2) pe_int) pe_int) (pv 1))) pe_int))
      (pss_one (ps_ret (pe_op op_mod (pe_op op_mulA (pv 2) (pe_op op_add (pe_op op_fdivW (pv 2) pe_int) pe_int)) pe_int)))))), ?_⟩
    refine ⟨_, rfl, c, 2147483629, rfl, rfl, (by decide : (0 : Int) < 2147483629), _, rfl, c, 2147483629, rfl, rfl, div_s (by decide) (by decide), _, 30011, rfl, rfl, mul_r (by decide) (by decide), _, _, rfl, rfl, ?_⟩
    refine ⟨_, rfl, _, rfl, 69621, k, rfl, rfl, mul_l (by decide) (by decide), _, _, rfl, rfl, _, 1, rfl, rfl, _, 48271, rfl, rfl, mul_r (by decide) (by decide), _, 2147483629, rfl, rfl, (by decide : (0 : Int) < 2147483629), ?_⟩
    generalize hl : (c % 2147483629 + c / 2147483629 * 30011 + 69621 * k + 1) * 48271 = l0
    have b1 : 0 ≤ l0 % 2147483629 := Int.emod_nonneg _ (by decide)
    have b2 : l0 % 2147483629 < 2147483629 := Int.emod_lt_of_pos _ (by decide)
    refine ⟨_, rfl, _, rfl, l0 % 2147483629, 907, rfl, rfl, div_s (by decide) (by decide), _, 16831, rfl, rfl, _, rfl, _, k, rfl, rfl, l0 % 2147483629, _, rfl, rfl, mul_l (by omega) (by omega), _, 2147483587, rfl, rfl, (by decide : (0 : Int) < 2147483587), ?_⟩
    generalize (l0 % 2147483629) * (l0 % 2147483629 / 907 + 16831 + k) = l1
    have b3 : 0 ≤ l1 % 2147483587 := Int.emod_nonneg _ (by decide)
    have b4 : l1 % 2147483587 < 2147483587 := Int.emod_lt_of_pos _ (by decide)
    refine ⟨_, rfl, _, rfl, _, 1201, rfl, rfl, div_s (by decide) (by decide), _, 30011, rfl, rfl, _, _, rfl, rfl, mul_l (i := l1 % 2147483587) (by omega) (by omega), _, 2147483563, rfl, rfl, (by decide : (0 : Int) < 2147483563), ?_⟩
    exact q _ (Int.emod_nonneg _ (by decide)) (Int.emod_lt_of_pos _ (by decide))
def spSource (K : PySem.W.Frag) : Sp := fun vs H Q _ => ∃ (a : Addr) (ns : List Int) (k : Nat), vs = [.ref a, .int (k : Nat)] ∧ SqL K H a (ns.map V.int) ∧ ∀ H' p, Same H H' → H p = none → SrcAt H' p → Q (.ref p) H'
theorem ok_source {f : Addr} {fd : FuncData} (F : Fun K "_law_source" "_law_source" s__law_source f fd) (T : Tx K mg) (h1 : Has P w K mg base 1 "_law_cell_at" ["_law_script", "_law_k"] [] (spCellAt K))
    (h2 : Has P w K mg base 1 "_law_mixed" ["_law_cell", "_law_k"] [] spMixed) : FnOk P w K mg base CX0 2 f fd ["_law_script", "_law_k"] (spSource K) := by
  obtain ⟨f__law_cell_at, fd__law_cell_at, ds__law_cell_at, G__law_cell_at, m__law_cell_at, k__law_cell_at, b__law_cell_at, v__law_cell_at⟩ := h1
  obtain ⟨f__law_mixed, fd__law_mixed, ds__law_mixed, G__law_mixed, m__law_mixed, k__law_mixed, b__law_mixed, v__law_mixed⟩ := h2
  refine F.ok sc__law_source (fun vs H Q E h => ?_) (fun cdv A outer s H vs Q E hr h => ?_)
  · obtain ⟨a, ns, k, rfl, _⟩ := h
    rfl
  · obtain ⟨a, ns, k, rfl, hS, q⟩ := h
    refine ⟨_, (pss_cons (ps_if (pt_cmpR op_lt (pv 1) (pe_callB (lenK (K := K) rfl) (by rfl) T.b_len PySem.boot_len (pa_cons (pv 0) pa_nil)) (nomark _))
        (pss_one (ps_ret (pe_lst (pa_cons (pe_ix (ix_listK (K := K) rfl) (pv 0) (pv 1) (fun _ _ => rfl)) (pa_cons (pe_ix (ix_listK (K := K) rfl) (pv 0) (pv 1) (fun _ _ => rfl)) (pa_cons pe_int pa_nil))))))
        pss_nil)
      (pss_cons (ps_set (i := 2) sc__law_source.nd rfl (.inl rfl) (pe_call G__law_mixed hr (by rfl) m__law_mixed k__law_mixed b__law_mixed v__law_mixed pass0 (pa_cons (pe_call G__law_cell_at hr (by rfl) m__law_cell_at k__law_cell_at b__law_cell_at v__law_cell_at pass0 (pa_cons (pv 0) (pa_cons pe_int pa_nil))) (pa_cons (pe_op op_add pe_int (pv 1)) pa_nil))))
      (pss_one (ps_ret (pe_lst (pa_cons (pv 2) (pa_cons (pv 2) (pa_cons pe_int pa_nil)))))))), ?_⟩
    refine ⟨_, rfl, .ref a, rfl, a, ns.map V.int, rfl, .inl hS, _, _, rfl, rfl, _, rfl, ite2 (fun e => ?_) (fun e => ?_)⟩
    · have hk : k < ns.length := by
        have z := of_decide_eq_true e
        rw [List.length_map] at z
        omega
      have g : (ns.map V.int)[k]? = some (.int ns[k]) := by
        rw [List.getElem?_map, List.getElem?_eq_getElem hk]
        rfl
      refine ⟨.ref a, rfl, _, rfl, a, _, _, _, rfl, rfl, hS, atI_nat g, .ref a, rfl, _, rfl, a, _, _, _, rfl, rfl, hS, atI_nat g, by simp [sizeLine_eq], fun p hp => ?_⟩
      exact q _ p (same_upd hp) hp ⟨_, _, _, upd_same⟩
    · refine ⟨.ref a, rfl, a, ns, 0, rfl, hS, fun v => ⟨_, rfl, 1000, _, rfl, rfl, v, _, rfl, fun r _ _ => ?_⟩⟩
      refine ⟨_, rfl, _, rfl, by simp [sizeLine_eq], fun p hp => ?_⟩
      exact q _ p (same_upd hp) hp ⟨_, _, _, upd_same⟩
def spNext : Sp := fun vs H Q _ => ∃ (p : Addr) (m : Int), vs = [.ref p, .int m] ∧ 0 < m ∧ m < 2 ^ 300 ∧ SrcAt H p ∧ ∀ (r : Nat) H', (r : Int) < m → Stp p H H' → Q (.int (r : Nat)) H'
theorem ok_next {f : Addr} {fd : FuncData} (F : Fun K "_law_next" "_law_next" s__law_next f fd) (h2 : Has P w K mg base 1 "_law_mixed" ["_law_cell", "_law_k"] [] spMixed) : FnOk P w K mg base CX0 2 f fd ["_law_source_here", "_law_many"] spNext := by
  obtain ⟨f__law_mixed, fd__law_mixed, ds__law_mixed, G__law_mixed, m__law_mixed, k__law_mixed, b__law_mixed, v__law_mixed⟩ := h2
  refine F.ok sc__law_next (fun vs H Q E h => ?_) (fun cdv A outer s H vs Q E hr h => ?_)
  · obtain ⟨p, m, rfl, _⟩ := h
    rfl
  · obtain ⟨p, m, rfl, hm, hm2, ⟨a, b, c, hp⟩, q⟩ := h
    have fin : ∀ (x : Int) (H' : Hp), Stp p H H' → Q (.int (x % m)) H' := fun x H' s => by
      have h0 : 0 ≤ x % m := Int.emod_nonneg _ (by omega)
      have h1 : x % m < m := Int.emod_lt_of_pos _ hm
      have e : ((x % m).toNat : Int) = x % m := Int.toNat_of_nonneg h0
      have z := q (x % m).toNat H' (by omega) s
      rw [e] at z
      exact z
    have st : ∀ x y z : Int, Stp p H (upd H p (.lst [.int x, .int y, .int z])) := fun x y z => ⟨fun q o n e => by rw [upd_ne n]; exact e, ⟨x, y, z, upd_same⟩⟩
    refine ⟨_, (pss_cons (ps_if (pt_cmpR op_ge (pe_ix (ix_listK (K := K) rfl) (pv 0) pe_int (fun _ _ => rfl)) (pe_op op_pow pe_int pe_int) (nomark _))
        (pss_cons (ps_set (i := 2) sc__law_next.nd rfl (.inl rfl) (pe_op op_mod (pe_ix (ix_listK (K := K) rfl) (pv 0) pe_int (fun _ _ => rfl)) (pv 1)))
        (pss_cons (ps_asg (pe_op op_fdivW (pe_ix (ix_listK (K := K) rfl) (pv 0) pe_int (fun _ _ => rfl)) (pv 1)) (pg_sub (pv 0) pe_int set_list))
        (pss_one (ps_ret (pv 2)))))
        pss_nil)
      (pss_cons (ps_asg (pe_op op_add (pe_ix (ix_listK (K := K) rfl) (pv 0) pe_int (fun _ _ => rfl)) pe_int) (pg_sub (pv 0) pe_int set_list))
      (pss_one (ps_ret (pe_op op_mod (pe_call G__law_mixed hr (by rfl) m__law_mixed k__law_mixed b__law_mixed v__law_mixed pass0 (pa_cons (pe_ix (ix_listK (K := K) rfl) (pv 0) pe_int (fun _ _ => rfl)) (pa_cons (pe_ix (ix_listK (K := K) rfl) (pv 0) pe_int (fun _ _ => rfl)) pa_nil))) (pv 1)))))), ?_⟩
    refine ⟨.ref p, rfl, p, _, 0, .int a, rfl, rfl, SqL.of hp, atI_nat (j := 0) rfl, 10, 18, rfl, rfl, ⟨by decide, by decide, by decide⟩, a, _, rfl, rfl, _, rfl, ite2 (fun _ => ?_) (fun _ => ?_)⟩
    · refine ⟨.ref p, rfl, p, _, 0, .int a, rfl, rfl, SqL.of hp, atI_nat (j := 0) rfl, .int m, rfl, a, m, rfl, rfl, hm, ?_⟩
      refine ⟨.ref p, rfl, p, _, 0, .int a, rfl, rfl, SqL.of hp, atI_nat (j := 0) rfl, .int m, rfl, a, m, rfl, rfl, div_s hm hm2, ?_⟩
      refine ⟨.ref p, rfl, p, _, 0, 0, rfl, rfl, hp, rfl, ?_⟩
      exact ⟨_, rfl, fin a _ (st _ _ _)⟩
    · refine ⟨.ref p, rfl, p, _, 2, .int c, rfl, rfl, SqL.of hp, atI_nat (j := 2) rfl, c, 1, rfl, rfl, ?_⟩
      refine ⟨.ref p, rfl, p, _, 2, 2, rfl, rfl, hp, rfl, ?_⟩
      have h2 : (upd H p (.lst [.int a, .int b, .int (c + 1)])) p = some (.lst [.int a, .int b, .int (c + 1)]) := upd_same
      refine ⟨.ref p, rfl, p, _, 1, .int b, rfl, rfl, SqL.of h2, atI_nat (j := 1) rfl, .ref p, rfl, p, _, 2, .int (c + 1), rfl, rfl, SqL.of h2, atI_nat (j := 2) rfl, b, c + 1, rfl, fun r _ _ => ?_⟩
      exact ⟨.int m, rfl, r, m, rfl, rfl, hm, fin r _ (st _ _ _)⟩
end
/-! ### the law's bases -/
section
variable {P : Program} {w : World} {K : PySem.W.Frag} {mg : Str → Option Value} {base : Heap}
def spBase : Sp := fun vs H Q _ => ∃ (p : Addr), vs = [.ref p] ∧ SrcAt H p ∧ ∀ (b : Nat) H', 2 ≤ b → b ≤ 64 → Stp p H H' → Q (.int (b : Nat)) H'
theorem ok_base {f : Addr} {fd : FuncData} (F : Fun K "_law_base" "_law_base" s__law_base f fd) (h1 : Has P w K mg base 2 "_law_next" ["_law_source_here", "_law_many"] [] spNext) : FnOk P w K mg base CX0 3 f fd ["_law_source_here"] spBase := by
  obtain ⟨f__law_next, fd__law_next, ds__law_next, G__law_next, m__law_next, k__law_next, b__law_next, v__law_next⟩ := h1
  refine F.ok sc__law_base (fun vs H Q E h => ?_) (fun cdv A outer s H vs Q E hr h => ?_)
  · obtain ⟨p, rfl, _⟩ := h
    rfl
  · obtain ⟨p, rfl, hs, q⟩ := h
    refine ⟨_, (pss_one (ps_ret (pe_ix (ix_listK (K := K) rfl) (pe_lst (pa_cons pe_int (pa_cons pe_int (pa_cons pe_int (pa_cons pe_int (pa_cons pe_int (pa_cons pe_int (pa_cons pe_int (pa_cons pe_int (pa_cons pe_int pa_nil)))))))))) (pe_call G__law_next hr (by rfl) m__law_next k__law_next b__law_next v__law_next pass0 (pa_cons (pv 0) (pa_cons pe_int pa_nil))) (fun _ _ => rfl)))), ?_⟩
    refine ⟨by simp [sizeLine_eq], fun l hl => ?_⟩
    have s1 := same_upd (o := .lst [.int 2, .int 3, .int 4, .int 5, .int 7, .int 10, .int 16, .int 63, .int 64]) hl
    have nlp : l ≠ p := fun e => by
      obtain ⟨x, y, z, h⟩ := hs
      rw [e, h] at hl
      cases hl
    refine ⟨_, rfl, p, 9, rfl, by decide, by decide, hs.same s1, fun r H' hr9 st => ?_⟩
    have eL := st.keep _ _ nlp upd_same
    have hst : Stp p H H' := (hs.stp_same s1).trans st
    have hr : r < 9 := by omega
    have all : ∀ j : Nat, j < 9 → ∃ b : Nat, ([.int 2, .int 3, .int 4, .int 5, .int 7, .int 10, .int 16, .int 63, .int 64] : List V)[j]? = some (.int (b : Nat)) ∧ 2 ≤ b ∧ b ≤ 64 := by
      intro j hj
      match j, hj with
      | 0, _ => exact ⟨2, rfl, by decide, by decide⟩
      | 1, _ => exact ⟨3, rfl, by decide, by decide⟩
      | 2, _ => exact ⟨4, rfl, by decide, by decide⟩
      | 3, _ => exact ⟨5, rfl, by decide, by decide⟩
      | 4, _ => exact ⟨7, rfl, by decide, by decide⟩
      | 5, _ => exact ⟨10, rfl, by decide, by decide⟩
      | 6, _ => exact ⟨16, rfl, by decide, by decide⟩
      | 7, _ => exact ⟨63, rfl, by decide, by decide⟩
      | 8, _ => exact ⟨64, rfl, by decide, by decide⟩
      | j + 9, h => omega
    obtain ⟨b, eb, b2, b64⟩ := all r hr
    exact ⟨l, _, r, .int (b : Nat), rfl, rfl, SqL.of eL, atI_nat eb, q b H' b2 b64 hst⟩
end
/-! ### the law's ticks -/
theorem emod_le_self {a m : Int} (h : 0 ≤ a) (hm : 0 < m) : a % m ≤ a := by
  have e := Int.emod_add_mul_ediv a m
  have z : 0 ≤ m * (a / m) := Int.mul_nonneg (Int.le_of_lt hm) (Int.ediv_nonneg h (Int.le_of_lt hm))
  omega
theorem pow64_le {b j : Nat} (h : b ≤ 64) (hj : j ≤ 30) : b ^ j < 2 ^ 181 := by
  have h1 : b ^ j ≤ 64 ^ j := Nat.pow_le_pow_left h j
  have h2 : (64 : Nat) ^ j ≤ 64 ^ 30 := Nat.pow_le_pow_right (by decide) hj
  have h3 : (64 : Nat) ^ 30 < 2 ^ 181 := by decide
  omega
section
variable {P : Program} {w : World} {K : PySem.W.Frag} {mg : Str → Option Value} {base : Heap}
/-- a pick of a list of two, by a number less than 2 -/
theorem pick2 {x y : V} {r : Nat} (h : r < 2) : ([x, y] : List V)[r]? = some (if r = 0 then x else y) := by
  match r, h with
  | 0, _ => rfl
  | 1, _ => rfl
  | r + 2, h => omega
def spTick : Sp := fun vs H Q _ => ∃ (p : Addr) (b : Nat), vs = [.ref p, .int (b : Nat)] ∧ 2 ≤ b ∧ b ≤ 64 ∧ SrcAt H p ∧ ∀ (t : Nat) H', t < 2 ^ 190 → Stp p H H' → Q (.int (t : Nat)) H'
theorem ok_tick {f : Addr} {fd : FuncData} (F : Fun K "_law_tick" "_law_tick" s__law_tick f fd) (T : Tx K mg) (h1 : Has P w K mg base 2 "_law_next" ["_law_source_here", "_law_many"] [] spNext) : FnOk P w K mg base CX0 3 f fd ["_law_source_here", "_law_base_here"] spTick := by
  obtain ⟨f__law_next, fd__law_next, ds__law_next, G__law_next, m__law_next, k__law_next, b__law_next, v__law_next⟩ := h1
  refine F.ok sc__law_tick (fun vs H Q E h => ?_) (fun cdv A outer s H vs Q E hr h => ?_)
  · obtain ⟨p, b, rfl, _⟩ := h
    rfl
  · obtain ⟨p, b, rfl, hb2, hb64, hs, q⟩ := h
    have two : ∀ {H : Hp} {l : Addr} {o : HO}, SrcAt H p → H l = none → Stp p H (upd H l o) ∧ l ≠ p := fun {H l o} hs hl =>
      ⟨hs.stp_same (same_upd hl), fun e => by
        obtain ⟨x, y, z, h⟩ := hs
        rw [e, h] at hl
        cases hl⟩
    refine ⟨_, (pss_cons (ps_set (i := 2) sc__law_tick.nd rfl (.inl rfl) (pe_call G__law_next hr (by rfl) m__law_next k__law_next b__law_next v__law_next pass0 (pa_cons (pv 0) (pa_cons pe_int pa_nil))))
      (pss_cons (ps_if (pt_cmpR op_lt (pv 2) pe_int (nomark _))
        (pss_one (ps_ret (pe_call G__law_next hr (by rfl) m__law_next k__law_next b__law_next v__law_next pass0 (pa_cons (pv 0) (pa_cons (pe_ix (ix_listK (K := K) rfl) (pe_lst (pa_cons pe_int (pa_cons pe_int pa_nil))) (pv 2) (fun _ _ => rfl)) pa_nil)))))
        pss_nil)
      (pss_cons (ps_set (i := 3) sc__law_tick.nd rfl (.inl rfl) pe_int)
      (pss_cons (ps_for PassesOwn.never rfl (pi_range1 (by rfl) T.b_range (pa_cons (pe_call G__law_next hr (by rfl) m__law_next k__law_next b__law_next v__law_next pass0 (pa_cons (pv 0) (pa_cons (pe_ix (ix_listK (K := K) rfl) (pe_lst (pa_cons pe_int (pa_cons pe_int pa_nil))) (pe_call G__law_next hr (by rfl) m__law_next k__law_next b__law_next v__law_next pass0 (pa_cons (pv 0) (pa_cons pe_int pa_nil))) (fun _ _ => rfl)) pa_nil))) pa_nil)) (pg_name (i := 4) sc__law_tick.nd rfl (.inl rfl))
        (pss_one (ps_set (i := 3) sc__law_tick.nd rfl (.inl rfl) (pe_op op_mulA (pv 3) (pv 1)))))
      (pss_cons (ps_set (i := 3) sc__law_tick.nd rfl (.inl rfl) (pe_op op_mod (pv 3) (pe_op op_pow pe_int pe_int)))
      (pss_cons (ps_if (pt_cmpR op_eq (pv 2) pe_int (nomark _))
        (pss_one (ps_ret (pe_callB (call_max2 rfl) (by rfl) T.b_max (by decide +kernel) (pa_cons pe_int (pa_cons (pe_op op_sub (pe_op op_add (pv 3) (pe_call G__law_next hr (by rfl) m__law_next k__law_next b__law_next v__law_next pass0 (pa_cons (pv 0) (pa_cons pe_int pa_nil)))) pe_int) pa_nil)))))
        pss_nil)
      (pss_cons (ps_if (pt_cmpR op_eq (pv 2) pe_int (nomark _))
        (pss_one (ps_ret (pe_op op_add (pe_op op_mulA (pv 3) (pe_op op_add pe_int (pe_call G__law_next hr (by rfl) m__law_next k__law_next b__law_next v__law_next pass0 (pa_cons (pv 0) (pa_cons (pv 1) pa_nil))))) (pe_call G__law_next hr (by rfl) m__law_next k__law_next b__law_next v__law_next pass0 (pa_cons (pv 0) (pa_cons (pv 1) pa_nil))))))
        pss_nil)
      (pss_one (ps_ret (pe_op op_add (pe_op op_mulA (pe_call G__law_next hr (by rfl) m__law_next k__law_next b__law_next v__law_next pass0 (pa_cons (pv 0) (pa_cons (pe_op op_pow pe_int pe_int) pa_nil))) (pe_op op_pow pe_int pe_int)) (pe_call G__law_next hr (by rfl) m__law_next k__law_next b__law_next v__law_next pass0 (pa_cons (pv 0) (pa_cons (pe_op op_pow pe_int pe_int) pa_nil))))))))))))), ?_⟩
    -- sort = next(source, 5)
    refine ⟨_, rfl, p, 5, rfl, by decide, by decide, hs, fun r0 H1 hr0 s1 => ?_⟩
    refine ⟨_, rfl, _, 2, rfl, rfl, _, rfl, ite2 (fun e => ?_) (fun e0 => ?_)⟩
    · -- near ones
      have hr2 : r0 < 2 := by
        have z := of_decide_eq_true e
        omega
      refine ⟨_, rfl, by simp [sizeLine_eq], fun l hl => ?_⟩
      obtain ⟨s2, nl⟩ := two (o := .lst [.int 6, .int 400]) s1.src hl
      refine ⟨_, rfl, l, _, r0, _, rfl, rfl, SqL.of upd_same, atI_nat (pick2 hr2), p, if r0 = 0 then 6 else 400, ?_, ?_, ?_, s2.src, fun r H2 hr s3 => ?_⟩
      · show [V.ref p, if r0 = 0 then V.int 6 else V.int 400] = _
        split <;> rfl
      · split <;> decide
      · split <;> decide
      · refine q r H2 ?_ ((s1.trans s2).trans s3)
        have z : r < 400 := by
          split at hr <;> omega
        exact Nat.lt_trans z (by decide)
    · -- size = 1; for at in range(next(..)): size = size * base
      refine ⟨_, rfl, by simp [sizeLine_eq], fun l hl => ?_⟩
      obtain ⟨s2, nl⟩ := two (o := .lst [.int 4, .int 30]) s1.src hl
      refine ⟨_, rfl, p, 2, rfl, by decide, by decide, s2.src, fun r1 H2 hr1 s3 => ?_⟩
      have eL : H2 l = some (.lst [.int 4, .int 30]) := s3.keep _ _ nl upd_same
      refine ⟨l, _, r1, _, rfl, rfl, SqL.of eL, atI_nat (pick2 (by omega)), p, if r1 = 0 then 4 else 30, ?_, ?_, ?_, s3.src, fun r2 H3 hr2 s4 => ?_⟩
      · show [V.ref p, if r1 = 0 then V.int 4 else V.int 30] = _
        split <;> rfl
      · split <;> decide
      · split <;> decide
      have hr30 : r2 < 30 := by
        split at hr2 <;> omega
      have s14 := ((s1.trans s2).trans s3).trans s4
      refine ⟨_, rfl, by omega, by omega, for_range (Pv := fun i σ H' => H' = H3 ∧ ∃ y, σ = [some (.ref p), some (.int (b : Nat)), some (.int (r0 : Nat)), some (.int ((b ^ i : Nat) : Int)), y]) ⟨rfl, none, rfl⟩ ?_ ?_⟩
      · rintro i σ H' hi ⟨rfl, y, rfl⟩
        have hi30 : i < 30 := by omega
        have hb : b ^ i < 2 ^ 181 := pow64_le hb64 (by omega)
        refine ⟨_, rfl, _, rfl, _, _, rfl, rfl, mul_r (by omega) (by omega), ?_⟩
        refine ⟨rfl, some (.int (0 + (i : Int))), ?_⟩
        rw [Nat.pow_succ, Int.natCast_mul]
        rfl
      · rintro σ H' ⟨rfl, y, rfl⟩
        have h58 : (0 : Int) < (10 : Int) ^ (58 : Int).toNat := by decide
        refine ⟨_, rfl, 10, 58, rfl, rfl, ⟨by decide, by decide, by decide⟩, _, _, rfl, rfl, h58, ?_⟩
        generalize hz : (((b ^ ((r2 : Nat) : Int).toNat : Nat) : Int) % (10 : Int) ^ (58 : Int).toNat) = z
        have z0 : 0 ≤ z := by
          rw [← hz]
          exact Int.emod_nonneg _ (by decide)
        have z1 : z < 2 ^ 181 := by
          rw [← hz]
          refine Int.lt_of_le_of_lt (emod_le_self (by omega) (by decide)) ?_
          have := pow64_le (j := ((r2 : Nat) : Int).toNat) hb64 (by omega)
          omega
        -- sort == 2
        refine ⟨_, rfl, rfl, _, rfl, ite2 (fun _ => ?_) (fun _ => ?_)⟩
        · refine ⟨_, rfl, _, rfl, p, 3, rfl, by decide, by decide, s14.src, fun r3 H4 hr3 s5 => ?_⟩
          refine ⟨z, r3, congrArg V.int hz, rfl, _, 1, rfl, rfl, 0, _, rfl, ?_⟩
          have e3 : (if z + (r3 : Int) - 1 > 0 then z + (r3 : Int) - 1 else 0) = (((if z + (r3 : Int) - 1 > 0 then z + (r3 : Int) - 1 else 0).toNat : Nat) : Int) := by
            split <;> omega
          show Q (.int (if z + (r3 : Int) - 1 > 0 then z + (r3 : Int) - 1 else 0)) H4
          rw [e3]
          refine q _ H4 ?_ (s14.trans s5)
          split <;> omega
        · refine ⟨_, rfl, rfl, _, rfl, ite2 (fun _ => ?_) (fun _ => ?_)⟩
          · refine ⟨_, rfl, _, rfl, _, rfl, p, b, rfl, by omega, by omega, s14.src, fun r3 H4 hr3 s5 => ?_⟩
            refine ⟨1, r3, rfl, rfl, z, _, congrArg V.int hz, rfl, mul_r (by omega) (by omega), _, rfl, _, rfl, p, b, rfl, by omega, by omega, s5.src, fun r4 H5 hr4 s6 => ?_⟩
            refine ⟨_, _, rfl, rfl, ?_⟩
            have zr : z * (1 + (r3 : Int)) ≤ z * 65 := Int.mul_le_mul_of_nonneg_left (by omega) z0
            have zr0 : 0 ≤ z * (1 + (r3 : Int)) := Int.mul_nonneg z0 (by omega)
            have e3 : z * (1 + (r3 : Int)) + (r4 : Int) = (((z * (1 + (r3 : Int)) + (r4 : Int)).toNat : Nat) : Int) := by omega
            show Q (.int (z * (1 + (r3 : Int)) + (r4 : Int))) H5
            rw [e3]
            exact q _ H5 (by omega) ((s14.trans s5).trans s6)
          · refine ⟨_, rfl, 10, 9, rfl, rfl, ⟨by decide, by decide, by decide⟩, p, _, rfl, by decide, by decide, s14.src, fun r3 H4 hr3 s5 => ?_⟩
            have hr3' : r3 < 10 ^ 9 := by
              have q : (r3 : Int) < 10 ^ (9 : Int).toNat := hr3
              have e : (10 : Int) ^ (9 : Int).toNat = 1000000000 := by decide
              omega
            have e20 : (10 : Int) ^ (20 : Int).toNat = 100000000000000000000 := by decide
            refine ⟨10, 20, rfl, rfl, ⟨by decide, by decide, by decide⟩, _, _, rfl, rfl, mul_l (by omega) (by omega), _, rfl, 10, 6, rfl, rfl, ⟨by decide, by decide, by decide⟩, p, _, rfl, by decide, by decide, s5.src, fun r4 H5 hr4 s6 => ?_⟩
            have hr4' : r4 < 10 ^ 6 := by
              have q : (r4 : Int) < 10 ^ (6 : Int).toNat := hr4
              have e : (10 : Int) ^ (6 : Int).toNat = 1000000 := by decide
              omega
            refine ⟨_, _, rfl, rfl, ?_⟩
            show Q (.int ((r3 : Int) * (10 : Int) ^ (20 : Int).toNat + (r4 : Int))) H5
            rw [e20]
            have e3 : (r3 : Int) * 100000000000000000000 + (r4 : Int) = ((r3 * 100000000000000000000 + r4 : Nat) : Int) := by omega
            rw [e3]
            exact q _ H5 (by omega) ((s14.trans s5).trans s6)
end
section
variable {P : Program} {w : World} {K : PySem.W.Frag} {mg : Str → Option Value} {base : Heap}
def spPair : Sp := fun vs H Q _ => ∃ (p : Addr) (b : Nat), vs = [.ref p, .int (b : Nat)] ∧ 2 ≤ b ∧ b ≤ 64 ∧ SrcAt H p ∧ ∀ (n d : Nat) H' T, n < d → d < 2 ^ 192 → Stp p H H' → H T = none → H' T = some (.tup [.int (n : Nat), .int (d : Nat)]) → Q (.ref T) H'
theorem ok_pair {f : Addr} {fd : FuncData} (F : Fun K "_law_pair" "_law_pair" s__law_pair f fd) (T : Tx K mg) (h1 : Has P w K mg base 2 "_law_next" ["_law_source_here", "_law_many"] [] spNext)
    (h2 : Has P w K mg base 3 "_law_tick" ["_law_source_here", "_law_base_here"] [] spTick) : FnOk P w K mg base CX0 4 f fd ["_law_source_here", "_law_base_here"] spPair := by
  obtain ⟨f__law_next, fd__law_next, ds__law_next, G__law_next, m__law_next, k__law_next, b__law_next, v__law_next⟩ := h1
  obtain ⟨f__law_tick, fd__law_tick, ds__law_tick, G__law_tick, m__law_tick, k__law_tick, b__law_tick, v__law_tick⟩ := h2
  refine F.ok sc__law_pair (fun vs H Q E h => ?_) (fun cdv A outer s H vs Q E hr h => ?_)
  · obtain ⟨p, b, rfl, _⟩ := h
    rfl
  · obtain ⟨p, b, rfl, hb2, hb64, hs, q⟩ := h
    refine ⟨_, (pss_cons (ps_set (i := 2) sc__law_pair.nd rfl (.inl rfl) (pe_call G__law_tick hr (by rfl) m__law_tick k__law_tick b__law_tick v__law_tick pass0 (pa_cons (pv 0) (pa_cons (pv 1) pa_nil))))
      (pss_cons (ps_set (i := 3) sc__law_pair.nd rfl (.inl rfl) (pe_ix (ix_listK (K := K) rfl) (pe_lst (pa_cons (pe_call G__law_tick hr (by rfl) m__law_tick k__law_tick b__law_tick v__law_tick pass0 (pa_cons (pv 0) (pa_cons (pv 1) pa_nil))) (pa_cons (pe_op op_add (pe_op op_add (pv 2) pe_int) (pe_call G__law_next (hr.mono (by decide)) (by rfl) m__law_next k__law_next b__law_next v__law_next pass0 (pa_cons (pv 0) (pa_cons (pe_op op_mulA pe_int (pv 1)) pa_nil)))) pa_nil))) (pe_call G__law_next (hr.mono (by decide)) (by rfl) m__law_next k__law_next b__law_next v__law_next pass0 (pa_cons (pv 0) (pa_cons pe_int pa_nil))) (fun _ _ => rfl)))
      (pss_cons (ps_if (pt_cmpR op_eq (pv 2) (pv 3) (nomark _))
        (pss_one (ps_set (i := 3) sc__law_pair.nd rfl (.inl rfl) (pe_op op_add (pv 2) pe_int)))
        pss_nil)
      (pss_one (ps_ret (pe_tup (pa_cons (pe_callB (call_min2 rfl) (by rfl) T.b_min (by decide +kernel) (pa_cons (pv 2) (pa_cons (pv 3) pa_nil))) (pa_cons (pe_callB (call_max2 rfl) (by rfl) T.b_max (by decide +kernel) (pa_cons (pv 2) (pa_cons (pv 3) pa_nil))) pa_nil)))))))), ?_⟩
    refine ⟨_, rfl, _, rfl, p, b, rfl, hb2, hb64, hs, fun x H1 hx s1 => ?_⟩
    refine ⟨_, rfl, _, rfl, p, b, rfl, hb2, hb64, s1.src, fun y H2 hy s2 => ?_⟩
    refine ⟨_, rfl, _, 1, rfl, rfl, _, rfl, _, rfl, 3, b, rfl, rfl, mul_l (by decide) (by decide), p, _, rfl, by omega, by omega, s2.src, fun r H3 hr3 s3 => ?_⟩
    refine ⟨_, r, rfl, rfl, by simp [sizeLine_eq], fun l hl => ?_⟩
    have nl : l ≠ p := fun e => by
      obtain ⟨x, y, z, h⟩ := s3.src
      rw [e, h] at hl
      cases hl
    have s4 : Stp p H3 (upd H3 l (.lst [.int (y : Nat), .int ((x : Int) + 1 + (r : Nat))])) := s3.src.stp_same (same_upd hl)
    refine ⟨_, rfl, p, 2, rfl, by decide, by decide, s4.src, fun c H4 hc s5 => ?_⟩
    have eL : H4 l = some (.lst [.int (y : Nat), .int ((x : Int) + 1 + (r : Nat))]) := s5.keep _ _ nl upd_same
    refine ⟨l, _, c, _, rfl, rfl, SqL.of eL, atI_nat (pick2 (by omega)), ?_⟩
    have s05 := (((s1.trans s2).trans s3).trans s4).trans s5
    -- the other one
    have ez : ∃ z : Nat, z < 2 ^ 191 ∧ (if c = 0 then V.int (y : Nat) else V.int ((x : Int) + 1 + (r : Nat))) = V.int (z : Nat) := by
      by_cases e : c = 0
      · exact ⟨y, by omega, if_pos e⟩
      · refine ⟨x + 1 + r, ?_, if_neg e⟩
        have hr4 : (r : Int) < 3 * (b : Int) := hr3
        omega
    obtain ⟨z, hz, ez⟩ := ez
    rw [ez]
    have last : ∀ z' : Nat, z' < 2 ^ 192 → z' ≠ x → tRet (tTup (tCons (tCB (fun xs H Q => ∃ i j, xs = [V.int i, V.int j] ∧ Q (V.int (if j < i then j else i)) H) (tCons (tVar 2) (tCons (tVar 3) tNil))) (tCons (tCB (fun xs H Q => ∃ i j, xs = [V.int i, V.int j] ∧ Q (V.int (if j > i then j else i)) H) (tCons (tVar 2) (tCons (tVar 3) tNil))) tNil)))
        { nx := fun _ H' => Q .non H', rt := Q } [some (.ref p), some (.int (b : Nat)), some (.int (x : Nat)), some (.int (z' : Nat))] H4 := by
      intro z' hz' hne
      refine ⟨_, rfl, _, rfl, _, _, rfl, _, rfl, _, rfl, _, _, rfl, by simp [sizeLine_eq], fun t ht => ?_⟩
      have st := s05.same (same_upd (o := .tup [.int (if (z' : Int) < (x : Int) then (z' : Int) else (x : Int)), .int (if (z' : Int) > (x : Int) then (z' : Int) else (x : Int))]) ht)
      by_cases l : z' < x
      · refine q z' x _ t l (by omega) st (s05.free ht) ?_
        rw [upd_same, if_pos (by omega), if_neg (by omega)]
      · refine q x z' _ t (by omega) hz' st (s05.free ht) ?_
        rw [upd_same, if_neg (by omega), if_pos (by omega)]
    refine ⟨_, rfl, _, rfl, rfl, _, rfl, ite2 (fun e => ?_) (fun e => ?_)⟩
    · have exz : x = z := Int.ofNat.inj (V.int.inj (of_decide_eq_true e))
      refine ⟨_, rfl, _, 1, rfl, rfl, ?_⟩
      exact last (x + 1) (by omega) (by omega)
    · have nxz : z ≠ x := fun q => e (decide_eq_true (by rw [q]))
      exact last z (by omega) nxz
end
section
variable {P : Program} {w : World} {K : PySem.W.Frag} {mg : Str → Option Value} {base : Heap}
theorem flat_rep {α : Type} (x : α) : ∀ n : Nat, (List.replicate n [x]).flatten = List.replicate n x
  | 0 => rfl
  | n + 1 => by
    rw [List.replicate_succ, List.flatten_cons, flat_rep x n, List.replicate_succ]
    rfl
theorem pick_lv {r : Nat} (h : r < 2) : ([.str "stack", .str "queue"] : List V)[r]? = some (lvV (decide (r = 0))) := by
  match r, h with
  | 0, _ => rfl
  | 1, _ => rfl
  | r + 2, h => omega
theorem pick_vl {r : Nat} (h : r < 2) : ([.str "queue", .str "stack"] : List V)[r]? = some (lvV (decide (r = 1))) := by
  match r, h with
  | 0, _ => rfl
  | 1, _ => rfl
  | r + 2, h => omega
def spLevels : Sp := fun vs H Q _ => ∃ (p : Addr), vs = [.ref p] ∧ SrcAt H p ∧ ∀ H' q (ws : List Bool), Stp p H H' → H q = none → H' q = some (.lst (ws.map lvV)) → ws ≠ [] → ws.length ≤ 60 → Q (.ref q) H'
theorem ok_levels {f : Addr} {fd : FuncData} (F : Fun K "_law_levels" "_law_levels" s__law_levels f fd) (T : Tx K mg) (h1 : Has P w K mg base 2 "_law_next" ["_law_source_here", "_law_many"] [] spNext) : FnOk P w K mg base CX0 3 f fd ["_law_source_here"] spLevels := by
  obtain ⟨f__law_next, fd__law_next, ds__law_next, G__law_next, m__law_next, k__law_next, b__law_next, v__law_next⟩ := h1
  refine F.ok sc__law_levels (fun vs H Q E h => ?_) (fun cdv A outer s H vs Q E hr h => ?_)
  · obtain ⟨p, rfl, _⟩ := h
    rfl
  · obtain ⟨p, rfl, hs, c⟩ := h
    refine ⟨_, (pss_cons (ps_set (i := 1) sc__law_levels.nd rfl (.inl rfl) (pe_ix (ix_listK (K := K) rfl) (pe_lst (pa_cons (pe_op op_add pe_int (pe_call G__law_next hr (by rfl) m__law_next k__law_next b__law_next v__law_next pass0 (pa_cons (pv 0) (pa_cons pe_int pa_nil)))) (pa_cons (pe_op op_add pe_int (pe_call G__law_next hr (by rfl) m__law_next k__law_next b__law_next v__law_next pass0 (pa_cons (pv 0) (pa_cons pe_int pa_nil)))) pa_nil))) (pe_callTy call_int1 (by rfl) T.b_int (by decide +kernel) (pa_cons (pe_cmpR op_eq (pe_call G__law_next hr (by rfl) m__law_next k__law_next b__law_next v__law_next pass0 (pa_cons (pv 0) (pa_cons pe_int pa_nil))) pe_int (nomark _)) pa_nil)) (fun _ _ => rfl)))
      (pss_cons (ps_set (i := 2) sc__law_levels.nd rfl (.inl rfl) (pe_call G__law_next hr (by rfl) m__law_next k__law_next b__law_next v__law_next pass0 (pa_cons (pv 0) (pa_cons pe_int pa_nil))))
      (pss_cons (ps_if (pt_cmpR op_lt (pv 2) pe_int (nomark _))
        (pss_one (ps_ret (pe_op op_rep (pe_lst (pa_cons (pe_ix (ix_listK (K := K) rfl) (pe_lst (pa_cons pe_str (pa_cons pe_str pa_nil))) (pv 2) (fun _ _ => rfl)) pa_nil)) (pv 1))))
        pss_nil)
      (pss_cons (ps_setLc (i := 3) (own := [("_law_at", 4)]) (g := gName 4) (tt := tYes) rfl sc__law_levels.nd rfl rfl (sw_true rfl rfl rfl (by decide +kernel)) (pi_range1 (by rfl) T.b_range (pa_cons (pv 1) pa_nil)) (blkOk_by (own := [("_law_at", 4)]) (N := N__law_levels) (sc := defScope s__law_levels) (by decide +kernel)) (fun _ _ _ _ _ => (pg_name (i := 4) sc__law_levels.nd rfl (.inl rfl))) (fun _ _ _ _ _ => pts_nil) (fun _ _ _ _ _ => (pe_ix (ix_listK (K := K) rfl) (pe_lst (pa_cons pe_str (pa_cons pe_str pa_nil))) (pe_call G__law_next hr (by rfl) m__law_next k__law_next b__law_next v__law_next pass0 (pa_cons (pv 0) (pa_cons pe_int pa_nil))) (fun _ _ => rfl))))
      (pss_cons (ps_if (pt_cmpR op_eq (pv 2) pe_int (nomark _))
        (pss_one (ps_setLc (i := 3) (own := [("_law_at", 4)]) (g := gName 4) (tt := tYes) rfl sc__law_levels.nd rfl rfl (sw_true rfl rfl rfl (by decide +kernel)) (pi_range1 (by rfl) T.b_range (pa_cons (pv 1) pa_nil)) (blkOk_by (own := [("_law_at", 4)]) (N := N__law_levels) (sc := defScope s__law_levels) (by decide +kernel)) (fun _ _ _ _ _ => (pg_name (i := 4) sc__law_levels.nd rfl (.inl rfl))) (fun _ _ _ _ _ => pts_nil) (fun _ _ _ _ _ => (pe_ix (ix_listK (K := K) rfl) (pe_lst (pa_cons pe_str (pa_cons pe_str pa_nil))) (pe_op op_mod (pv 4) pe_int) (fun _ _ => rfl)))))
        pss_nil)
      (pss_one (ps_ret (pv 3)))))))), ?_⟩
    -- many
    refine ⟨_, rfl, p, 6, rfl, by decide, by decide, hs, fun r1 H1 hr1 s1 => ⟨1, r1, rfl, rfl, _, rfl, p, 60, rfl, by decide, by decide, s1.src, fun r2 H2 hr2 s2 => ⟨1, r2, rfl, rfl, by simp [sizeLine_eq], fun l hl => ?_⟩⟩⟩
    have s3 : Stp p H2 (upd H2 l (.lst [.int (1 + (r1 : Int)), .int (1 + (r2 : Int))])) := s2.src.stp_same (same_upd hl)
    refine ⟨_, rfl, p, 5, rfl, by decide, by decide, s3.src, fun r3 H4 hr3 s4 => ⟨rfl, .inr ⟨_, rfl, ?_⟩⟩⟩
    have eL := s4.keep _ _ (s2.src.ne hl) upd_same
    obtain ⟨m, em, hm0, hm⟩ : ∃ m : Nat, ([.int (1 + (r1 : Int)), .int (1 + (r2 : Int))] : List V)[if decide (V.int (r3 : Nat) = V.int 4) = true then 1 else 0]? = some (.int (m : Nat)) ∧ 1 ≤ m ∧ m ≤ 60 := by
      split
      · exact ⟨1 + r2, rfl, by omega, by omega⟩
      · exact ⟨1 + r1, rfl, by omega, by omega⟩
    refine ⟨l, _, ((if decide (V.int (r3 : Nat) = V.int 4) = true then 1 else 0 : Nat) : Int), _, rfl, ?_, SqL.of eL, atI_nat em, ?_⟩
    · split <;> rfl
    have s04 := ((s1.trans s2).trans s3).trans s4
    -- sort
    refine ⟨_, rfl, p, 5, rfl, by decide, by decide, s4.src, fun r5 H5 hr5 s5 => ?_⟩
    have s05 := s04.trans s5
    refine ⟨_, rfl, _, 2, rfl, rfl, _, rfl, ite2 (fun e => ?_) (fun e0 => ?_)⟩
    · have hr2' : r5 < 2 := by
        have z := of_decide_eq_true e
        omega
      refine ⟨by simp [sizeLine_eq], fun l6 hl6 => ?_⟩
      refine ⟨_, rfl, l6, _, r5, _, rfl, rfl, SqL.of upd_same, atI_nat (pick_lv hr2'), by simp [sizeLine_eq], fun l7 hl7 => ?_⟩
      refine ⟨_, rfl, l7, (m : Nat), _, rfl, rfl, upd_same, by omega, by omega, ?_, fun q hq => ?_⟩
      · exact sizeLine_le (by show 1 * m ≤ 1000000; omega)
      · have s8 := ((s05.same (same_upd hl6)).same (same_upd hl7)).same (same_upd (o := .lst (List.replicate ((m : Nat) : Int).toNat [lvV (decide (r5 = 0))]).flatten) hq)
        refine c _ q (List.replicate m (decide (r5 = 0))) s8 ?_ ?_ ?_ ?_
        · exact ((s05.same (same_upd hl6)).same (same_upd hl7)).free hq
        · rw [upd_same, flat_rep, List.map_replicate]
          rfl
        · intro e
          have z := congrArg List.length e
          rw [List.length_replicate] at z
          exact absurd z (by show ¬ m = 0; omega)
        · rw [List.length_replicate]
          exact hm
    · -- drawn words
      refine ⟨_, rfl, m, rfl, by omega, by omega, fun D hD => lc_range (lo := 0) (n := ((m : Nat) : Int).toNat) (fun i H' => Stp p H5 H' ∧ ∃ ws : List Bool, ws.length = i ∧ H' D = some (.lst (ws.map lvV)))
        ⟨s5.src.stp_same (same_upd hD), [], rfl, upd_same⟩ ?_ ?_⟩
      · rintro i H' hi ⟨st, ws, hw, eD⟩
        have nDp : D ≠ p := s5.src.ne hD
        refine ⟨rfl, yesT (iteT ?_)⟩
        refine ⟨by simp [sizeLine_eq], fun l8 hl8 => ?_⟩
        have s8 : Stp p H' (upd H' l8 (.lst [.str "queue", .str "stack"])) := st.src.stp_same (same_upd hl8)
        refine ⟨_, rfl, p, 2, rfl, by decide, by decide, s8.src, fun r9 H9 hr9 s9 => ?_⟩
        have eL8 := s9.keep _ _ (st.src.ne hl8) upd_same
        have eD9 := s9.keep _ _ nDp (s8.keep _ _ nDp eD)
        refine ⟨l8, _, r9, _, rfl, rfl, SqL.of eL8, atI_nat (pick_vl (by omega)), _, eD9, ?_, ⟨fun b o n e => ?_, ?_⟩, ws ++ [decide (r9 = 1)], ?_, ?_⟩
        · rw [List.length_map, hw]
          exact sizeLine_ge (by omega)
        · rw [upd_ne (ne_of_none e hD)]
          exact s9.keep _ _ n (s8.keep _ _ n (st.keep _ _ n e))
        · obtain ⟨x, y, z, h⟩ := s9.src
          exact ⟨x, y, z, by rw [upd_ne nDp.symm]; exact h⟩
        · rw [List.length_append, hw]
          rfl
        · rw [upd_same, List.map_append]
          rfl
      rintro H6 ⟨s6, ws, hw, eD⟩
      have hw' : ws.length = m := by rw [hw]; exact Int.toNat_natCast m
      have s06 := s05.trans s6
      have last : ∀ H7 q (vs : List Bool), Stp p H H7 → H q = none → H7 q = some (.lst (vs.map lvV)) → vs.length = m → Q (.ref q) H7 := fun H7 q vs st hq eq hv =>
        c H7 q vs st hq eq (fun e => by
          rw [e] at hv
          exact absurd hv (by show ¬ 0 = m; omega)) (by omega)
      have hD0 : H D = none := s05.free hD
      refine ⟨_, rfl, rfl, _, rfl, ite2 (fun e => ?_) (fun e => ?_)⟩
      · refine ⟨_, rfl, m, rfl, by omega, by omega, fun D2 hD2 => lc_range (lo := 0) (n := ((m : Nat) : Int).toNat) (fun i H' => Same H6 H' ∧ ∃ ws : List Bool, ws.length = i ∧ H' D2 = some (.lst (ws.map lvV)))
          ⟨same_upd hD2, [], rfl, upd_same⟩ ?_ ?_⟩
        · rintro i H' hi ⟨st, ws2, hw2, eD2⟩
          refine ⟨rfl, yesT (iteT ?_)⟩
          refine ⟨by simp [sizeLine_eq], fun l8 hl8 => ?_⟩
          have s8 := same_upd (o := .lst [.str "queue", .str "stack"]) hl8
          have ei : (0 + (i : Int)) % 2 = ((i % 2 : Nat) : Int) := by omega
          refine ⟨_, rfl, _, 2, rfl, rfl, (by decide : (0 : Int) < 2), l8, _, ((i % 2 : Nat) : Int), _, rfl, congrArg V.int ei, SqL.of upd_same, atI_nat (pick_vl (Nat.mod_lt i (by decide))), _, s8 _ _ eD2, ?_, fun b o e => ?_, ws2 ++ [decide (i % 2 = 1)], ?_, ?_⟩
          · rw [List.length_map, hw2]
            exact sizeLine_ge (by omega)
          · rw [upd_ne (ne_of_none e hD2)]
            exact s8 _ _ (st _ _ e)
          · rw [List.length_append, hw2]
            rfl
          · rw [upd_same, List.map_append]
            rfl
        rintro H7 ⟨s7, ws2, hw2, eD2⟩
        refine ⟨_, rfl, last H7 D2 ws2 (s06.same s7) (s06.free hD2) eD2 ?_⟩
        rw [hw2]
        exact Int.toNat_natCast m
      · exact ⟨_, rfl, last H6 D ws s06 hD0 eD hw'⟩
end
/-! ### law k18: what is bad -/
/-- what is bad at the place at_: a base, levels, a tick; told of every heap that keeps what is new in H' -/
def BadAt (K : PySem.W.Frag) (H : Hp) (at_ n f : Nat) (x : V) : Prop := match at_ with
  | 0 => BadBase K H x
  | 1 => BadLevels K H x
  | 2 => BadTick K H x 0
  | 3 => BadTick K H x ((n : Int) + 1)
  | _ => BadTick K H x (f : Nat)
def KeepsNew (H H' H'' : Hp) : Prop := ∀ c o, H c = none → H' c = some o → H'' c = some o
def badBs (a c d : Addr) : List V := [.non, .int 1, .int 0, .int (-2), .int 65, .bl true, .str "10", .ref a, .ref c, .ref d, .int (10 ^ (30 : Int).toNat)]
theorem bad_base {K : PySem.W.Frag} {H : Hp} {a c d : Addr} {xs ys : List V} (ha : H a = some (.lst xs)) (hc : H c = some (.tup ys)) (hd : H d = some (.dK [])) : ∀ x ∈ badBs a c d, BadBase K H x := by
  intro x hx
  have z1 : (64 : Int) < 10 ^ (30 : Int).toNat := by decide
  have hx1 : x = .non ∨ x = .int 1 ∨ x = .int 0 ∨ x = .int (-2) ∨ x = .int 65 ∨ x = .bl true ∨ x = .str "10" ∨ x = .ref a ∨ x = .ref c ∨ x = .ref d ∨ x = .int (10 ^ (30 : Int).toNat) := by
    simpa [badBs] using hx
  rcases hx1 with e | e | e | e | e | e | e | e | e | e | e <;> subst e
  · exact .inl .of_non
  · exact .inr ⟨1, rfl, .inl (by decide)⟩
  · exact .inr ⟨0, rfl, .inl (by decide)⟩
  · exact .inr ⟨-2, rfl, .inl (by decide)⟩
  · exact .inr ⟨65, rfl, .inr (by decide)⟩
  · exact .inl (.of_bl true)
  · exact .inl (.of_str _)
  · exact .inl (.of_lst ha)
  · exact .inl (.of_tup hc)
  · exact .inl (.of_dK hd)
  · exact .inr ⟨_, rfl, .inr z1⟩
theorem nota_non {K : PySem.W.Frag} {H : Hp} {c : String} (h : kitB "NoneType" c = some false) : NotA K H c .non := ⟨_, .base .non, h⟩
theorem bad_two {K : PySem.W.Frag} {H : Hp} {l : Addr} {v : V} (b : Bool) (hl : H l = some (.lst [lvV b, v])) (hv : NoWord K H v) : BadLevels K H (.ref l) :=
  .inr ⟨l, _, rfl, SqL.of hl, .inr (.inr ⟨by simp, fun y hy => by
    rcases List.mem_cons.mp hy with e | hy
    · exact .inl ⟨b, e⟩
    · rw [List.mem_singleton.mp hy]
      exact .inr hv, v, by simp, hv⟩)⟩
def badLs (l1 l3 t4 l5 l6 l8 d1 l9 l10 : Addr) : List V := [.non, .ref l1, .ref l3, .ref t4, .str "stack", .ref l5, .ref l6, .ref l8] ++ [.ref d1, .ref l9, .ref l10, .int 5]
theorem bad_levels {K : PySem.W.Frag} {H : Hp} {l1 l3 t4 l5 l6 l7 l8 d1 l9 d2 l10 : Addr} (e1 : H l1 = some (.lst [])) (e3 : H l3 = some (.lst (List.replicate (61 : Int).toNat [V.str "stack"]).flatten)) (e4 : H t4 = some (.tup [.str "stack"])) (e5 : H l5 = some (.lst [.str "Stack"]))
    (e6 : H l6 = some (.lst [.str "stack", .non])) (e7 : H l7 = some (.lst [.str "stack"])) (e8 : H l8 = some (.lst [.str "queue", .ref l7])) (f1 : H d1 = some (.dK [])) (e9 : H l9 = some (.lst [.str "stack", .bl true])) (f2 : H d2 = some (.dK [])) (e10 : H l10 = some (.lst [.str "queue", .ref d2])) :
    ∀ x ∈ badLs l1 l3 t4 l5 l6 l8 d1 l9 l10, BadLevels K H x := by
  intro x hx
  have hx1 : x = .non ∨ x = .ref l1 ∨ x = .ref l3 ∨ x = .ref t4 ∨ x = .str "stack" ∨ x = .ref l5 ∨ x = .ref l6 ∨ x = .ref l8 ∨ x = .ref d1 ∨ x = .ref l9 ∨ x = .ref l10 ∨ x = .int 5 := by
    simpa [badLs] using hx
  have hS : NoWord K H (.str "Stack") := .inr ⟨_, rfl, by decide⟩
  rcases hx1 with e | e | e | e | e | e | e | e | e | e | e | e <;> subst e
  · exact .inl (nota_non (by decide +kernel))
  · exact .inr ⟨_, _, rfl, SqL.of e1, .inl rfl⟩
  · exact .inr ⟨_, _, rfl, SqL.of e3, .inr (.inl (by decide))⟩
  · exact .inl ⟨_, .base (.tup e4), by decide +kernel⟩
  · exact .inl ⟨_, .base (.str _), by decide +kernel⟩
  · exact .inr ⟨_, _, rfl, SqL.of e5, .inr (.inr ⟨by simp, fun y hy => by rw [List.mem_singleton.mp hy]; exact .inr hS, _, List.mem_singleton.mpr rfl, hS⟩)⟩
  · exact bad_two true e6 (.inl (nota_non (by decide +kernel)))
  · exact bad_two false e8 (.inl ⟨_, .base (.lst e7), by decide +kernel⟩)
  · exact .inl ⟨_, .base (.dK f1), by decide +kernel⟩
  · exact bad_two true e9 (.inl ⟨_, .base (.bl true), by decide +kernel⟩)
  · exact bad_two false e10 (.inl ⟨_, .base (.dK f2), by decide +kernel⟩)
  · exact .inl ⟨_, .base (.int 5), by decide +kernel⟩
def oddTs (a c d : Addr) : List V := [.non, .int (-1), .bl true, .str "5", .ref a, .ref c, .ref d, .int (0 - 10 ^ (40 : Int).toNat), .bl false]
theorem bad_odd {K : PySem.W.Frag} {H : Hp} {l : Nat} {a c d : Addr} {xs ys : List V} (ha : H a = some (.lst xs)) (hc : H c = some (.tup ys)) (hd : H d = some (.dK [])) : ∀ x ∈ oddTs a c d, BadTick K H x (l : Nat) := by
  intro x hx
  have z1 : (0 : Int) - 10 ^ (40 : Int).toNat < 0 := by decide
  have z2 : (0 : Int) ≤ (l : Int) := Int.natCast_nonneg l
  have hx1 : x = .non ∨ x = .int (-1) ∨ x = .bl true ∨ x = .str "5" ∨ x = .ref a ∨ x = .ref c ∨ x = .ref d ∨ x = .int (0 - 10 ^ (40 : Int).toNat) ∨ x = .bl false := by
    simpa [oddTs] using hx
  rcases hx1 with e | e | e | e | e | e | e | e | e <;> subst e
  · exact .inl .of_non
  · exact .inr ⟨-1, rfl, by omega⟩
  · exact .inl (.of_bl true)
  · exact .inl (.of_str _)
  · exact .inl (.of_lst ha)
  · exact .inl (.of_tup hc)
  · exact .inl (.of_dK hd)
  · exact .inr ⟨_, rfl, Int.lt_of_lt_of_le z1 z2⟩
  · exact .inl (.of_bl false)
section
variable {P : Program} {w : World} {K : PySem.W.Frag} {mg : Str → Option Value} {base : Heap}
def spBad18 (K : PySem.W.Frag) : Sp := fun vs H Q _ => ∃ (ps : Addr) (at_ n f : Nat), vs = [.ref ps, .int (at_ : Nat), .int (n : Nat), .int (f : Nat)] ∧ at_ ≤ 4 ∧ n < f ∧ SrcAt H ps ∧ ∀ H' x, Stp ps H H' → (∀ H'', KeepsNew H H' H'' → BadAt K H'' at_ n f x) → Q x H'
theorem ok_bad {f : Addr} {fd : FuncData} (F : Fun K "_law_bad" "_law_bad" s__law_bad f fd) (T : Tx K mg) (h1 : Has P w K mg base 2 "_law_next" ["_law_source_here", "_law_many"] [] spNext) : FnOk P w K mg base CX0 3 f fd ["_law_source_here", "_law_at", "_law_now", "_law_first"] (spBad18 K) := by
  obtain ⟨f__law_next, fd__law_next, ds__law_next, G__law_next, m__law_next, k__law_next, b__law_next, v__law_next⟩ := h1
  refine F.ok sc__law_bad (fun vs H Q E h => ?_) (fun cdv A outer s H vs Q E hr h => ?_)
  · obtain ⟨ps, at_, n, f, rfl, _⟩ := h
    rfl
  · obtain ⟨ps, at_, n, f, rfl, h4, hnf, hsrc, c⟩ := h
    -- from a list of new things, each of them bad, one is drawn
    have fin : ∀ (H1 : Hp) (L : Addr) (xs : List V), Stp ps H H1 → H1 L = some (.lst xs) → L ≠ ps → (∀ H2 H'', Stp ps H1 H2 → KeepsNew H H2 H'' → ∀ x ∈ xs, BadAt K H'' at_ n f x) →
        ∀ (r : Nat) (H2 : Hp), (r : Int) < (xs.length : Nat) → Stp ps H1 H2 → ∃ v, H2 L = some (.lst xs) ∧ xs[r]? = some v ∧ Q v H2 := fun H1 L xs st eL nL hb r H2 hr s2 => by
      have hr2 : r < xs.length := by omega
      refine ⟨xs[r], s2.keep _ _ nL eL, List.getElem?_eq_getElem hr2, c H2 _ (st.trans s2) fun H'' k => hb H2 H'' s2 k _ (List.getElem_mem hr2)⟩
    refine ⟨_, (pss_cons (ps_if (pt_cmpR op_eq (pv 1) pe_int (nomark _))
        (pss_one (ps_ret (pe_ix (ix_listK (K := K) rfl) (pe_lst (pa_cons pe_non (pa_cons pe_int (pa_cons pe_int (pa_cons (pe_un un_neg pe_int) (pa_cons pe_int (pa_cons pe_bl (pa_cons pe_str (pa_cons (pe_lst (pa_cons pe_int pa_nil)) (pa_cons (pe_tup (pa_cons pe_int pa_nil)) (pa_cons pe_dnewK (pa_cons (pe_op op_pow pe_int pe_int) pa_nil)))))))))))) (pe_call G__law_next hr (by rfl) m__law_next k__law_next b__law_next v__law_next pass0 (pa_cons (pv 0) (pa_cons pe_int pa_nil))) (fun _ _ => rfl))))
        pss_nil)
      (pss_cons (ps_if (pt_cmpR op_eq (pv 1) pe_int (nomark _))
        (pss_cons (ps_set (i := 4) sc__law_bad.nd rfl (.inl rfl) (pe_lst (pa_cons pe_non (pa_cons (pe_lst pa_nil) (pa_cons (pe_op op_rep (pe_lst (pa_cons pe_str pa_nil)) pe_int) (pa_cons (pe_tup (pa_cons pe_str pa_nil)) (pa_cons pe_str (pa_cons (pe_lst (pa_cons pe_str pa_nil)) (pa_cons (pe_lst (pa_cons pe_str (pa_cons pe_non pa_nil))) (pa_cons (pe_lst (pa_cons pe_str (pa_cons (pe_lst (pa_cons pe_str pa_nil)) pa_nil))) pa_nil))))))))))
        (pss_one (ps_ret (pe_ix (ix_listK (K := K) rfl) (pe_op op_cat (pv 4) (pe_lst (pa_cons pe_dnewK (pa_cons (pe_lst (pa_cons pe_str (pa_cons pe_bl pa_nil))) (pa_cons (pe_lst (pa_cons pe_str (pa_cons pe_dnewK pa_nil))) (pa_cons pe_int pa_nil)))))) (pe_call G__law_next hr (by rfl) m__law_next k__law_next b__law_next v__law_next pass0 (pa_cons (pv 0) (pa_cons pe_int pa_nil))) (fun _ _ => rfl)))))
        pss_nil)
      (pss_cons (ps_set (i := 5) sc__law_bad.nd rfl (.inl rfl) (pe_lst (pa_cons pe_non (pa_cons (pe_un un_neg pe_int) (pa_cons pe_bl (pa_cons pe_str (pa_cons (pe_lst (pa_cons pe_int pa_nil)) (pa_cons (pe_tup (pa_cons pe_int pa_nil)) (pa_cons pe_dnewK (pa_cons (pe_op op_sub pe_int (pe_op op_pow pe_int pe_int)) (pa_cons pe_bl pa_nil)))))))))))
      (pss_cons (ps_if (pt_cmpR op_eq (pv 1) pe_int (nomark _))
        (pss_one (ps_set (i := 5) sc__law_bad.nd rfl (.inl rfl) (pe_op op_cat (pv 5) (pe_op op_rep (pe_lst (pa_cons (pv 2) (pa_cons (pe_callB (call_max2 rfl) (by rfl) T.b_max (by decide +kernel) (pa_cons pe_int (pa_cons (pe_op op_sub (pe_op op_sub (pv 2) pe_int) (pe_call G__law_next hr (by rfl) m__law_next k__law_next b__law_next v__law_next pass0 (pa_cons (pv 0) (pa_cons pe_int pa_nil)))) pa_nil))) pa_nil))) pe_int))))
        pss_nil)
      (pss_cons (ps_if (pt_cmpR op_eq (pv 1) pe_int (nomark _))
        (pss_one (ps_set (i := 5) sc__law_bad.nd rfl (.inl rfl) (pe_op op_cat (pv 5) (pe_lst (pa_cons (pe_op op_sub (pv 3) pe_int) (pa_cons (pv 2) (pa_cons (pe_op op_sub pe_int (pv 3)) pa_nil)))))))
        pss_nil)
      (pss_one (ps_ret (pe_ix (ix_listK (K := K) rfl) (pv 5) (pe_call G__law_next hr (by rfl) m__law_next k__law_next b__law_next v__law_next pass0 (pa_cons (pv 0) (pa_cons (pe_callB (lenK (K := K) rfl) (by rfl) T.b_len PySem.boot_len (pa_cons (pv 5) pa_nil)) pa_nil))) (fun _ _ => rfl))))))))), ?_⟩
    by_cases a0 : at_ = 0
    · refine ⟨_, rfl, rfl, true, dT (by rw [a0]; rfl), iteT ?_⟩
      refine ⟨2, rfl, ?_⟩
      refine ⟨by simp [sizeLine_eq], fun q1 hq1 => ?_⟩
      have sq1 := same_upd (o := .lst [.int 10]) hq1
      have eq1 : (upd H q1 (.lst [.int 10])) q1 = some (.lst [.int 10]) := upd_same
      generalize upd H q1 (.lst [.int 10]) = Hq1 at sq1 eq1 ⊢
      refine ⟨by simp [sizeLine_eq], fun q2 hq2 => ?_⟩
      have sq2 := same_upd (o := .tup [.int 10]) hq2
      have eq2 : (upd Hq1 q2 (.tup [.int 10])) q2 = some (.tup [.int 10]) := upd_same
      generalize upd Hq1 q2 (.tup [.int 10]) = Hq2 at sq2 eq2 ⊢
      refine fun q3 hq3 => ?_
      have sq3 := same_upd (o := .dK []) hq3
      have eq3 : (upd Hq2 q3 (.dK [])) q3 = some (.dK []) := upd_same
      generalize upd Hq2 q3 (.dK []) = Hq3 at sq3 eq3 ⊢
      refine ⟨10, 30, rfl, rfl, ⟨by decide, by decide, by decide⟩, by simp [sizeLine_eq], fun L hL => ?_⟩
      have sL : Same Hq3 (upd Hq3 L (.lst (badBs q1 q2 q3))) := same_upd hL
      have eL : (upd Hq3 L (.lst (badBs q1 q2 q3))) L = some (.lst (badBs q1 q2 q3)) := upd_same
      have s0 := ((sq1.trans sq2).trans sq3).trans sL
      have st := hsrc.stp_same s0
      have src3 := hsrc.same ((sq1.trans sq2).trans sq3)
      refine ⟨_, rfl, ps, 11, rfl, by decide, by decide, st.src, fun r H2 hr s2 => ?_⟩
      obtain ⟨v, eL2, hx, q⟩ := fin _ L _ st eL (src3.ne hL) (fun H3 H'' s3 k x hx => by
        subst a0
        exact bad_base (k _ _ hq1 (s3.keep _ _ (hsrc.ne hq1) (sL _ _ (sq3 _ _ (sq2 _ _ eq1))))) (k _ _ (sq1.free hq2) (s3.keep _ _ (hsrc.ne (sq1.free hq2)) (sL _ _ (sq3 _ _ eq2)))) (k _ _ ((sq1.trans sq2).free hq3) (s3.keep _ _ (hsrc.ne ((sq1.trans sq2).free hq3)) (sL _ _ eq3))) x hx) r H2 hr s2
      exact ⟨L, _, r, _, rfl, rfl, SqL.of eL2, atI_nat hx, q⟩
    refine ⟨_, rfl, rfl, false, dF (fun z => a0 (Int.ofNat.inj (V.int.inj z))), iteF ?_⟩
    by_cases a1 : at_ = 1
    · refine ⟨_, rfl, rfl, true, dT (by rw [a1]; rfl), iteT ?_⟩
      refine ⟨by simp [sizeLine_eq], fun q1 hq1 => ?_⟩
      have sq1 := same_upd (o := .lst []) hq1
      have eq1 : (upd H q1 (.lst [])) q1 = some (.lst []) := upd_same
      generalize upd H q1 (.lst []) = Hq1 at sq1 eq1 ⊢
      refine ⟨by simp [sizeLine_eq], fun q2 hq2 => ?_⟩
      have sq2 := same_upd (o := .lst [.str "stack"]) hq2
      have eq2 : (upd Hq1 q2 (.lst [.str "stack"])) q2 = some (.lst [.str "stack"]) := upd_same
      generalize upd Hq1 q2 (.lst [.str "stack"]) = Hq2 at sq2 eq2 ⊢
      refine ⟨q2, 61, _, rfl, rfl, eq2, by decide, by decide, by simp [sizeLine_eq], fun q3 hq3 => ?_⟩
      have sq3 := same_upd (o := .lst (List.replicate (61 : Int).toNat [V.str "stack"]).flatten) hq3
      have eq3 : (upd Hq2 q3 (.lst (List.replicate (61 : Int).toNat [V.str "stack"]).flatten)) q3 = some (.lst (List.replicate (61 : Int).toNat [V.str "stack"]).flatten) := upd_same
      generalize upd Hq2 q3 (.lst (List.replicate (61 : Int).toNat [V.str "stack"]).flatten) = Hq3 at sq3 eq3 ⊢
      refine ⟨by simp [sizeLine_eq], fun q4 hq4 => ?_⟩
      have sq4 := same_upd (o := .tup [.str "stack"]) hq4
      have eq4 : (upd Hq3 q4 (.tup [.str "stack"])) q4 = some (.tup [.str "stack"]) := upd_same
      generalize upd Hq3 q4 (.tup [.str "stack"]) = Hq4 at sq4 eq4 ⊢
      refine ⟨by simp [sizeLine_eq], fun q5 hq5 => ?_⟩
      have sq5 := same_upd (o := .lst [.str "Stack"]) hq5
      have eq5 : (upd Hq4 q5 (.lst [.str "Stack"])) q5 = some (.lst [.str "Stack"]) := upd_same
      generalize upd Hq4 q5 (.lst [.str "Stack"]) = Hq5 at sq5 eq5 ⊢
      refine ⟨by simp [sizeLine_eq], fun q6 hq6 => ?_⟩
      have sq6 := same_upd (o := .lst [.str "stack", .non]) hq6
      have eq6 : (upd Hq5 q6 (.lst [.str "stack", .non])) q6 = some (.lst [.str "stack", .non]) := upd_same
      generalize upd Hq5 q6 (.lst [.str "stack", .non]) = Hq6 at sq6 eq6 ⊢
      refine ⟨by simp [sizeLine_eq], fun q7 hq7 => ?_⟩
      have sq7 := same_upd (o := .lst [.str "stack"]) hq7
      have eq7 : (upd Hq6 q7 (.lst [.str "stack"])) q7 = some (.lst [.str "stack"]) := upd_same
      generalize upd Hq6 q7 (.lst [.str "stack"]) = Hq7 at sq7 eq7 ⊢
      refine ⟨by simp [sizeLine_eq], fun q8 hq8 => ?_⟩
      have sq8 := same_upd (o := .lst [.str "queue", .ref q7]) hq8
      have eq8 : (upd Hq7 q8 (.lst [.str "queue", .ref q7])) q8 = some (.lst [.str "queue", .ref q7]) := upd_same
      generalize upd Hq7 q8 (.lst [.str "queue", .ref q7]) = Hq8 at sq8 eq8 ⊢
      refine ⟨by simp [sizeLine_eq], fun qa hqa => ?_⟩
      have sqa := same_upd (o := .lst [.non, .ref q1, .ref q3, .ref q4, .str "stack", .ref q5, .ref q6, .ref q8]) hqa
      have eqa : (upd Hq8 qa (.lst [.non, .ref q1, .ref q3, .ref q4, .str "stack", .ref q5, .ref q6, .ref q8])) qa = some (.lst [.non, .ref q1, .ref q3, .ref q4, .str "stack", .ref q5, .ref q6, .ref q8]) := upd_same
      generalize upd Hq8 qa (.lst [.non, .ref q1, .ref q3, .ref q4, .str "stack", .ref q5, .ref q6, .ref q8]) = Hqa at sqa eqa ⊢
      refine ⟨_, rfl, ?_⟩
      refine fun d1 hd1 => ?_
      have sd1 := same_upd (o := .dK []) hd1
      have ed1 : (upd Hqa d1 (.dK [])) d1 = some (.dK []) := upd_same
      generalize upd Hqa d1 (.dK []) = Hd1 at sd1 ed1 ⊢
      refine ⟨by simp [sizeLine_eq], fun q9 hq9 => ?_⟩
      have sq9 := same_upd (o := .lst [.str "stack", .bl true]) hq9
      have eq9 : (upd Hd1 q9 (.lst [.str "stack", .bl true])) q9 = some (.lst [.str "stack", .bl true]) := upd_same
      generalize upd Hd1 q9 (.lst [.str "stack", .bl true]) = Hq9 at sq9 eq9 ⊢
      refine fun d2 hd2 => ?_
      have sd2 := same_upd (o := .dK []) hd2
      have ed2 : (upd Hq9 d2 (.dK [])) d2 = some (.dK []) := upd_same
      generalize upd Hq9 d2 (.dK []) = Hd2 at sd2 ed2 ⊢
      refine ⟨by simp [sizeLine_eq], fun q10 hq10 => ?_⟩
      have sq10 := same_upd (o := .lst [.str "queue", .ref d2]) hq10
      have eq10 : (upd Hd2 q10 (.lst [.str "queue", .ref d2])) q10 = some (.lst [.str "queue", .ref d2]) := upd_same
      generalize upd Hd2 q10 (.lst [.str "queue", .ref d2]) = Hq10 at sq10 eq10 ⊢
      refine ⟨by simp [sizeLine_eq], fun qb hqb => ?_⟩
      have sqb := same_upd (o := .lst [.ref d1, .ref q9, .ref q10, .int 5]) hqb
      have eqb : (upd Hq10 qb (.lst [.ref d1, .ref q9, .ref q10, .int 5])) qb = some (.lst [.ref d1, .ref q9, .ref q10, .int 5]) := upd_same
      generalize upd Hq10 qb (.lst [.ref d1, .ref q9, .ref q10, .int 5]) = Hqb at sqb eqb ⊢
      refine ⟨qa, qb, _, _, rfl, rfl, (((((sd1.trans sq9).trans sd2).trans sq10).trans sqb) _ _ eqa), eqb, by simp [sizeLine_eq], fun LL hLL => ?_⟩
      have sL : Same Hqb (upd Hqb LL (.lst (badLs q1 q3 q4 q5 q6 q8 d1 q9 q10))) := same_upd hLL
      have eL : (upd Hqb LL (.lst (badLs q1 q3 q4 q5 q6 q8 d1 q9 q10))) LL = some (.lst (badLs q1 q3 q4 q5 q6 q8 d1 q9 q10)) := upd_same
      have st := hsrc.stp_same ((((((((((((((sq1.trans sq2).trans sq3).trans sq4).trans sq5).trans sq6).trans sq7).trans sq8).trans sqa).trans sd1).trans sq9).trans sd2).trans sq10).trans sqb).trans sL)
      refine ⟨_, rfl, ps, 12, rfl, by decide, by decide, st.src, fun r H2 hr s2 => ?_⟩
      obtain ⟨v, eL2, hx, q⟩ := fin _ LL _ st eL ((hsrc.same (((((((((((((sq1.trans sq2).trans sq3).trans sq4).trans sq5).trans sq6).trans sq7).trans sq8).trans sqa).trans sd1).trans sq9).trans sd2).trans sq10).trans sqb)).ne hLL) (fun H3 H'' s3 k x hx => by
        subst a1
        have kp : ∀ (p : Addr) (o : HO), H p = none → Hqb p = some o → H'' p = some o := fun p o e1 e2 => k _ _ e1 (s3.keep _ _ (hsrc.ne e1) (sL _ _ e2))
        exact bad_levels (kp _ _ hq1 (((((((((((((sq2.trans sq3).trans sq4).trans sq5).trans sq6).trans sq7).trans sq8).trans sqa).trans sd1).trans sq9).trans sd2).trans sq10).trans sqb) _ _ eq1)) (kp _ _ ((sq1.trans sq2).free hq3) (((((((((((sq4.trans sq5).trans sq6).trans sq7).trans sq8).trans sqa).trans sd1).trans sq9).trans sd2).trans sq10).trans sqb) _ _ eq3)) (kp _ _ (((sq1.trans sq2).trans sq3).free hq4) ((((((((((sq5.trans sq6).trans sq7).trans sq8).trans sqa).trans sd1).trans sq9).trans sd2).trans sq10).trans sqb) _ _ eq4)) (kp _ _ ((((sq1.trans sq2).trans sq3).trans sq4).free hq5) (((((((((sq6.trans sq7).trans sq8).trans sqa).trans sd1).trans sq9).trans sd2).trans sq10).trans sqb) _ _ eq5)) (kp _ _ (((((sq1.trans sq2).trans sq3).trans sq4).trans sq5).free hq6) ((((((((sq7.trans sq8).trans sqa).trans sd1).trans sq9).trans sd2).trans sq10).trans sqb) _ _ eq6)) (kp _ _ ((((((sq1.trans sq2).trans sq3).trans sq4).trans sq5).trans sq6).free hq7) (((((((sq8.trans sqa).trans sd1).trans sq9).trans sd2).trans sq10).trans sqb) _ _ eq7)) (kp _ _ (((((((sq1.trans sq2).trans sq3).trans sq4).trans sq5).trans sq6).trans sq7).free hq8) ((((((sqa.trans sd1).trans sq9).trans sd2).trans sq10).trans sqb) _ _ eq8)) (kp _ _ (((((((((sq1.trans sq2).trans sq3).trans sq4).trans sq5).trans sq6).trans sq7).trans sq8).trans sqa).free hd1) ((((sq9.trans sd2).trans sq10).trans sqb) _ _ ed1)) (kp _ _ ((((((((((sq1.trans sq2).trans sq3).trans sq4).trans sq5).trans sq6).trans sq7).trans sq8).trans sqa).trans sd1).free hq9) (((sd2.trans sq10).trans sqb) _ _ eq9)) (kp _ _ (((((((((((sq1.trans sq2).trans sq3).trans sq4).trans sq5).trans sq6).trans sq7).trans sq8).trans sqa).trans sd1).trans sq9).free hd2) ((sq10.trans sqb) _ _ ed2)) (kp _ _ ((((((((((((sq1.trans sq2).trans sq3).trans sq4).trans sq5).trans sq6).trans sq7).trans sq8).trans sqa).trans sd1).trans sq9).trans sd2).free hq10) (sqb _ _ eq10)) x hx) r H2 hr s2
      exact ⟨LL, _, r, _, rfl, rfl, SqL.of eL2, atI_nat hx, q⟩
    refine ⟨_, rfl, rfl, false, dF (fun z => a1 (Int.ofNat.inj (V.int.inj z))), iteF ?_⟩
    refine ⟨1, rfl, ?_⟩
    refine ⟨by simp [sizeLine_eq], fun q1 hq1 => ?_⟩
    have sq1 := same_upd (o := .lst [.int 5]) hq1
    have eq1 : (upd H q1 (.lst [.int 5])) q1 = some (.lst [.int 5]) := upd_same
    generalize upd H q1 (.lst [.int 5]) = Hq1 at sq1 eq1 ⊢
    refine ⟨by simp [sizeLine_eq], fun q2 hq2 => ?_⟩
    have sq2 := same_upd (o := .tup [.int 5]) hq2
    have eq2 : (upd Hq1 q2 (.tup [.int 5])) q2 = some (.tup [.int 5]) := upd_same
    generalize upd Hq1 q2 (.tup [.int 5]) = Hq2 at sq2 eq2 ⊢
    refine fun q3 hq3 => ?_
    have sq3 := same_upd (o := .dK []) hq3
    have eq3 : (upd Hq2 q3 (.dK [])) q3 = some (.dK []) := upd_same
    generalize upd Hq2 q3 (.dK []) = Hq3 at sq3 eq3 ⊢
    refine ⟨10, 40, rfl, rfl, ⟨by decide, by decide, by decide⟩, 0, _, rfl, rfl, by simp [sizeLine_eq], fun L hL => ?_⟩
    have sL : Same Hq3 (upd Hq3 L (.lst (oddTs q1 q2 q3))) := same_upd hL
    have eL : (upd Hq3 L (.lst (oddTs q1 q2 q3))) L = some (.lst (oddTs q1 q2 q3)) := upd_same
    have s03 := (sq1.trans sq2).trans sq3
    have s0 := s03.trans sL
    have st := hsrc.stp_same s0
    have nL : L ≠ ps := (hsrc.same s03).ne hL
    have odd : ∀ (l : Nat) (H3 H'' : Hp), Stp ps (upd Hq3 L (.lst (oddTs q1 q2 q3))) H3 → KeepsNew H H3 H'' → ∀ x ∈ oddTs q1 q2 q3, BadTick K H'' x (l : Nat) := fun l H3 H'' s3 k x hx => by
      have kp : ∀ (p : Addr) (o : HO), H p = none → Hq3 p = some o → H'' p = some o := fun p o e1 e2 => k _ _ e1 (s3.keep _ _ (hsrc.ne e1) (sL _ _ e2))
      exact bad_odd (kp _ _ hq1 (sq3 _ _ (sq2 _ _ eq1))) (kp _ _ (sq1.free hq2) (sq3 _ _ eq2)) (kp _ _ ((sq1.trans sq2).free hq3) eq3) x hx
    by_cases a3 : at_ = 3
    · refine ⟨_, rfl, rfl, true, dT (by rw [a3]; rfl), iteT ?_⟩
      refine ⟨_, rfl, _, rfl, _, rfl, (n : Nat), 1, rfl, rfl, _, rfl, ps, 9, rfl, by decide, by decide, st.src, fun r1 H4 hr1 s4 => ⟨_, _, rfl, rfl, 0, _, rfl, by simp [sizeLine_eq], fun M hM => ?_⟩⟩
      have eL4 := s4.keep _ _ nL eL
      have hodd : (oddTs q1 q2 q3).length = 9 := rfl
      have nM : M ≠ ps := s4.src.ne hM
      have sM := same_upd (o := .lst [.int (n : Nat), .int (if (n : Int) - 1 - (r1 : Int) > 0 then (n : Int) - 1 - (r1 : Int) else 0)]) hM
      have eM : (upd H4 M (.lst [.int (n : Nat), .int (if (n : Int) - 1 - (r1 : Int) > 0 then (n : Int) - 1 - (r1 : Int) else 0)])) M = some (.lst [.int (n : Nat), .int (if (n : Int) - 1 - (r1 : Int) > 0 then (n : Int) - 1 - (r1 : Int) else 0)]) := upd_same
      generalize upd H4 M (.lst [.int (n : Nat), .int (if (n : Int) - 1 - (r1 : Int) > 0 then (n : Int) - 1 - (r1 : Int) else 0)]) = H5 at sM eM ⊢
      refine ⟨M, 3, _, rfl, rfl, eM, by decide, by decide, by simp [sizeLine_eq], fun M2 hM2 => ?_⟩
      have sM2 := same_upd (o := .lst (List.replicate (3 : Int).toNat [V.int (n : Nat), V.int (if (n : Int) - 1 - (r1 : Int) > 0 then (n : Int) - 1 - (r1 : Int) else 0)]).flatten) hM2
      have eM2 : (upd H5 M2 (.lst (List.replicate (3 : Int).toNat [V.int (n : Nat), V.int (if (n : Int) - 1 - (r1 : Int) > 0 then (n : Int) - 1 - (r1 : Int) else 0)]).flatten)) M2 = some (.lst (List.replicate (3 : Int).toNat [V.int (n : Nat), V.int (if (n : Int) - 1 - (r1 : Int) > 0 then (n : Int) - 1 - (r1 : Int) else 0)]).flatten) := upd_same
      generalize upd H5 M2 (.lst (List.replicate (3 : Int).toNat [V.int (n : Nat), V.int (if (n : Int) - 1 - (r1 : Int) > 0 then (n : Int) - 1 - (r1 : Int) else 0)]).flatten) = H6 at sM2 eM2 ⊢
      have hmem : ∀ y ∈ (List.replicate (3 : Int).toNat [V.int (n : Nat), V.int (if (n : Int) - 1 - (r1 : Int) > 0 then (n : Int) - 1 - (r1 : Int) else 0)]).flatten, ∃ z : Int, y = .int z ∧ z < (n : Int) + 1 := fun y hy => by
        obtain ⟨l, hl, hy⟩ := List.mem_flatten.mp hy
        rw [List.eq_of_mem_replicate hl] at hy
        rcases List.mem_cons.mp hy with e | hy
        · exact ⟨_, e, by omega⟩
        · refine ⟨_, List.mem_singleton.mp hy, ?_⟩
          split <;> omega
      have hlen6 : (List.replicate (3 : Int).toNat [V.int (n : Nat), V.int (if (n : Int) - 1 - (r1 : Int) > 0 then (n : Int) - 1 - (r1 : Int) else 0)]).flatten.length = 6 := rfl
      generalize (List.replicate (3 : Int).toNat [V.int (n : Nat), V.int (if (n : Int) - 1 - (r1 : Int) > 0 then (n : Int) - 1 - (r1 : Int) else 0)]).flatten = ys at eM2 hmem hlen6 sM2 ⊢
      have s46 := sM.trans sM2
      refine ⟨L, M2, _, _, rfl, rfl, s46 _ _ eL4, eM2, ?_, fun N hN => ?_⟩
      · rw [hlen6, hodd]
        exact sizeLine_le (by decide)
      have sN := same_upd (o := .lst (oddTs q1 q2 q3 ++ ys)) hN
      have eN : (upd H6 N (.lst (oddTs q1 q2 q3 ++ ys))) N = some (.lst (oddTs q1 q2 q3 ++ ys)) := upd_same
      have st4 := s4.same (s46.trans sN)
      have nN : N ≠ ps := (s4.same s46).src.ne hN
      refine ⟨_, rfl, rfl, false, dF (fun z => by have z2 : at_ = 4 := Int.ofNat.inj (V.int.inj z); omega), iteF ?_⟩
      refine ⟨_, rfl, _, rfl, _, rfl, N, _, rfl, .inl (SqL.of eN), ps, _, rfl, ?_, ?_, st4.src, fun r H2 hr s2 => ?_⟩
      · rw [List.length_append, hlen6, hodd]
        decide
      · rw [List.length_append, hlen6, hodd]
        decide
      obtain ⟨v, eL2, hx, q⟩ := fin _ N _ (st.trans st4) eN nN (fun H3 H'' s3 k x hx => by
        subst a3
        rcases List.mem_append.mp hx with hx | hx
        · exact odd (n + 1) H3 H'' (st4.trans s3) k x hx
        · obtain ⟨z, e, hz⟩ := hmem x hx
          exact .inr ⟨z, e, hz⟩) r H2 hr s2
      exact ⟨N, _, r, _, rfl, rfl, SqL.of eL2, atI_nat hx, q⟩
    · refine ⟨_, rfl, rfl, false, dF (fun z => a3 (Int.ofNat.inj (V.int.inj z))), iteF ?_⟩
      by_cases a4 : at_ = 4
      · refine ⟨_, rfl, rfl, true, dT (by rw [a4]; rfl), iteT ?_⟩
        refine ⟨_, rfl, _, rfl, (f : Nat), 1, rfl, rfl, _, rfl, _, rfl, 0, (f : Nat), rfl, rfl, by simp [sizeLine_eq], fun M hM => ?_⟩
        have sM := same_upd (o := .lst [.int ((f : Int) - 1), .int (n : Nat), .int (0 - (f : Int))]) hM
        have eM : (upd (upd Hq3 L (.lst (oddTs q1 q2 q3))) M (.lst [.int ((f : Int) - 1), .int (n : Nat), .int (0 - (f : Int))])) M = some (.lst [.int ((f : Int) - 1), .int (n : Nat), .int (0 - (f : Int))]) := upd_same
        refine ⟨L, M, _, _, rfl, rfl, sM _ _ eL, eM, by simp [sizeLine_eq, oddTs], fun N hN => ?_⟩
        have sN := sM.trans (same_upd (o := .lst (oddTs q1 q2 q3 ++ [.int ((f : Int) - 1), .int (n : Nat), .int (0 - (f : Int))])) hN)
        have eN : (upd (upd (upd Hq3 L (.lst (oddTs q1 q2 q3))) M (.lst [.int ((f : Int) - 1), .int (n : Nat), .int (0 - (f : Int))])) N (.lst (oddTs q1 q2 q3 ++ [.int ((f : Int) - 1), .int (n : Nat), .int (0 - (f : Int))]))) N = some (.lst (oddTs q1 q2 q3 ++ [.int ((f : Int) - 1), .int (n : Nat), .int (0 - (f : Int))])) := upd_same
        have st4 : Stp ps _ _ := st.src.stp_same sN
        have nN : N ≠ ps := (st.src.same sM).ne hN
        refine ⟨_, rfl, _, rfl, _, rfl, N, _, rfl, .inl (SqL.of eN), ps, 12, rfl, by decide, by decide, st4.src, fun r H2 hr s2 => ?_⟩
        obtain ⟨v, eL2, hx, q⟩ := fin _ N _ (st.trans st4) eN nN (fun H3 H'' s3 k x hx => by
          subst a4
          rcases List.mem_append.mp hx with hx | hx
          · exact odd f H3 H'' (st4.trans s3) k x hx
          · have hx1 : x = .int ((f : Int) - 1) ∨ x = .int (n : Nat) ∨ x = .int (0 - (f : Int)) := by simpa using hx
            rcases hx1 with e | e | e
            · exact .inr ⟨_, e, by omega⟩
            · exact .inr ⟨_, e, by omega⟩
            · exact .inr ⟨_, e, by omega⟩) r H2 hr s2
        exact ⟨N, _, r, _, rfl, rfl, SqL.of eL2, atI_nat hx, q⟩
      · refine ⟨_, rfl, rfl, false, dF (fun z => a4 (Int.ofNat.inj (V.int.inj z))), iteF ?_⟩
        have a2 : at_ = 2 := by omega
        refine ⟨_, rfl, _, rfl, _, rfl, L, _, rfl, .inl (SqL.of eL), ps, 9, rfl, by decide, by decide, st.src, fun r H2 hr s2 => ?_⟩
        obtain ⟨v, eL2, hx, q⟩ := fin _ L _ st eL nL (fun H3 H'' s3 k x hx => by
          subst a2
          exact odd 0 H3 H'' s3 k x hx) r H2 hr s2
        exact ⟨L, _, r, _, rfl, rfl, SqL.of eL2, atI_nat hx, q⟩
end
/-! ### law k18: which word, by the values -/
theorem resSt_imp {K : PySem.W.Frag} {H : Hp} {x0 x1 x2 : V} {rb rt rn rb' rt' rn' : Prop} (h1 : rb → rb') (h2 : rt → rt') (h3 : rn → rn') (h : resSt K H x0 x1 x2 rb rt rn) : resSt K H x0 x1 x2 rb' rt' rn' := by
  rcases h with ⟨hb, r⟩ | ⟨b, e0, hb0, hb64, ⟨hb, r⟩ | ⟨n, e1, ⟨hb, r⟩ | ⟨d, e2, hnd, hd, r⟩⟩⟩
  · exact .inl ⟨hb, h1 r⟩
  · exact .inr ⟨b, e0, hb0, hb64, .inl ⟨hb, h2 r⟩⟩
  · exact .inr ⟨b, e0, hb0, hb64, .inr ⟨n, e1, .inl ⟨hb, h2 r⟩⟩⟩
  · exact .inr ⟨b, e0, hb0, hb64, .inr ⟨n, e1, .inr ⟨d, e2, hnd, hd, h3 r⟩⟩⟩
theorem resSd_imp {K : PySem.W.Frag} {H : Hp} {x0 xl x1 x2 : V} {rb rl rt rn rb' rl' rt' rn' : Prop} (h1 : rb → rb') (hl : rl → rl') (h2 : rt → rt') (h3 : rn → rn') (h : resSd K H x0 xl x1 x2 rb rl rt rn) : resSd K H x0 xl x1 x2 rb' rl' rt' rn' := by
  rcases h with ⟨hb, r⟩ | ⟨b, e0, hb0, hb64, ⟨hb, r⟩ | ⟨q, ws, el, hL, hne, h60, ⟨hb, r⟩ | ⟨n, e1, ⟨hb, r⟩ | ⟨d, e2, hnd, hd, r⟩⟩⟩⟩
  · exact .inl ⟨hb, h1 r⟩
  · exact .inr ⟨b, e0, hb0, hb64, .inl ⟨hb, hl r⟩⟩
  · exact .inr ⟨b, e0, hb0, hb64, .inr ⟨q, ws, el, hL, hne, h60, .inl ⟨hb, h2 r⟩⟩⟩
  · exact .inr ⟨b, e0, hb0, hb64, .inr ⟨q, ws, el, hL, hne, h60, .inr ⟨n, e1, .inl ⟨hb, h2 r⟩⟩⟩⟩
  · exact .inr ⟨b, e0, hb0, hb64, .inr ⟨q, ws, el, hL, hne, h60, .inr ⟨n, e1, .inr ⟨d, e2, hnd, hd, h3 r⟩⟩⟩⟩
theorem resMv_imp {K : PySem.W.Frag} {H : Hp} {x0 x1 x2 x3 : V} {g : Nat} {rb rt rn rb' rt' rn' : Prop} (h1 : rb → rb') (h2 : rt → rt') (h3 : rn → rn') (h : resMv K H x0 x1 x2 x3 g rb rt rn) : resMv K H x0 x1 x2 x3 g rb' rt' rn' := by
  rcases h with ⟨hb, r⟩ | ⟨b, e0, hb0, hb64, ⟨hb, r⟩ | ⟨n, e1, ⟨hb, r⟩ | ⟨f, e2, hnf, ⟨hb, r⟩ | ⟨h, e3, hfh, hh, r⟩⟩⟩⟩
  · exact .inl ⟨hb, h1 r⟩
  · exact .inr ⟨b, e0, hb0, hb64, .inl ⟨hb, h2 r⟩⟩
  · exact .inr ⟨b, e0, hb0, hb64, .inr ⟨n, e1, .inl ⟨hb, h2 r⟩⟩⟩
  · exact .inr ⟨b, e0, hb0, hb64, .inr ⟨n, e1, .inr ⟨f, e2, hnf, .inl ⟨hb, h2 r⟩⟩⟩⟩
  · exact .inr ⟨b, e0, hb0, hb64, .inr ⟨n, e1, .inr ⟨f, e2, hnf, .inr ⟨h, e3, hfh, hh, h3 r⟩⟩⟩⟩
/-- the word s for a call by the way -/
def Res18 (K : PySem.W.Frag) (H : Hp) (way : Nat) (x0 xl x1 x2 x3 : V) (s : Str) : Prop :=
  (way = 0 ∧ resSt K H x0 x1 x2 (s = "base") (s = "tick") (s = "none")) ∨ (way = 1 ∧ resSd K H x0 xl x1 x2 (s = "base") (s = "levels") (s = "tick") (s = "none")) ∨
  (way = 2 ∧ resMv K H x0 x1 x2 x3 0 (s = "base") (s = "tick") (s = "none")) ∨ (way = 3 ∧ resMv K H x0 x1 x2 x3 1 (s = "base") (s = "tick") (s = "none"))
def spWordS (K : PySem.W.Frag) : Sp := fun vs H Q _ => ∃ (way : Nat) (sm : Addr) (x0 xl x1 x2 x3 : V) (s : Str), vs = [.int (way : Nat), .ref sm] ∧ H sm = some (.lst [x0, xl, x1, x2, x3]) ∧ Res18 K H way x0 xl x1 x2 x3 s ∧ ∀ H', Same H H' → Q (.str s) H'
theorem wordS_of {K : PySem.W.Frag} {vs : List V} {H : Hp} {Q : VK} {E : XK} (h : spWordS K vs H Q E) : spWord18 K vs H Q E := by
  obtain ⟨way, sm, x0, xl, x1, x2, x3, s, ev, hs, hr, c⟩ := h
  have m : ∀ t : Str, s = t → ∀ H', Same H H' → Q (.str t) H' := fun t e => e ▸ c
  refine ⟨way, sm, x0, xl, x1, x2, x3, ev, hs, ?_⟩
  rcases hr with ⟨e, h⟩ | ⟨e, h⟩ | ⟨e, h⟩ | ⟨e, h⟩
  · exact .inl ⟨e, resSt_imp (m _) (m _) (m _) h⟩
  · exact .inr (.inl ⟨e, resSd_imp (m _) (m _) (m _) (m _) h⟩)
  · exact .inr (.inr (.inl ⟨e, resMv_imp (m _) (m _) (m _) h⟩))
  · exact .inr (.inr (.inr ⟨e, resMv_imp (m _) (m _) (m _) h⟩))
/-- the word for what is bad at the place -/
def wd18 : Nat → Str
  | 0 => "base"
  | 1 => "levels"
  | _ => "tick"
/-- the places that a way reads, in the order in which they are checked -/
def used18 : Nat → List Nat
  | 0 => [0, 2, 3]
  | 1 => [0, 1, 2, 3]
  | _ => [0, 2, 3, 4]
theorem bad_mono {K : PySem.W.Frag} {H : Hp} {x : V} {l m : Int} (hlm : l ≤ m) (h : BadTick K H x l) : BadTick K H x m := h.imp id fun ⟨n, e, hn⟩ => ⟨n, e, Int.lt_of_lt_of_le hn hlm⟩
section
variable {K : PySem.W.Frag} {H : Hp} {b n f h : Nat} {q : Addr} {ws : List Bool} {x0 xl x1 x2 x3 : V}
theorem res_good (hb : 2 ≤ b) (hb64 : b ≤ 64) (hnf : n < f) (hf : f < 2 ^ 199) (hfh : f < h) (hh : h < 2 ^ 200) (hL : SqL K H q (ws.map lvV)) (hne : ws ≠ []) (h60 : ws.length ≤ 60) (way : Nat) (hw : way < 4) :
    Res18 K H way (.int (b : Nat)) (.ref q) (.int (n : Nat)) (.int (f : Nat)) (.int (h : Nat)) "none" := by
  have hf2 : f < 2 ^ 250 := Nat.lt_trans hf (by decide)
  have z : way = 0 ∨ way = 1 ∨ way = 2 ∨ way = 3 := by omega
  rcases z with rfl | rfl | rfl | rfl
  · exact .inl ⟨rfl, .inr ⟨b, rfl, hb, hb64, .inr ⟨n, rfl, .inr ⟨f, rfl, hnf, hf2, rfl⟩⟩⟩⟩
  · exact .inr (.inl ⟨rfl, .inr ⟨b, rfl, hb, hb64, .inr ⟨q, ws, rfl, hL, hne, h60, .inr ⟨n, rfl, .inr ⟨f, rfl, hnf, hf2, rfl⟩⟩⟩⟩⟩)
  · exact .inr (.inr (.inl ⟨rfl, .inr ⟨b, rfl, hb, hb64, .inr ⟨n, rfl, .inr ⟨f, rfl, hnf, .inr ⟨h, rfl, by omega, hh, rfl⟩⟩⟩⟩⟩))
  · exact .inr (.inr (.inr ⟨rfl, .inr ⟨b, rfl, hb, hb64, .inr ⟨n, rfl, .inr ⟨f, rfl, hnf, .inr ⟨h, rfl, by omega, hh, rfl⟩⟩⟩⟩⟩))
/-- what is bad at one place, and good at all places before it -/
theorem res_bad (hb : 2 ≤ b) (hb64 : b ≤ 64) (hnf : n < f) (hL : SqL K H q (ws.map lvV)) (hne : ws ≠ []) (h60 : ws.length ≤ 60) (way at_ : Nat) (hw : way < 4) (hat : at_ ∈ used18 way)
    (g0 : 0 < at_ → x0 = .int (b : Nat)) (gl : 1 < at_ → xl = .ref q ∨ way ≠ 1) (g1 : 2 < at_ → x1 = .int (n : Nat)) (g2 : 3 < at_ → x2 = .int (f : Nat)) (x : V) (hx : [x0, xl, x1, x2, x3][at_]? = some x) (bad : BadAt K H at_ n f x) :
    Res18 K H way x0 xl x1 x2 x3 (wd18 at_) := by
  have z : way = 0 ∨ way = 1 ∨ way = 2 ∨ way = 3 := by omega
  rcases z with rfl | rfl | rfl | rfl
  · have za : at_ = 0 ∨ at_ = 2 ∨ at_ = 3 := by simpa [used18] using hat
    rcases za with rfl | rfl | rfl
    · cases hx
      exact .inl ⟨rfl, .inl ⟨bad, rfl⟩⟩
    · cases hx
      exact .inl ⟨rfl, .inr ⟨b, g0 (by decide), hb, hb64, .inl ⟨bad, rfl⟩⟩⟩
    · cases hx
      exact .inl ⟨rfl, .inr ⟨b, g0 (by decide), hb, hb64, .inr ⟨n, g1 (by decide), .inl ⟨bad, rfl⟩⟩⟩⟩
  · have za : at_ = 0 ∨ at_ = 1 ∨ at_ = 2 ∨ at_ = 3 := by simpa [used18] using hat
    have gl' : 1 < at_ → xl = .ref q := fun e => (gl e).resolve_right fun z => z rfl
    rcases za with rfl | rfl | rfl | rfl
    · cases hx
      exact .inr (.inl ⟨rfl, .inl ⟨bad, rfl⟩⟩)
    · cases hx
      exact .inr (.inl ⟨rfl, .inr ⟨b, g0 (by decide), hb, hb64, .inl ⟨bad, rfl⟩⟩⟩)
    · cases hx
      exact .inr (.inl ⟨rfl, .inr ⟨b, g0 (by decide), hb, hb64, .inr ⟨q, ws, gl' (by decide), hL, hne, h60, .inl ⟨bad, rfl⟩⟩⟩⟩)
    · cases hx
      exact .inr (.inl ⟨rfl, .inr ⟨b, g0 (by decide), hb, hb64, .inr ⟨q, ws, gl' (by decide), hL, hne, h60, .inr ⟨n, g1 (by decide), .inl ⟨bad, rfl⟩⟩⟩⟩⟩)
  · have za : at_ = 0 ∨ at_ = 2 ∨ at_ = 3 ∨ at_ = 4 := by simpa [used18] using hat
    rcases za with rfl | rfl | rfl | rfl
    · cases hx
      exact .inr (.inr (.inl ⟨rfl, .inl ⟨bad, rfl⟩⟩))
    · cases hx
      exact .inr (.inr (.inl ⟨rfl, .inr ⟨b, g0 (by decide), hb, hb64, .inl ⟨bad, rfl⟩⟩⟩))
    · cases hx
      exact .inr (.inr (.inl ⟨rfl, .inr ⟨b, g0 (by decide), hb, hb64, .inr ⟨n, g1 (by decide), .inl ⟨bad, rfl⟩⟩⟩⟩))
    · cases hx
      exact .inr (.inr (.inl ⟨rfl, .inr ⟨b, g0 (by decide), hb, hb64, .inr ⟨n, g1 (by decide), .inr ⟨f, g2 (by decide), hnf, .inl ⟨bad_mono (by show (f : Int) ≤ (f : Int) + ((0 : Nat) : Int); omega) bad, rfl⟩⟩⟩⟩⟩))
  · have za : at_ = 0 ∨ at_ = 2 ∨ at_ = 3 ∨ at_ = 4 := by simpa [used18] using hat
    rcases za with rfl | rfl | rfl | rfl
    · cases hx
      exact .inr (.inr (.inr ⟨rfl, .inl ⟨bad, rfl⟩⟩))
    · cases hx
      exact .inr (.inr (.inr ⟨rfl, .inr ⟨b, g0 (by decide), hb, hb64, .inl ⟨bad, rfl⟩⟩⟩))
    · cases hx
      exact .inr (.inr (.inr ⟨rfl, .inr ⟨b, g0 (by decide), hb, hb64, .inr ⟨n, g1 (by decide), .inl ⟨bad, rfl⟩⟩⟩⟩))
    · cases hx
      exact .inr (.inr (.inr ⟨rfl, .inr ⟨b, g0 (by decide), hb, hb64, .inr ⟨n, g1 (by decide), .inr ⟨f, g2 (by decide), hnf, .inl ⟨bad_mono (by show (f : Int) ≤ (f : Int) + ((1 : Nat) : Int); omega) bad, rfl⟩⟩⟩⟩⟩))
/-- an equal pair of ticks: what the third way takes and the fourth does not -/
theorem res_none (hb : 2 ≤ b) (hb64 : b ≤ 64) (hnf : n < f) (hf : f < 2 ^ 199) : Res18 K H 2 (.int (b : Nat)) xl (.int (n : Nat)) (.int (f : Nat)) (.int (f : Nat)) "none" := by
  have hf2 : f < 2 ^ 200 := Nat.lt_trans hf (by decide)
  exact .inr (.inr (.inl ⟨rfl, .inr ⟨b, rfl, hb, hb64, .inr ⟨n, rfl, .inr ⟨f, rfl, hnf, .inr ⟨f, rfl, Nat.le_refl _, hf2, rfl⟩⟩⟩⟩⟩))
theorem res_tick (hb : 2 ≤ b) (hb64 : b ≤ 64) (hnf : n < f) : Res18 K H 3 (.int (b : Nat)) xl (.int (n : Nat)) (.int (f : Nat)) (.int (f : Nat)) "tick" :=
  .inr (.inr (.inr ⟨rfl, .inr ⟨b, rfl, hb, hb64, .inr ⟨n, rfl, .inr ⟨f, rfl, hnf, .inl ⟨.inr ⟨(f : Nat), rfl, by show (f : Int) < (f : Int) + ((1 : Nat) : Int); omega⟩, rfl⟩⟩⟩⟩⟩))
end
/-! ### data equal to itself -/
theorem neq_refl {d : PyData} (h : d.canLay0 = true) : V.bl (!PyData.eqv d d) = V.bl false := by
  rw [SeqAt.eqv_refl d h]
  rfl
theorem eq_refl {d : PyData} (h : d.canLay0 = true) : V.bl (PyData.eqv d d) = V.bl true := by
  rw [SeqAt.eqv_refl d h]
/-! ### levels as data -/
def lvD (b : Bool) : PyData := if b then .str "stack" else .str "queue"
theorem lvs_dp {K : PySem.W.Frag} {H : Hp} : ∀ ws : List Bool, DpAll K H (ws.map lvV) (ws.map lvD)
  | [] => .nil
  | true :: r => .cons (.str _) (lvs_dp r)
  | false :: r => .cons (.str _) (lvs_dp r)
theorem lvs_lay : ∀ ws : List Bool, PyData.canLayAll0 (ws.map lvD) = true
  | [] => rfl
  | b :: r => by
    show ((lvD b).canLay0 && PyData.canLayAll0 (r.map lvD)) = true
    rw [lvs_lay r]
    cases b <;> decide +kernel
theorem lvs_depth : ∀ ws : List Bool, PyData.depthAll (ws.map lvD) = 0
  | [] => rfl
  | b :: r => by
    show max (lvD b).depth (PyData.depthAll (r.map lvD)) = 0
    rw [lvs_depth r]
    cases b <;> rfl
theorem lvs_shaped (ws : List Bool) : SeqAt.shaped (.list (ws.map lvD)) = true := by
  have h1 : (PyData.list (ws.map lvD)).canLay0 = true := by
    show PyData.canLayAll0 _ = true
    exact lvs_lay ws
  have h2 : (PyData.list (ws.map lvD)).depth ≤ 64 := by
    show PyData.depthAll _ + 1 ≤ 64
    rw [lvs_depth ws]
    decide
  unfold SeqAt.shaped
  rw [h1, decide_eq_true h2]
  rfl
/-! ### the law's loop over its numbers -/
theorem seq_new {K : PySem.W.Frag} {a p : Addr} {xs : List V} {H H1 H2 : Hp} (h : SqL K H a xs) (hp : H p = none) (s1 : Same H H1) (s2 : Stp p H1 H2) : SqL K H2 a xs := by
  rcases h with (h | ⟨o, h⟩) | h
  · exact .inl (.inl (s2.keep _ _ (ne_of_none h hp) (s1 _ _ h)))
  · exact .inl (.inr ⟨o, s2.keep _ _ (ne_of_none h hp) (s1 _ _ h)⟩)
  · exact .inr h
/-! ### classes of errors, told apart -/
section
variable {K : PySem.W.Frag}
theorem cls_ok {O : Addr} (hd : PySem.W.hasDictIn K O = true) (ht : PySem.W.typeIn K (.ref O) = some (.type "type")) : ((PySem.W.clsIn K O).isSome && PySem.W.typeIn K (.ref O) == some (.type "type")) = true := by
  obtain ⟨cd, hc, _⟩ := PySem.W.any_some hd
  rw [hc, ht] <;> rfl
/-- an error of one class is none of another -/
theorem kit_no {N O : Addr} (hN : PySem.W.subIn K (.ref N) (.ref N) = some true) (hd : PySem.W.hasDictIn K O = true) (ht : PySem.W.typeIn K (.ref O) = some (.type "type")) (h : PySem.W.subIn K (.ref N) (.ref O) = some false) : PySem.W.kitOne K (.ref N) (.ref O) = some false := by
  have ne : ¬ (Value.ref N == Value.ref O) = true := fun q => by
    have e : N = O := Value.ref.inj (beq_iff_eq.mp q)
    subst e
    rw [hN] at h
    cases h
  have e2 := cls_ok hd ht
  unfold PySem.W.kitOne
  rw [if_neg ne]
  show (if ((PySem.W.clsIn K O).isSome && PySem.W.typeIn K (.ref O) == some (.type "type")) = true then PySem.W.subIn K (.ref N) (.ref O) else none) = some false
  rw [if_pos e2]
  exact h
end
section
variable {K : PySem.W.Frag}
theorem kit_self (N : Addr) : PySem.W.kitOne K (.ref N) (.ref N) = some true := by
  unfold PySem.W.kitOne
  rw [if_pos (beq_self_eq_true _)]
theorem kit_ve {N : Addr} (h : PySem.W.subIn K (.ref N) (.type "ValueError") = some true) : PySem.W.kitOne K (.ref N) (.type "ValueError") = some true := by
  have ne : ¬ (Value.ref N == Value.type "ValueError") = true := fun q => by
    have e : Value.ref N = Value.type "ValueError" := beq_iff_eq.mp q
    cases e
  unfold PySem.W.kitOne
  rw [if_neg ne]
  show (if PySem.W.kitMeta "ValueError" = true then PySem.W.subIn K (.ref N) (.type "ValueError") else none) = some true
  rw [if_pos (by decide +kernel)]
  exact h
end
/-- an error of the j-th class of eight -/
theorem kind8_of {K : PySem.W.Frag} {N c0 c1 c2 c3 c4 c5 c6 c7 : Addr} (j : Nat) (ec : ExcC K N) (ve : PySem.W.subIn K (.ref N) (.type "ValueError") = some true) (lt : j < 8)
    (h : ∀ i c, [c0, c1, c2, c3, c4, c5, c6, c7][i]? = some c → (i = j → c = N) ∧ (i ≠ j → PySem.W.kitOne K (.ref N) (.ref c) = some false)) : Kind8 K N [c0, c1, c2, c3, c4, c5, c6, c7] j := ⟨ec, kit_ve ve, lt, fun i c hc => by
  obtain ⟨h1, h2⟩ := h i c hc
  by_cases e : i = j
  · rw [h1 e, decide_eq_true e]
    exact kit_self N
  · rw [decide_eq_false e]
    exact h2 e⟩
theorem eight_at {c0 c1 c2 c3 c4 c5 c6 c7 : Addr} {Pr : Nat → Addr → Prop} (h0 : Pr 0 c0) (h1 : Pr 1 c1) (h2 : Pr 2 c2) (h3 : Pr 3 c3) (h4 : Pr 4 c4) (h5 : Pr 5 c5) (h6 : Pr 6 c6) (h7 : Pr 7 c7) : ∀ i c, [c0, c1, c2, c3, c4, c5, c6, c7][i]? = some c → Pr i c := fun i c hc => by
  match i, hc with
  | 0, hc => cases hc; exact h0
  | 1, hc => cases hc; exact h1
  | 2, hc => cases hc; exact h2
  | 3, hc => cases hc; exact h3
  | 4, hc => cases hc; exact h4
  | 5, hc => cases hc; exact h5
  | 6, hc => cases hc; exact h6
  | 7, hc => cases hc; exact h7
  | i + 8, hc => cases hc
/-! ### law k18: the law itself -/
def usedR (way : Nat) : List Nat := (used18 way).reverse
theorem usedR_at {way i at_ : Nat} (hw : way < 4) (h : (usedR way)[i]? = some at_) : at_ ∈ used18 way ∧ at_ ≤ 4 ∧ ∀ k, k < at_ → k ∉ (usedR way).take i := by
  have z : way = 0 ∨ way = 1 ∨ way = 2 ∨ way = 3 := by omega
  rcases z with rfl | rfl | rfl | rfl
  · match i, h with
    | 0, h => cases h; exact ⟨by decide, by decide, fun k _ z => by cases z⟩
    | 1, h => cases h; exact ⟨by decide, by decide, fun k hk z => by simp [usedR, used18] at z; omega⟩
    | 2, h => cases h; exact ⟨by decide, by decide, fun k hk z => by omega⟩
    | j + 3, h => cases h
  · match i, h with
    | 0, h => cases h; exact ⟨by decide, by decide, fun k _ z => by cases z⟩
    | 1, h => cases h; exact ⟨by decide, by decide, fun k hk z => by simp [usedR, used18] at z; omega⟩
    | 2, h => cases h; exact ⟨by decide, by decide, fun k hk z => by simp [usedR, used18] at z; omega⟩
    | 3, h => cases h; exact ⟨by decide, by decide, fun k hk z => by omega⟩
    | j + 4, h => cases h
  · match i, h with
    | 0, h => cases h; exact ⟨by decide, by decide, fun k _ z => by cases z⟩
    | 1, h => cases h; exact ⟨by decide, by decide, fun k hk z => by simp [usedR, used18] at z; omega⟩
    | 2, h => cases h; exact ⟨by decide, by decide, fun k hk z => by simp [usedR, used18] at z; omega⟩
    | 3, h => cases h; exact ⟨by decide, by decide, fun k hk z => by omega⟩
    | j + 4, h => cases h
  · match i, h with
    | 0, h => cases h; exact ⟨by decide, by decide, fun k _ z => by cases z⟩
    | 1, h => cases h; exact ⟨by decide, by decide, fun k hk z => by simp [usedR, used18] at z; omega⟩
    | 2, h => cases h; exact ⟨by decide, by decide, fun k hk z => by simp [usedR, used18] at z; omega⟩
    | 3, h => cases h; exact ⟨by decide, by decide, fun k hk z => by omega⟩
    | j + 4, h => cases h
theorem words_at {at_ : Nat} (h : at_ ≤ 4) : ([.str "base", .str "levels", .str "tick", .str "tick", .str "tick"] : List V)[at_]? = some (.str (wd18 at_)) := by
  match at_, h with
  | 0, _ => rfl
  | 1, _ => rfl
  | 2, _ => rfl
  | 3, _ => rfl
  | 4, _ => rfl
theorem ixN_at {n j : Nat} (hj : j < n) : ixN n (j : Int) = some j := by
  unfold ixN
  rw [if_pos (by omega), if_pos (by omega)]
  rfl
theorem five {l : List V} (h : l.length = 5) : ∃ a b c d e, l = [a, b, c, d, e] := by
  match l, h with
  | [a, b, c, d, e], _ => exact ⟨a, b, c, d, e, rfl⟩
section
variable {P : Program} {w : World} {K : PySem.W.Frag} {mg : Str → Option Value} {base : Heap}
def spLaw (K : PySem.W.Frag) : Sp := fun vs H Q _ => ∃ (a : Addr) (ns : List Int), vs = [.ref a] ∧ SqL K H a (ns.map V.int) ∧ ns.length ≤ 63 ∧ ∀ H', Q (.bl true) H'
theorem ok_law {f : Addr} {fd : FuncData} (F : Fun K "law" "law" s_law f fd) (T : Tx K mg)
    (h1 : Has P w K mg base 2 "_law_source" ["_law_script", "_law_k"] [] (spSource K)) (h2 : Has P w K mg base 3 "_law_base" ["_law_source_here"] [] spBase)
    (h3 : Has P w K mg base 4 "_law_pair" ["_law_source_here", "_law_base_here"] [] spPair)
    (h5 : Has P w K mg base 3 "_law_levels" ["_law_source_here"] [] spLevels) (h6 : Has P w K mg base 2 "_law_next" ["_law_source_here", "_law_many"] [] spNext)
    (h7 : Has P w K mg base 6 "_law_word" ["_law_way", "_law_some"] [] (spWord18 K)) (h8 : Has P w K mg base 3 "_law_bad" ["_law_source_here", "_law_at", "_law_now", "_law_first"] [] (spBad18 K)) :
    FnOk P w K mg base CX0 7 f fd ["_law_script"] (spLaw K) := by
  obtain ⟨f__law_source, fd__law_source, ds__law_source, G__law_source, m__law_source, k__law_source, b__law_source, v__law_source⟩ := h1
  obtain ⟨f__law_base, fd__law_base, ds__law_base, G__law_base, m__law_base, k__law_base, b__law_base, v__law_base⟩ := h2
  obtain ⟨f__law_pair, fd__law_pair, ds__law_pair, G__law_pair, m__law_pair, k__law_pair, b__law_pair, v__law_pair⟩ := h3
  obtain ⟨f__law_levels, fd__law_levels, ds__law_levels, G__law_levels, m__law_levels, k__law_levels, b__law_levels, v__law_levels⟩ := h5
  obtain ⟨f__law_next, fd__law_next, ds__law_next, G__law_next, m__law_next, k__law_next, b__law_next, v__law_next⟩ := h6
  obtain ⟨f__law_word, fd__law_word, ds__law_word, G0, m__law_word, k__law_word, b__law_word, v__law_word⟩ := h7
  obtain ⟨f__law_bad, fd__law_bad, ds__law_bad, G__law_bad, m__law_bad, k__law_bad, b__law_bad, v__law_bad⟩ := h8
  have G__law_word : FnOk P w K mg base CX0 6 f__law_word fd__law_word ["_law_way", "_law_some"] (spWordS K) := G0.imp fun _ _ _ _ h => wordS_of h
  refine F.ok sc_law (fun vs H Q E h => ?_) (fun cdv A outer s H vs Q E hr h => ?_)
  · obtain ⟨a, ns, rfl, _⟩ := h
    rfl
  · obtain ⟨a, ns, rfl, hS, hlen, q⟩ := h
    refine ⟨_, (pss_cons (ps_for PassesOwn.never rfl (pi_range1 (by rfl) T.b_range (pa_cons (pe_callB (call_max2 rfl) (by rfl) T.b_max (by decide +kernel) (pa_cons pe_int (pa_cons (pe_callB (call_min2 rfl) (by rfl) T.b_min (by decide +kernel) (pa_cons pe_int (pa_cons (pe_callB (lenK (K := K) rfl) (by rfl) T.b_len PySem.boot_len (pa_cons (pv 0) pa_nil)) pa_nil))) pa_nil))) pa_nil)) (pg_name (i := 1) sc_law.nd rfl (.inl rfl))
        (pss_cons (ps_set (i := 2) sc_law.nd rfl (.inl rfl) (pe_call G__law_source (hr.mono (by decide)) (by rfl) m__law_source k__law_source b__law_source v__law_source pass0 (pa_cons (pv 0) (pa_cons (pv 1) pa_nil))))
        (pss_cons (ps_set (i := 3) sc_law.nd rfl (.inl rfl) (pe_call G__law_base (hr.mono (by decide)) (by rfl) m__law_base k__law_base b__law_base v__law_base pass0 (pa_cons (pv 2) pa_nil)))
        (pss_cons (ps_asg (pe_call G__law_pair (hr.mono (by decide)) (by rfl) m__law_pair k__law_pair b__law_pair v__law_pair pass0 (pa_cons (pv 2) (pa_cons (pv 3) pa_nil))) (pg_tupK (K := K) (n := 2) rfl rfl (pgs_cons (pg_name (i := 4) sc_law.nd rfl (.inl rfl)) (pgs_cons (pg_name (i := 5) sc_law.nd rfl (.inl rfl)) pgs_nil))))
        (pss_cons (ps_set (i := 6) sc_law.nd rfl (.inl rfl) (pe_ix (ix_listK (K := K) rfl) (pe_lst (pa_cons (pe_call G__law_levels (hr.mono (by decide)) (by rfl) m__law_levels k__law_levels b__law_levels v__law_levels pass0 (pa_cons (pv 2) pa_nil)) (pa_cons (pe_op op_rep (pe_lst (pa_cons pe_str (pa_cons pe_str pa_nil))) pe_int) pa_nil))) (pe_call G__law_next (hr.mono (by decide)) (by rfl) m__law_next k__law_next b__law_next v__law_next pass0 (pa_cons (pv 2) (pa_cons pe_int pa_nil))) (fun _ _ => rfl)))
        (pss_cons (ps_set (i := 7) sc_law.nd rfl (.inl rfl) (pe_callTy call_list_of (by rfl) T.b_list (by decide +kernel) (pa_cons (pv 6) pa_nil)))
        (pss_cons (ps_set (i := 8) sc_law.nd rfl (.inr rfl) (pe_lst (pa_cons (pv 3) (pa_cons (pv 6) (pa_cons (pv 4) (pa_cons (pv 5) (pa_cons (pe_op op_add (pe_op op_add (pv 5) pe_int) (pe_call G__law_next (hr.mono (by decide)) (by rfl) m__law_next k__law_next b__law_next v__law_next pass0 (pa_cons (pv 2) (pa_cons pe_int pa_nil)))) pa_nil)))))))
        (pss_cons (ps_if (PW.pt (pw_or (pt_cmpR (op_neK (K := K) rfl hr.units) (pe_lc (own := [("_law_way", 9)]) (g := gName 9) (tt := tYes) rfl sc_law.nd (pi_range1 (by rfl) T.b_range (pa_cons pe_int pa_nil)) (blkOk_by (own := [("_law_way", 9)]) (N := N_law) (sc := defScope s_law) (by decide +kernel)) (fun _ _ _ _ _ => (pg_name (i := 9) sc_law.nd rfl (.inl rfl))) (fun _ _ _ _ _ => pts_nil) (fun _ _ _ _ _ => (pe_call G__law_word hr (by rfl) m__law_word k__law_word b__law_word v__law_word pass0 (pa_cons (pv 9) (pa_cons (pv 8) pa_nil))))) (pe_op op_rep (pe_lst (pa_cons pe_str pa_nil)) pe_int) (nomark _)) (pw_or1 (pt_cmpR (op_neK (K := K) rfl hr.units) (pv 6) (pv 7) (nomark _)))))
          (pss_one (ps_ret pe_bl))
          pss_nil)
        (pss_cons (ps_if (PW.pt (pw_or (pt_cmpR op_ne (pe_call G__law_word hr (by rfl) m__law_word k__law_word b__law_word v__law_word pass0 (pa_cons pe_int (pa_cons (pe_op op_cat (pe_slice (sl_listK (K := K) rfl) (pv 8) po_none (po_some pe_int)) (pe_lst (pa_cons (pv 5) pa_nil))) pa_nil))) pe_str (nomark _)) (pw_or1 (pt_cmpR op_ne (pe_call G__law_word hr (by rfl) m__law_word k__law_word b__law_word v__law_word pass0 (pa_cons pe_int (pa_cons (pe_op op_cat (pe_slice (sl_listK (K := K) rfl) (pv 8) po_none (po_some pe_int)) (pe_lst (pa_cons (pv 5) pa_nil))) pa_nil))) pe_str (nomark _)))))
          (pss_one (ps_ret pe_bl))
          pss_nil)
        (pss_cons (ps_set (i := 10) sc_law.nd rfl (.inl rfl) (pe_lst (pa_cons pe_str (pa_cons pe_str (pa_cons pe_str (pa_cons pe_str (pa_cons pe_str pa_nil)))))))
        (pss_cons (ps_set (i := 11) sc_law.nd rfl (.inl rfl) (pe_lst (pa_cons (pe_lst (pa_cons pe_int (pa_cons pe_int (pa_cons pe_int pa_nil)))) (pa_cons (pe_lst (pa_cons pe_int (pa_cons pe_int (pa_cons pe_int (pa_cons pe_int pa_nil))))) (pa_cons (pe_lst (pa_cons pe_int (pa_cons pe_int (pa_cons pe_int (pa_cons pe_int pa_nil))))) (pa_cons (pe_lst (pa_cons pe_int (pa_cons pe_int (pa_cons pe_int (pa_cons pe_int pa_nil))))) pa_nil))))))
        (pss_one (ps_for PassesOwn.never rfl (pi_range1 (by rfl) T.b_range (pa_cons pe_int pa_nil)) (pg_name (i := 9) sc_law.nd rfl (.inl rfl))
          (pss_cons (ps_set (i := 12) sc_law.nd rfl (.inl rfl) (pe_callTy call_list_of (by rfl) T.b_list (by decide +kernel) (pa_cons (pv 8) pa_nil)))
          (pss_one (ps_for PassesOwn.never rfl (pi_list (pe_revL (pe_ix (ix_listK (K := K) rfl) (pv 11) (pv 9) (fun _ _ => rfl)))) (pg_name (i := 13) sc_law.nd rfl (.inl rfl))
            (pss_cons (ps_asg (pe_call G__law_bad (hr.mono (by decide)) (by rfl) m__law_bad k__law_bad b__law_bad v__law_bad pass0 (pa_cons (pv 2) (pa_cons (pv 13) (pa_cons (pv 4) (pa_cons (pv 5) pa_nil))))) (pg_sub (pv 12) (pv 13) set_list))
            (pss_one (ps_if (pt_cmpR op_ne (pe_call G__law_word hr (by rfl) m__law_word k__law_word b__law_word v__law_word pass0 (pa_cons (pv 9) (pa_cons (pv 12) pa_nil))) (pe_ix (ix_listK (K := K) rfl) (pv 10) (pv 13) (fun _ _ => rfl)) (nomark _))
              (pss_one (ps_ret pe_bl))
              pss_nil)))))))))))))))))))
      (pss_one (ps_ret pe_bl))), ?_⟩
    refine ⟨.ref a, rfl, a, ns.map V.int, rfl, .inl hS, 8, _, rfl, 1, _, rfl, _, rfl, ?_, ?_, for_range (Pv := fun i σ H' => SqL K H' a (ns.map V.int) ∧ ∃ y1 y2 y3 y4 y5 y6 y7 y8 y9 y10 y11 y12 y13, σ = [some (.ref a), y1, y2, y3, y4, y5, y6, y7, y8, y9, y10, y11, y12, y13]) ⟨hS, none, none, none, none, none, none, none, none, none, none, none, none, none, rfl⟩ ?_ ?_⟩
    · split <;> split <;> omega
    · rw [List.length_map]
      split <;> split <;> omega
    · rintro i0 σ H0 hi ⟨hS, y1, y2, y3, y4, y5, y6, y7, y8, y9, y10, y11, y12, y13, rfl⟩
      -- source, base, now, first
      refine ⟨_, rfl, _, rfl, a, ns, 0 + i0, rfl, hS, fun H1 p s1 hp0 hsrc => ?_⟩
      refine ⟨_, rfl, p, rfl, hsrc, fun b H2 hb hb64 s2 => ?_⟩
      refine ⟨_, rfl, _, rfl, p, b, rfl, hb, hb64, s2.src, fun n f0 H3 t0 hnf hf0 s3 ht0 eT => ?_⟩
      refine ⟨t0, _, rfl, .inl (.inl eT), rfl, _, _, rfl, _, _, rfl, rfl, ?_⟩
      have s13 := s2.trans s3
      -- levels
      refine ⟨_, rfl, p, rfl, s3.src, fun H4 l0 ws0 s4 hl00 hl0 hne0 h600 => ?_⟩
      refine ⟨by simp [sizeLine_eq], fun l1 hl1 => ⟨l1, 30, _, rfl, rfl, upd_same, by decide, by decide, by decide, fun l2 hl2 => ⟨by simp [sizeLine_eq], fun l3 hl3 => ?_⟩⟩⟩
      have t1 := same_upd (o := .lst [.str "stack", .str "queue"]) hl1
      have t2 := same_upd (o := .lst (List.replicate (30 : Int).toNat [V.str "stack", .str "queue"]).flatten) hl2
      have t3 := same_upd (o := .lst [.ref l0, .ref l2]) hl3
      have el2 := t3 _ _ (upd_same (H := upd H4 l1 (.lst [.str "stack", .str "queue"])) (a := l2) (o := .lst (List.replicate (30 : Int).toNat [V.str "stack", .str "queue"]).flatten))
      have el3 := upd_same (H := upd (upd H4 l1 (.lst [.str "stack", .str "queue"])) l2 (.lst (List.replicate (30 : Int).toNat [V.str "stack", .str "queue"]).flatten)) (a := l3) (o := .lst [.ref l0, .ref l2])
      have t123 := (t1.trans t2).trans t3
      generalize upd (upd (upd H4 l1 (.lst [.str "stack", .str "queue"])) l2 (.lst (List.replicate (30 : Int).toNat [V.str "stack", .str "queue"]).flatten)) l3 (.lst [.ref l0, .ref l2]) = H5 at el2 el3 t123 ⊢
      have s45 := s4.same t123
      refine ⟨_, rfl, p, 2, rfl, by decide, by decide, s45.src, fun r6 H6 hr6 s6 => ?_⟩
      have ne3 : l3 ≠ p := fun e => by
        obtain ⟨x, y, z, h⟩ := s45.src
        rw [e, h] at el3
        cases el3
      have ne2 : l2 ≠ p := fun e => by
        obtain ⟨x, y, z, h⟩ := s45.src
        rw [e, h] at el2
        cases el2
      have ne0 : l0 ≠ p := s3.src.ne hl00
      have el3' := s6.keep _ _ ne3 el3
      obtain ⟨ql, ws, eql, hql, hne, h60⟩ : ∃ (ql : Addr) (ws : List Bool), (if r6 = 0 then V.ref l0 else V.ref l2) = .ref ql ∧ H6 ql = some (.lst (ws.map lvV)) ∧ ws ≠ [] ∧ ws.length ≤ 60 := by
        by_cases c6 : r6 = 0
        · exact ⟨l0, ws0, if_pos c6, s6.keep _ _ ne0 (t123 _ _ hl0), hne0, h600⟩
        · refine ⟨l2, (List.replicate 30 [true, false]).flatten, if_neg c6, ?_, by decide, by decide⟩
          have z := s6.keep _ _ ne2 el2
          rw [z]
          rfl
      refine ⟨l3, _, r6, _, rfl, rfl, SqL.of el3', atI_nat (pick2 (by omega)), ?_⟩
      rw [eql]
      have s16 := (s13.trans s45).trans s6
      -- a copy of the levels
      refine ⟨_, rfl, ql, _, rfl, .inl (SqL.of hql), fun lk hlk => ?_⟩
      have t7 := same_upd (o := .lst (ws.map lvV)) hlk
      have elk := upd_same (H := H6) (a := lk) (o := .lst (ws.map lvV))
      have s17 := s16.same t7
      have hql7 := t7 _ _ hql
      generalize upd H6 lk (.lst (ws.map lvV)) = H7 at t7 elk s17 hql7 ⊢
      -- good arguments
      refine ⟨_, rfl, _, rfl, _, rfl, _, rfl, _, rfl, _, 1, rfl, rfl, _, rfl, p, 900, rfl, by decide, by decide, s17.src, fun r8 H8 hr8 s8 => ?_⟩
      refine ⟨_, _, rfl, rfl, by simp [sizeLine_eq], fun g hg => ?_⟩
      have t9 := same_upd (o := .lst [.int (b : Nat), .ref ql, .int (n : Nat), .int (f0 : Nat), .int ((f0 : Int) + 1 + (r8 : Nat))]) hg
      have eg : (upd H8 g (.lst [.int (b : Nat), .ref ql, .int (n : Nat), .int (f0 : Nat), .int ((f0 : Int) + 1 + (r8 : Nat))])) g = some (.lst [.int (b : Nat), .ref ql, .int (n : Nat), .int (f0 : Nat), .int ((f0 + 1 + r8 : Nat) : Int)]) := upd_same
      have s19 := (s17.trans s8).same t9
      have neq : ∀ {c : Addr} {xs : List V}, H7 c = some (.lst xs) → (∀ x y z : Int, xs ≠ [.int x, .int y, .int z]) → c ≠ p := fun {c xs} h hx e => by
        obtain ⟨x, y, z, h2⟩ := s17.src
        rw [e, h2] at h
        exact hx x y z (HO.lst.inj (Option.some.inj h)).symm
      have lv3 : ∀ x y z : Int, ws.map lvV ≠ [.int x, .int y, .int z] := fun x y z e => by
        cases ws with
        | nil => cases e
        | cons w0 wr =>
          have y := (List.cons.inj e).1
          cases w0 <;> cases y
      have nqp := neq hql7 lv3
      have hql9 := t9 _ _ (s8.keep _ _ nqp hql7)
      have elk9 := t9 _ _ (s8.keep _ _ (neq elk lv3) elk)
      generalize upd H8 g (.lst [.int (b : Nat), .ref ql, .int (n : Nat), .int (f0 : Nat), .int ((f0 : Int) + 1 + (r8 : Nat))]) = H9 at t9 eg s19 hql9 elk9 ⊢
      have hr8' : r8 < 900 := by
        have z : (r8 : Int) < 900 := hr8
        omega
      have hf : f0 < 2 ^ 199 := Nat.lt_trans hf0 (by decide)
      have hh : f0 + 1 + r8 < 2 ^ 200 := by
        have z : (2 : Nat) ^ 192 + 1 + 900 < 2 ^ 200 := by decide
        omega
      have hfh : f0 < f0 + 1 + r8 := by omega
      -- the four calls with good arguments
      refine ⟨4, rfl, by decide, by decide, fun D hD => lc_range (lo := 0) (n := 4) (fun i H' => Same H9 H' ∧ H' D = some (.lst (List.replicate i (V.str "none")))) ⟨same_upd hD, upd_same⟩ ?_ ?_⟩
      · rintro i H' hi ⟨sm, eD⟩
        refine ⟨rfl, yesT (iteT ?_)⟩
        refine ⟨_, rfl, _, rfl, 0 + i, g, _, _, _, _, _, "none", rfl, sm _ _ eg, res_good (b := b) (n := n) (f := f0) (h := f0 + 1 + r8) (q := ql) (ws := ws) hb hb64 hnf hf hfh hh (SqL.of (sm _ _ hql9)) hne h60 (0 + i) (by omega), fun H'' sw => ?_⟩
        refine ⟨_, sw _ _ eD, ?_, fun c o e => ?_, ?_⟩
        · rw [List.length_replicate]
          exact sizeLine_ge (by omega)
        · rw [upd_ne (ne_of_none e hD)]
          exact sw _ _ (sm _ _ e)
        · rw [upd_same, List.replicate_succ']
      rintro H10 ⟨s10, eD⟩
      refine ⟨by simp [sizeLine_eq], fun n1 hn1 => ⟨n1, 4, _, rfl, rfl, upd_same, by decide, by decide, by decide, fun n2 hn2 => ?_⟩⟩
      have t11 := (same_upd (o := .lst [.str "none"]) hn1).trans (same_upd (o := .lst (List.replicate (4 : Int).toNat [V.str "none"]).flatten) hn2)
      have en2 : (upd (upd H10 n1 (.lst [.str "none"])) n2 (.lst (List.replicate (4 : Int).toNat [V.str "none"]).flatten)) n2 = some (.lst [.str "none", .str "none", .str "none", .str "none"]) := upd_same
      generalize upd (upd H10 n1 (.lst [.str "none"])) n2 (.lst (List.replicate (4 : Int).toNat [V.str "none"]).flatten) = H11 at t11 en2 ⊢
      have eD11 : H11 D = some (.lst [.str "none", .str "none", .str "none", .str "none"]) := t11 _ _ eD
      have s911 := s10.trans t11
      refine ⟨.list [.str "none", .str "none", .str "none", .str "none"], .list [.str "none", .str "none", .str "none", .str "none"], .lst (SqL.of eD11) (.cons (.str _) (.cons (.str _) (.cons (.str _) (.cons (.str _) .nil)))), .lst (SqL.of en2) (.cons (.str _) (.cons (.str _) (.cons (.str _) (.cons (.str _) .nil)))), by decide +kernel, by decide +kernel, false, neq_refl (by decide +kernel), iteF ?_⟩
      refine ⟨_, rfl, _, rfl, .list (ws.map lvD), .list (ws.map lvD), .lst (SqL.of (s911 _ _ hql9)) (lvs_dp ws), .lst (SqL.of (s911 _ _ elk9)) (lvs_dp ws), lvs_shaped _, lvs_shaped _, false, neq_refl (lvs_lay _), iteF ?_⟩
      -- an empty range
      have eg11 := s911 _ _ eg
      refine ⟨_, rfl, 4, rfl, g, _, rfl, SqL.of eg11, fun c1 hc1 => ⟨_, rfl, by simp [sizeLine_eq], fun c2 hc2 => ?_⟩⟩
      have ec1 : (upd H11 c1 (.lst (cutV [.int (b : Nat), .ref ql, .int (n : Nat), .int (f0 : Nat), .int ((f0 + 1 + r8 : Nat) : Int)] none (some 4)))) c1 = some (.lst [.int (b : Nat), .ref ql, .int (n : Nat), .int (f0 : Nat)]) := upd_same
      have t12 := (same_upd hc1).trans (same_upd (o := .lst [.int (f0 : Nat)]) hc2)
      have ec1' := (same_upd (o := .lst [.int (f0 : Nat)]) hc2) _ _ ec1
      have ec2 := upd_same (H := upd H11 c1 (.lst (cutV [.int (b : Nat), .ref ql, .int (n : Nat), .int (f0 : Nat), .int ((f0 + 1 + r8 : Nat) : Int)] none (some 4)))) (a := c2) (o := .lst [.int (f0 : Nat)])
      refine ⟨c1, c2, _, _, rfl, rfl, ec1', ec2, sizeLine_le (by show 5 ≤ 1000000; decide), fun c3 hc3 => ?_⟩
      have t13 := t12.trans (same_upd (o := .lst ([.int (b : Nat), .ref ql, .int (n : Nat), .int (f0 : Nat)] ++ [.int (f0 : Nat)])) hc3)
      have ec3 : (upd (upd (upd H11 c1 (.lst (cutV [.int (b : Nat), .ref ql, .int (n : Nat), .int (f0 : Nat), .int ((f0 + 1 + r8 : Nat) : Int)] none (some 4)))) c2 (.lst [.int (f0 : Nat)])) c3 (.lst ([.int (b : Nat), .ref ql, .int (n : Nat), .int (f0 : Nat)] ++ [.int (f0 : Nat)]))) c3 = some (.lst [.int (b : Nat), .ref ql, .int (n : Nat), .int (f0 : Nat), .int (f0 : Nat)]) := upd_same
      refine ⟨2, c3, _, _, _, _, _, "none", rfl, ec3, res_none hb hb64 hnf hf, fun H14 s14 => ?_⟩
      refine ⟨rfl, false, nF rfl, iteF ?_⟩
      have s914 := s911.trans (t13.trans s14)
      have eg14 := s914 _ _ eg
      refine ⟨_, rfl, 4, rfl, g, _, rfl, SqL.of eg14, fun d1 hd1 => ⟨_, rfl, by simp [sizeLine_eq], fun d2 hd2 => ?_⟩⟩
      have ed1 : (upd H14 d1 (.lst (cutV [.int (b : Nat), .ref ql, .int (n : Nat), .int (f0 : Nat), .int ((f0 + 1 + r8 : Nat) : Int)] none (some 4)))) d1 = some (.lst [.int (b : Nat), .ref ql, .int (n : Nat), .int (f0 : Nat)]) := upd_same
      have u12 := (same_upd hd1).trans (same_upd (o := .lst [.int (f0 : Nat)]) hd2)
      have ed1' := (same_upd (o := .lst [.int (f0 : Nat)]) hd2) _ _ ed1
      have ed2 := upd_same (H := upd H14 d1 (.lst (cutV [.int (b : Nat), .ref ql, .int (n : Nat), .int (f0 : Nat), .int ((f0 + 1 + r8 : Nat) : Int)] none (some 4)))) (a := d2) (o := .lst [.int (f0 : Nat)])
      refine ⟨d1, d2, _, _, rfl, rfl, ed1', ed2, sizeLine_le (by show 5 ≤ 1000000; decide), fun d3 hd3 => ?_⟩
      have u13 := u12.trans (same_upd (o := .lst ([.int (b : Nat), .ref ql, .int (n : Nat), .int (f0 : Nat)] ++ [.int (f0 : Nat)])) hd3)
      have ed3 : (upd (upd (upd H14 d1 (.lst (cutV [.int (b : Nat), .ref ql, .int (n : Nat), .int (f0 : Nat), .int ((f0 + 1 + r8 : Nat) : Int)] none (some 4)))) d2 (.lst [.int (f0 : Nat)])) d3 (.lst ([.int (b : Nat), .ref ql, .int (n : Nat), .int (f0 : Nat)] ++ [.int (f0 : Nat)]))) d3 = some (.lst [.int (b : Nat), .ref ql, .int (n : Nat), .int (f0 : Nat), .int (f0 : Nat)]) := upd_same
      refine ⟨3, d3, _, _, _, _, _, "tick", rfl, ed3, res_tick hb hb64 hnf, fun H15 s15 => ?_⟩
      refine ⟨rfl, false, nF rfl, iteF ?_⟩
      have s915 := s914.trans (u13.trans s15)
      -- the words, and what each way reads
      refine ⟨by simp [sizeLine_eq], fun wl hwl => ?_⟩
      have v1 := same_upd (o := .lst [.str "base", .str "levels", .str "tick", .str "tick", .str "tick"]) hwl
      have ewl := upd_same (H := H15) (a := wl) (o := .lst [.str "base", .str "levels", .str "tick", .str "tick", .str "tick"])
      generalize upd H15 wl (.lst [.str "base", .str "levels", .str "tick", .str "tick", .str "tick"]) = H16 at v1 ewl ⊢
      refine ⟨by simp [sizeLine_eq], fun x0 hx0 => ⟨by simp [sizeLine_eq], fun x1 hx1 => ⟨by simp [sizeLine_eq], fun x2 hx2 => ⟨by simp [sizeLine_eq], fun x3 hx3 => ⟨by simp [sizeLine_eq], fun ul hul => ?_⟩⟩⟩⟩⟩
      have w0 := same_upd (o := .lst [.int 0, .int 2, .int 3]) hx0
      have w1 := same_upd (o := .lst [.int 0, .int 1, .int 2, .int 3]) hx1
      have w2 := same_upd (o := .lst [.int 0, .int 2, .int 3, .int 4]) hx2
      have w3 := same_upd (o := .lst [.int 0, .int 2, .int 3, .int 4]) hx3
      have w4 := same_upd (o := .lst [.ref x0, .ref x1, .ref x2, .ref x3]) hul
      have ex0 := w4 _ _ (w3 _ _ (w2 _ _ (w1 _ _ (upd_same (H := H16) (a := x0) (o := .lst [.int 0, .int 2, .int 3])))))
      have ex1 := w4 _ _ (w3 _ _ (w2 _ _ (upd_same (H := upd H16 x0 (.lst [.int 0, .int 2, .int 3])) (a := x1) (o := .lst [.int 0, .int 1, .int 2, .int 3]))))
      have ex2 := w4 _ _ (w3 _ _ (upd_same (H := upd (upd H16 x0 (.lst [.int 0, .int 2, .int 3])) x1 (.lst [.int 0, .int 1, .int 2, .int 3])) (a := x2) (o := .lst [.int 0, .int 2, .int 3, .int 4])))
      have ex3 := w4 _ _ (upd_same (H := upd (upd (upd H16 x0 (.lst [.int 0, .int 2, .int 3])) x1 (.lst [.int 0, .int 1, .int 2, .int 3])) x2 (.lst [.int 0, .int 2, .int 3, .int 4])) (a := x3) (o := .lst [.int 0, .int 2, .int 3, .int 4]))
      have eul := upd_same (H := upd (upd (upd (upd H16 x0 (.lst [.int 0, .int 2, .int 3])) x1 (.lst [.int 0, .int 1, .int 2, .int 3])) x2 (.lst [.int 0, .int 2, .int 3, .int 4])) x3 (.lst [.int 0, .int 2, .int 3, .int 4])) (a := ul) (o := .lst [.ref x0, .ref x1, .ref x2, .ref x3])
      have w04 := (((w0.trans w1).trans w2).trans w3).trans w4
      generalize upd (upd (upd (upd (upd H16 x0 (.lst [.int 0, .int 2, .int 3])) x1 (.lst [.int 0, .int 1, .int 2, .int 3])) x2 (.lst [.int 0, .int 2, .int 3, .int 4])) x3 (.lst [.int 0, .int 2, .int 3, .int 4])) ul (.lst [.ref x0, .ref x1, .ref x2, .ref x3]) = H17 at w04 ex0 ex1 ex2 ex3 eul ⊢
      have s917 := (s915.trans v1).trans w04
      have ewl := w04 _ _ ewl
      have sU : ∀ way, way < 4 → ∃ xw, ([.ref x0, .ref x1, .ref x2, .ref x3] : List V)[way]? = some (.ref xw) ∧ H17 xw = some (.lst ((used18 way).map fun k => V.int (k : Nat))) := fun way hw => by
        have z : way = 0 ∨ way = 1 ∨ way = 2 ∨ way = 3 := by omega
        rcases z with rfl | rfl | rfl | rfl
        · exact ⟨x0, rfl, ex0⟩
        · exact ⟨x1, rfl, ex1⟩
        · exact ⟨x2, rfl, ex2⟩
        · exact ⟨x3, rfl, ex3⟩
      have src17 : SrcAt H17 p := SrcAt.same s19.src s917
      have s117 := s19.same s917
      have eg17 := s917 _ _ eg
      have hql17 := s917 _ _ hql9
      have neq17 : ∀ {c : Addr} {xs : List V}, H17 c = some (.lst xs) → (∀ x y z : Int, xs ≠ [.int x, .int y, .int z]) → c ≠ p := fun {c xs} h hx e => by
        obtain ⟨x, y, z, h2⟩ := src17
        rw [e, h2] at h
        exact hx x y z (HO.lst.inj (Option.some.inj h)).symm
      have nx : ∀ c, H16 c = none → c ≠ p := fun c hc e => by
        obtain ⟨x, y, z, h2⟩ := SrcAt.same s19.src (s915.trans v1)
        rw [e, h2] at hc
        cases hc
      have nxw : ∀ way xw, way < 4 → ([.ref x0, .ref x1, .ref x2, .ref x3] : List V)[way]? = some (.ref xw) → xw ≠ p := fun way xw hw e => by
        have z : way = 0 ∨ way = 1 ∨ way = 2 ∨ way = 3 := by omega
        rcases z with rfl | rfl | rfl | rfl
        · cases e; exact nx _ hx0
        · cases e; exact nx _ (w0.free hx1)
        · cases e; exact nx _ ((w0.trans w1).free hx2)
        · cases e; exact nx _ (((w0.trans w1).trans w2).free hx3)
      have nwl : wl ≠ p := fun e => by
        obtain ⟨x, y, z, h2⟩ := src17
        rw [e, h2] at ewl
        cases ewl
      have nul : ul ≠ p := nx _ ((((w0.trans w1).trans w2).trans w3).free hul)
      have ng : g ≠ p := fun e => by
        obtain ⟨x, y, z, h2⟩ := src17
        rw [e, h2] at eg17
        cases eg17
      have nql17 := neq17 hql17 lv3
      refine ⟨4, rfl, by decide, by decide, for_range (lo := 0) (n := 4) (Pv := fun i σ H' => (∃ z9 z12 z13, σ = [some (.ref a), some (.int (0 + (i0 : Int))), some (.ref p), some (.int (b : Nat)), some (.int (n : Nat)), some (.int (f0 : Nat)), some (.ref ql), some (.ref lk), some (.ref g), z9, some (.ref wl), some (.ref ul), z12, z13]) ∧ Stp p H17 H')
        ⟨⟨y9, y12, y13, rfl⟩, .refl src17⟩ ?_ ?_⟩
      · rintro way0 σ H' hw0 ⟨⟨z9, z12, z13, rfl⟩, st⟩
        have hw : 0 + way0 < 4 := by omega
        have egI := st.keep _ _ ng eg17
        refine ⟨_, rfl, g, _, rfl, .inl (SqL.of egI), fun sm hsm => ?_⟩
        have nsm : sm ≠ p := fun e => by
          obtain ⟨x, y, z, h2⟩ := st.src
          rw [e, h2] at hsm
          cases hsm
        have q1 := same_upd (o := .lst [.int (b : Nat), .ref ql, .int (n : Nat), .int (f0 : Nat), .int ((f0 + 1 + r8 : Nat) : Int)]) hsm
        have esm := upd_same (H := H') (a := sm) (o := .lst [.int (b : Nat), .ref ql, .int (n : Nat), .int (f0 : Nat), .int ((f0 + 1 + r8 : Nat) : Int)])
        generalize upd H' sm (.lst [.int (b : Nat), .ref ql, .int (n : Nat), .int (f0 : Nat), .int ((f0 + 1 + r8 : Nat) : Int)]) = H18 at q1 esm ⊢
        obtain ⟨xw, exw, hxw⟩ := sU (0 + way0) hw
        have hxw' := q1 _ _ (st.keep _ _ (nxw _ _ hw exw) hxw)
        refine ⟨_, rfl, _, rfl, ul, _, ((0 + way0 : Nat) : Int), .ref xw, rfl, rfl, SqL.of (q1 _ _ (st.keep _ _ nul eul)), atI_nat exw, xw, _, rfl, SqL.of hxw', fun rv hrv => ?_⟩
        have q2 := same_upd (o := .lst (((used18 (0 + way0)).map fun k => V.int (k : Nat)).reverse)) hrv
        have erv : (upd H18 rv (.lst (((used18 (0 + way0)).map fun k => V.int (k : Nat)).reverse))) rv = some (.lst ((usedR (0 + way0)).map fun k => V.int (k : Nat))) := by
          rw [upd_same]
          unfold usedR
          rw [List.map_reverse]
        have esm2 := q2 _ _ esm
        have q12 := q1.trans q2
        generalize upd H18 rv (.lst (((used18 (0 + way0)).map fun k => V.int (k : Nat)).reverse)) = H19 at q2 erv esm2 q12 ⊢
        have nrs : rv ≠ sm := fun e => by
          rw [e, esm] at hrv
          cases hrv
        have nrp : rv ≠ p := fun e => by
          obtain ⟨x, y, z, h2⟩ := SrcAt.same st.src q1
          rw [e, h2] at hrv
          cases hrv
        have nqs : ql ≠ sm := fun e => by
          have z := st.keep _ _ nql17 hql17
          rw [e, hsm] at z
          cases z
        have nws : wl ≠ sm := fun e => by
          have z := st.keep _ _ nwl ewl
          rw [e, hsm] at z
          cases z
        have hql19 := q12 _ _ (st.keep _ _ nql17 hql17)
        have ewl19 := q12 _ _ (st.keep _ _ nwl ewl)
        refine ⟨rv, rfl, ⟨_, SqL.of erv⟩, for_list (K := K) (a := rv) (xs := (usedR (0 + way0)).map fun k => V.int (k : Nat)) (fun i σ H'' => (∃ z13 : Option V, σ = [some (.ref a), some (.int (0 + (i0 : Int))), some (.ref p), some (.int (b : Nat)), some (.int (n : Nat)), some (.int (f0 : Nat)), some (.ref ql), some (.ref lk), some (.ref g), some (.int (0 + (way0 : Int))), some (.ref wl), some (.ref ul), some (.ref sm), z13]) ∧
            ∃ c0 c1 c2 c3 c4 : V, H'' sm = some (.lst [c0, c1, c2, c3, c4]) ∧ (∀ k, k ∉ (usedR (0 + way0)).take i → ([c0, c1, c2, c3, c4] : List V)[k]? = ([.int (b : Nat), .ref ql, .int (n : Nat), .int (f0 : Nat), .int ((f0 + 1 + r8 : Nat) : Int)] : List V)[k]?) ∧ (∀ c o, c ≠ p → c ≠ sm → H19 c = some o → H'' c = some o) ∧ SrcAt H'' p)
          ⟨⟨z13, rfl⟩, _, _, _, _, _, esm2, fun k _ => rfl, fun c o _ _ e => e, SrcAt.same st.src q12⟩ (fun i σ H'' _ ⟨_, _, _, _, _, _, _, _, kp, _⟩ => SqL.of (kp _ _ nrp nrs erv)) ?_ ?_⟩
        · rintro i x σ H'' hx ⟨⟨z13, rfl⟩, c0, c1, c2, c3, c4, eS, hgood, kp, src⟩
          rw [List.getElem?_map] at hx
          obtain ⟨at_, hat, rfl⟩ : ∃ at_, (usedR (0 + way0))[i]? = some at_ ∧ x = V.int (at_ : Nat) := by
            cases e : (usedR (0 + way0))[i]? with
            | none =>
              rw [e] at hx
              cases hx
            | some k =>
              rw [e] at hx
              exact ⟨k, rfl, (Option.some.inj hx).symm⟩
          obtain ⟨hmem, h4, hlow⟩ := usedR_at hw hat
          refine ⟨_, rfl, _, rfl, _, rfl, _, rfl, p, at_, n, f0, rfl, h4, hnf, src, fun H3 x st3 hbad => ?_⟩
          have eS3 := st3.keep _ _ nsm eS
          refine ⟨_, rfl, _, rfl, sm, _, _, at_, rfl, rfl, eS3, ixN_at (by show at_ < 5; omega), ?_⟩
          have hset : ([c0, c1, c2, c3, c4].set at_ x).length = 5 := by rw [List.length_set]; rfl
          have hget : ∀ k, ([c0, c1, c2, c3, c4].set at_ x)[k]? = if at_ = k then some x else ([c0, c1, c2, c3, c4] : List V)[k]? := fun k => by
            rw [List.getElem?_set]
            by_cases e : at_ = k
            · rw [if_pos e, if_pos e, if_pos (by show at_ < 5; omega)]
            · rw [if_neg e, if_neg e]
          have eS4 : (upd H3 sm (.lst ([c0, c1, c2, c3, c4].set at_ x))) sm = some (.lst ([c0, c1, c2, c3, c4].set at_ x)) := upd_same
          obtain ⟨d0, d1, d2, d3, d4, ed⟩ := five hset
          rw [ed] at hget
          have kp4 : ∀ c o, c ≠ p → c ≠ sm → H19 c = some o → (upd H3 sm (.lst ([c0, c1, c2, c3, c4].set at_ x))) c = some o := fun c o n1 n2 e => by
            rw [upd_ne n2]
            exact st3.keep _ _ n1 (kp c o n1 n2 e)
          have kn : KeepsNew H'' H3 (upd H3 sm (.lst ([c0, c1, c2, c3, c4].set at_ x))) := fun c o hc ho => by
            rw [upd_ne fun e => by rw [e, eS] at hc; cases hc]
            exact ho
          have src4 : SrcAt (upd H3 sm (.lst ([c0, c1, c2, c3, c4].set at_ x))) p := by
            obtain ⟨x, y, z, h2⟩ := st3.src
            exact ⟨x, y, z, by rw [upd_ne (Ne.symm nsm)]; exact h2⟩
          have bad := hbad _ kn
          generalize upd H3 sm (.lst ([c0, c1, c2, c3, c4].set at_ x)) = H4' at eS4 kp4 src4 bad ⊢
          rw [ed] at eS4
          have low : ∀ k, k < at_ → ([d0, d1, d2, d3, d4] : List V)[k]? = ([.int (b : Nat), .ref ql, .int (n : Nat), .int (f0 : Nat), .int ((f0 + 1 + r8 : Nat) : Int)] : List V)[k]? := fun k hk => by
            rw [hget k, if_neg (by omega)]
            exact hgood k (hlow k hk)
          refine ⟨_, rfl, _, rfl, 0 + way0, sm, d0, d1, d2, d3, d4, wd18 at_, rfl, eS4, res_bad (b := b) (n := n) (f := f0) (q := ql) (ws := ws) hb hb64 hnf (SqL.of (kp4 _ _ nql17 nqs hql19)) hne h60 (0 + way0) at_ hw hmem (fun h => Option.some.inj (low 0 h)) (fun h => .inl (Option.some.inj (low 1 h))) (fun h => Option.some.inj (low 2 h)) (fun h => Option.some.inj (low 3 h)) x (by rw [hget at_, if_pos rfl]) bad, fun H5' s5 => ?_⟩
          refine ⟨_, rfl, _, rfl, wl, _, _, _, rfl, rfl, SqL.of (s5 _ _ (kp4 _ _ nwl nws ewl19)), atI_nat (words_at h4), rfl, false, nF rfl, iteF ?_⟩
          refine ⟨⟨_, rfl⟩, d0, d1, d2, d3, d4, s5 _ _ eS4, fun k hk => ?_, fun c o n1 n2 e => s5 _ _ (kp4 c o n1 n2 e), SrcAt.same src4 s5⟩
          have ht : (usedR (0 + way0)).take (i + 1) = (usedR (0 + way0)).take i ++ [at_] := by
            rw [List.take_add_one, hat]
            rfl
          rw [ht] at hk
          have hk1 : k ∉ (usedR (0 + way0)).take i := fun z => hk (List.mem_append_left _ z)
          have hk2 : at_ ≠ k := fun z => hk (List.mem_append_right _ (by rw [z]; exact List.mem_singleton.mpr rfl))
          rw [hget k, if_neg hk2]
          exact hgood k hk1
        · rintro σ H'' ⟨⟨z13, rfl⟩, c0, c1, c2, c3, c4, eS, hgood, kp, src⟩
          refine ⟨⟨_, _, _, rfl⟩, ⟨fun c o n1 e => kp c o n1 (fun z => ?_) (q12 _ _ (st.keep _ _ n1 e)), src⟩⟩
          have y := st.keep _ _ n1 e
          rw [z, hsm] at y
          cases y
      · rintro σ H' ⟨⟨z9, z12, z13, rfl⟩, st⟩
        exact ⟨seq_new hS hp0 s1 (s117.trans st), _, _, _, _, _, _, _, _, _, _, _, _, _, rfl⟩
    · rintro σ H' ⟨_, y1, y2, y3, y4, y5, y6, y7, y8, y9, y10, y11, y12, y13, rfl⟩
      exact q H'
end
theorem all_mk {l : PySem.W.OpenLaw} {w : World} {K : PySem.W.Frag} {h : Heap} {mg : Str → Option Value} {fa : Addr} (X : K.In h) (G : h.Ns mainGlobals mg) (hfa : mg "law" = some (.ref fa))
    {f_WORDS : Addr} {od_WORDS : Option Addr} {tk0_WORDS tk1_WORDS : Tok} {tn_WORDS : Nat} {ts_WORDS : Array (Option Value)}
    {tk_MOST_LEVELS : Tok}
    {f_is_integer f_is_word f_is_base f_is_length f_are_levels f_is_tick f_check_base f_check_levels f_check_tick f_word_at f_level_and_size f_path f_goes_in_front f_stations f_side f_with_digit f_dues_to_try f_moves_in f_costliest f_law_cell_at f_law_mixed f_law_source f_law_next f_law_base f_law_levels f_law_tick f_law_pair f_law_word f_law_bad f_law : Addr}
    {od_is_integer an_is_integer od_is_word an_is_word od_is_base an_is_base od_is_length an_is_length od_are_levels an_are_levels od_is_tick an_is_tick od_check_base an_check_base od_check_levels an_check_levels od_check_tick an_check_tick od_word_at an_word_at od_level_and_size an_level_and_size od_path an_path od_goes_in_front an_goes_in_front od_stations an_stations od_side an_side od_with_digit an_with_digit od_dues_to_try an_dues_to_try od_moves_in an_moves_in od_costliest an_costliest od_law_cell_at an_law_cell_at od_law_mixed an_law_mixed od_law_source an_law_source od_law_next an_law_next od_law_base an_law_base od_law_levels an_law_levels od_law_tick an_law_tick od_law_pair an_law_pair od_law_word an_law_word od_law_bad an_law_bad od_law an_law : Option Addr}
    {sl_is_integer sl_is_word sl_is_base sl_is_length sl_are_levels sl_is_tick sl_check_base sl_check_levels sl_check_tick sl_word_at sl_level_and_size sl_path sl_goes_in_front sl_stations sl_side sl_with_digit sl_dues_to_try sl_moves_in sl_costliest sl_law_cell_at sl_law_mixed sl_law_source sl_law_next sl_law_base sl_law_levels sl_law_tick sl_law_pair sl_law_word sl_law_bad sl_law : Array (Option Value)}
    {oc_is_integer kV_is_integer dc_is_integer pm_is_integer cd_is_integer ct_is_integer oc_is_word kV_is_word dc_is_word pm_is_word cd_is_word ct_is_word oc_is_base kV_is_base dc_is_base pm_is_base cd_is_base ct_is_base oc_is_length kV_is_length dc_is_length pm_is_length cd_is_length ct_is_length oc_are_levels kV_are_levels dc_are_levels pm_are_levels cd_are_levels ct_are_levels oc_is_tick kV_is_tick dc_is_tick pm_is_tick cd_is_tick ct_is_tick oc_check_base kV_check_base dc_check_base pm_check_base cd_check_base ct_check_base oc_check_levels kV_check_levels dc_check_levels pm_check_levels cd_check_levels ct_check_levels oc_check_tick kV_check_tick dc_check_tick pm_check_tick cd_check_tick ct_check_tick oc_word_at kV_word_at dc_word_at pm_word_at cd_word_at ct_word_at oc_level_and_size kV_level_and_size dc_level_and_size pm_level_and_size cd_level_and_size ct_level_and_size oc_path kV_path dc_path pm_path cd_path ct_path oc_goes_in_front kV_goes_in_front dc_goes_in_front pm_goes_in_front cd_goes_in_front ct_goes_in_front oc_stations kV_stations dc_stations pm_stations cd_stations ct_stations oc_side kV_side dc_side pm_side cd_side ct_side oc_with_digit kV_with_digit dc_with_digit pm_with_digit cd_with_digit ct_with_digit oc_dues_to_try kV_dues_to_try dc_dues_to_try pm_dues_to_try cd_dues_to_try ct_dues_to_try oc_moves_in kV_moves_in dc_moves_in pm_moves_in cd_moves_in ct_moves_in oc_costliest kV_costliest dc_costliest pm_costliest cd_costliest ct_costliest oc_law_cell_at kV_law_cell_at dc_law_cell_at pm_law_cell_at cd_law_cell_at ct_law_cell_at oc_law_mixed kV_law_mixed dc_law_mixed pm_law_mixed cd_law_mixed ct_law_mixed oc_law_source kV_law_source dc_law_source pm_law_source cd_law_source ct_law_source oc_law_next kV_law_next dc_law_next pm_law_next cd_law_next ct_law_next oc_law_base kV_law_base dc_law_base pm_law_base cd_law_base ct_law_base oc_law_levels kV_law_levels dc_law_levels pm_law_levels cd_law_levels ct_law_levels oc_law_tick kV_law_tick dc_law_tick pm_law_tick cd_law_tick ct_law_tick oc_law_pair kV_law_pair dc_law_pair pm_law_pair cd_law_pair ct_law_pair oc_law_word kV_law_word dc_law_word pm_law_word cd_law_word ct_law_word oc_law_bad kV_law_bad dc_law_bad pm_law_bad cd_law_bad ct_law_bad oc_law kV_law dc_law pm_law cd_law ct_law : Value}
    {c_NoBase c_NoLevels c_NoTick c_TimerError c_NoOrder c_NoPeriod c_NoSighting c_NoTimer c_TooMany : Addr}
    {dT_is_tick : Addr} {tc_is_tick : Value} {td_is_tick : Option Addr} {tt_is_tick : Tok} {tn_is_tick : Nat} {ts_is_tick : Array (Option Value)}
    {dT_check_tick : Addr} {tc_check_tick : Value} {td_check_tick : Option Addr} {tt_check_tick : Tok} {tn_check_tick : Nat} {ts_check_tick : Array (Option Value)}
    (a_is_integer : PySem.W.nsIn K mainGlobals "is_integer" = some (some (.ref f_is_integer)))
    (l_is_integer : K.lookup f_is_integer = some ⟨oc_is_integer, od_is_integer, .func (PySem.W.fnOf "is_integer" "is_integer" (defArgs s_is_integer) (defBody s_is_integer) (defScope s_is_integer) .none kV_is_integer dc_is_integer pm_is_integer an_is_integer cd_is_integer ct_is_integer), sl_is_integer⟩)
    (c_is_integer : PySem.W.codeIn K cd_is_integer "is_integer" = true) (k_is_integer : PySem.W.keepIn K (.ref f_is_integer) = true)
    (a_is_word : PySem.W.nsIn K mainGlobals "is_word" = some (some (.ref f_is_word)))
    (l_is_word : K.lookup f_is_word = some ⟨oc_is_word, od_is_word, .func (PySem.W.fnOf "is_word" "is_word" (defArgs s_is_word) (defBody s_is_word) (defScope s_is_word) .none kV_is_word dc_is_word pm_is_word an_is_word cd_is_word ct_is_word), sl_is_word⟩)
    (c_is_word : PySem.W.codeIn K cd_is_word "is_word" = true) (k_is_word : PySem.W.keepIn K (.ref f_is_word) = true)
    (a_is_base : PySem.W.nsIn K mainGlobals "is_base" = some (some (.ref f_is_base)))
    (l_is_base : K.lookup f_is_base = some ⟨oc_is_base, od_is_base, .func (PySem.W.fnOf "is_base" "is_base" (defArgs s_is_base) (defBody s_is_base) (defScope s_is_base) .none kV_is_base dc_is_base pm_is_base an_is_base cd_is_base ct_is_base), sl_is_base⟩)
    (c_is_base : PySem.W.codeIn K cd_is_base "is_base" = true) (k_is_base : PySem.W.keepIn K (.ref f_is_base) = true)
    (a_is_length : PySem.W.nsIn K mainGlobals "is_length" = some (some (.ref f_is_length)))
    (l_is_length : K.lookup f_is_length = some ⟨oc_is_length, od_is_length, .func (PySem.W.fnOf "is_length" "is_length" (defArgs s_is_length) (defBody s_is_length) (defScope s_is_length) .none kV_is_length dc_is_length pm_is_length an_is_length cd_is_length ct_is_length), sl_is_length⟩)
    (c_is_length : PySem.W.codeIn K cd_is_length "is_length" = true) (k_is_length : PySem.W.keepIn K (.ref f_is_length) = true)
    (a_are_levels : PySem.W.nsIn K mainGlobals "are_levels" = some (some (.ref f_are_levels)))
    (l_are_levels : K.lookup f_are_levels = some ⟨oc_are_levels, od_are_levels, .func (PySem.W.fnOf "are_levels" "are_levels" (defArgs s_are_levels) (defBody s_are_levels) (defScope s_are_levels) .none kV_are_levels dc_are_levels pm_are_levels an_are_levels cd_are_levels ct_are_levels), sl_are_levels⟩)
    (c_are_levels : PySem.W.codeIn K cd_are_levels "are_levels" = true) (k_are_levels : PySem.W.keepIn K (.ref f_are_levels) = true)
    (a_is_tick : PySem.W.nsIn K mainGlobals "is_tick" = some (some (.ref f_is_tick)))
    (l_is_tick : K.lookup f_is_tick = some ⟨oc_is_tick, od_is_tick, .func (PySem.W.fnOf "is_tick" "is_tick" (defArgs s_is_tick) (defBody s_is_tick) (defScope s_is_tick) (.ref dT_is_tick) kV_is_tick dc_is_tick pm_is_tick an_is_tick cd_is_tick ct_is_tick), sl_is_tick⟩)
    (t_is_tick : K.lookup dT_is_tick = some ⟨tc_is_tick, td_is_tick, .seq #[.int 0 tt_is_tick] tn_is_tick, ts_is_tick⟩)
    (c_is_tick : PySem.W.codeIn K cd_is_tick "is_tick" = true) (k_is_tick : PySem.W.keepIn K (.ref f_is_tick) = true)
    (a_check_base : PySem.W.nsIn K mainGlobals "check_base" = some (some (.ref f_check_base)))
    (l_check_base : K.lookup f_check_base = some ⟨oc_check_base, od_check_base, .func (PySem.W.fnOf "check_base" "check_base" (defArgs s_check_base) (defBody s_check_base) (defScope s_check_base) .none kV_check_base dc_check_base pm_check_base an_check_base cd_check_base ct_check_base), sl_check_base⟩)
    (c_check_base : PySem.W.codeIn K cd_check_base "check_base" = true) (k_check_base : PySem.W.keepIn K (.ref f_check_base) = true)
    (a_check_levels : PySem.W.nsIn K mainGlobals "check_levels" = some (some (.ref f_check_levels)))
    (l_check_levels : K.lookup f_check_levels = some ⟨oc_check_levels, od_check_levels, .func (PySem.W.fnOf "check_levels" "check_levels" (defArgs s_check_levels) (defBody s_check_levels) (defScope s_check_levels) .none kV_check_levels dc_check_levels pm_check_levels an_check_levels cd_check_levels ct_check_levels), sl_check_levels⟩)
    (c_check_levels : PySem.W.codeIn K cd_check_levels "check_levels" = true) (k_check_levels : PySem.W.keepIn K (.ref f_check_levels) = true)
    (a_check_tick : PySem.W.nsIn K mainGlobals "check_tick" = some (some (.ref f_check_tick)))
    (l_check_tick : K.lookup f_check_tick = some ⟨oc_check_tick, od_check_tick, .func (PySem.W.fnOf "check_tick" "check_tick" (defArgs s_check_tick) (defBody s_check_tick) (defScope s_check_tick) (.ref dT_check_tick) kV_check_tick dc_check_tick pm_check_tick an_check_tick cd_check_tick ct_check_tick), sl_check_tick⟩)
    (t_check_tick : K.lookup dT_check_tick = some ⟨tc_check_tick, td_check_tick, .seq #[.int 0 tt_check_tick] tn_check_tick, ts_check_tick⟩)
    (c_check_tick : PySem.W.codeIn K cd_check_tick "check_tick" = true) (k_check_tick : PySem.W.keepIn K (.ref f_check_tick) = true)
    (a_word_at : PySem.W.nsIn K mainGlobals "word_at" = some (some (.ref f_word_at)))
    (l_word_at : K.lookup f_word_at = some ⟨oc_word_at, od_word_at, .func (PySem.W.fnOf "word_at" "word_at" (defArgs s_word_at) (defBody s_word_at) (defScope s_word_at) .none kV_word_at dc_word_at pm_word_at an_word_at cd_word_at ct_word_at), sl_word_at⟩)
    (c_word_at : PySem.W.codeIn K cd_word_at "word_at" = true) (k_word_at : PySem.W.keepIn K (.ref f_word_at) = true)
    (a_level_and_size : PySem.W.nsIn K mainGlobals "level_and_size" = some (some (.ref f_level_and_size)))
    (l_level_and_size : K.lookup f_level_and_size = some ⟨oc_level_and_size, od_level_and_size, .func (PySem.W.fnOf "level_and_size" "level_and_size" (defArgs s_level_and_size) (defBody s_level_and_size) (defScope s_level_and_size) .none kV_level_and_size dc_level_and_size pm_level_and_size an_level_and_size cd_level_and_size ct_level_and_size), sl_level_and_size⟩)
    (c_level_and_size : PySem.W.codeIn K cd_level_and_size "level_and_size" = true) (k_level_and_size : PySem.W.keepIn K (.ref f_level_and_size) = true)
    (a_path : PySem.W.nsIn K mainGlobals "path" = some (some (.ref f_path)))
    (l_path : K.lookup f_path = some ⟨oc_path, od_path, .func (PySem.W.fnOf "path" "path" (defArgs s_path) (defBody s_path) (defScope s_path) .none kV_path dc_path pm_path an_path cd_path ct_path), sl_path⟩)
    (c_path : PySem.W.codeIn K cd_path "path" = true) (k_path : PySem.W.keepIn K (.ref f_path) = true)
    (a_goes_in_front : PySem.W.nsIn K mainGlobals "goes_in_front" = some (some (.ref f_goes_in_front)))
    (l_goes_in_front : K.lookup f_goes_in_front = some ⟨oc_goes_in_front, od_goes_in_front, .func (PySem.W.fnOf "goes_in_front" "goes_in_front" (defArgs s_goes_in_front) (defBody s_goes_in_front) (defScope s_goes_in_front) .none kV_goes_in_front dc_goes_in_front pm_goes_in_front an_goes_in_front cd_goes_in_front ct_goes_in_front), sl_goes_in_front⟩)
    (c_goes_in_front : PySem.W.codeIn K cd_goes_in_front "goes_in_front" = true) (k_goes_in_front : PySem.W.keepIn K (.ref f_goes_in_front) = true)
    (a_stations : PySem.W.nsIn K mainGlobals "stations" = some (some (.ref f_stations)))
    (l_stations : K.lookup f_stations = some ⟨oc_stations, od_stations, .func (PySem.W.fnOf "stations" "stations" (defArgs s_stations) (defBody s_stations) (defScope s_stations) .none kV_stations dc_stations pm_stations an_stations cd_stations ct_stations), sl_stations⟩)
    (c_stations : PySem.W.codeIn K cd_stations "stations" = true) (k_stations : PySem.W.keepIn K (.ref f_stations) = true)
    (a_side : PySem.W.nsIn K mainGlobals "side" = some (some (.ref f_side)))
    (l_side : K.lookup f_side = some ⟨oc_side, od_side, .func (PySem.W.fnOf "side" "side" (defArgs s_side) (defBody s_side) (defScope s_side) .none kV_side dc_side pm_side an_side cd_side ct_side), sl_side⟩)
    (c_side : PySem.W.codeIn K cd_side "side" = true) (k_side : PySem.W.keepIn K (.ref f_side) = true)
    (a_with_digit : PySem.W.nsIn K mainGlobals "with_digit" = some (some (.ref f_with_digit)))
    (l_with_digit : K.lookup f_with_digit = some ⟨oc_with_digit, od_with_digit, .func (PySem.W.fnOf "with_digit" "with_digit" (defArgs s_with_digit) (defBody s_with_digit) (defScope s_with_digit) .none kV_with_digit dc_with_digit pm_with_digit an_with_digit cd_with_digit ct_with_digit), sl_with_digit⟩)
    (c_with_digit : PySem.W.codeIn K cd_with_digit "with_digit" = true) (k_with_digit : PySem.W.keepIn K (.ref f_with_digit) = true)
    (a_dues_to_try : PySem.W.nsIn K mainGlobals "dues_to_try" = some (some (.ref f_dues_to_try)))
    (l_dues_to_try : K.lookup f_dues_to_try = some ⟨oc_dues_to_try, od_dues_to_try, .func (PySem.W.fnOf "dues_to_try" "dues_to_try" (defArgs s_dues_to_try) (defBody s_dues_to_try) (defScope s_dues_to_try) .none kV_dues_to_try dc_dues_to_try pm_dues_to_try an_dues_to_try cd_dues_to_try ct_dues_to_try), sl_dues_to_try⟩)
    (c_dues_to_try : PySem.W.codeIn K cd_dues_to_try "dues_to_try" = true) (k_dues_to_try : PySem.W.keepIn K (.ref f_dues_to_try) = true)
    (a_moves_in : PySem.W.nsIn K mainGlobals "moves_in" = some (some (.ref f_moves_in)))
    (l_moves_in : K.lookup f_moves_in = some ⟨oc_moves_in, od_moves_in, .func (PySem.W.fnOf "moves_in" "moves_in" (defArgs s_moves_in) (defBody s_moves_in) (defScope s_moves_in) .none kV_moves_in dc_moves_in pm_moves_in an_moves_in cd_moves_in ct_moves_in), sl_moves_in⟩)
    (c_moves_in : PySem.W.codeIn K cd_moves_in "moves_in" = true) (k_moves_in : PySem.W.keepIn K (.ref f_moves_in) = true)
    (a_costliest : PySem.W.nsIn K mainGlobals "costliest" = some (some (.ref f_costliest)))
    (l_costliest : K.lookup f_costliest = some ⟨oc_costliest, od_costliest, .func (PySem.W.fnOf "costliest" "costliest" (defArgs s_costliest) (defBody s_costliest) (defScope s_costliest) .none kV_costliest dc_costliest pm_costliest an_costliest cd_costliest ct_costliest), sl_costliest⟩)
    (c_costliest : PySem.W.codeIn K cd_costliest "costliest" = true) (k_costliest : PySem.W.keepIn K (.ref f_costliest) = true)
    (a_law_cell_at : PySem.W.nsIn K mainGlobals "_law_cell_at" = some (some (.ref f_law_cell_at)))
    (l_law_cell_at : K.lookup f_law_cell_at = some ⟨oc_law_cell_at, od_law_cell_at, .func (PySem.W.fnOf "_law_cell_at" "_law_cell_at" (defArgs s__law_cell_at) (defBody s__law_cell_at) (defScope s__law_cell_at) .none kV_law_cell_at dc_law_cell_at pm_law_cell_at an_law_cell_at cd_law_cell_at ct_law_cell_at), sl_law_cell_at⟩)
    (c_law_cell_at : PySem.W.codeIn K cd_law_cell_at "_law_cell_at" = true) (k_law_cell_at : PySem.W.keepIn K (.ref f_law_cell_at) = true)
    (a_law_mixed : PySem.W.nsIn K mainGlobals "_law_mixed" = some (some (.ref f_law_mixed)))
    (l_law_mixed : K.lookup f_law_mixed = some ⟨oc_law_mixed, od_law_mixed, .func (PySem.W.fnOf "_law_mixed" "_law_mixed" (defArgs s__law_mixed) (defBody s__law_mixed) (defScope s__law_mixed) .none kV_law_mixed dc_law_mixed pm_law_mixed an_law_mixed cd_law_mixed ct_law_mixed), sl_law_mixed⟩)
    (c_law_mixed : PySem.W.codeIn K cd_law_mixed "_law_mixed" = true) (k_law_mixed : PySem.W.keepIn K (.ref f_law_mixed) = true)
    (a_law_source : PySem.W.nsIn K mainGlobals "_law_source" = some (some (.ref f_law_source)))
    (l_law_source : K.lookup f_law_source = some ⟨oc_law_source, od_law_source, .func (PySem.W.fnOf "_law_source" "_law_source" (defArgs s__law_source) (defBody s__law_source) (defScope s__law_source) .none kV_law_source dc_law_source pm_law_source an_law_source cd_law_source ct_law_source), sl_law_source⟩)
    (c_law_source : PySem.W.codeIn K cd_law_source "_law_source" = true) (k_law_source : PySem.W.keepIn K (.ref f_law_source) = true)
    (a_law_next : PySem.W.nsIn K mainGlobals "_law_next" = some (some (.ref f_law_next)))
    (l_law_next : K.lookup f_law_next = some ⟨oc_law_next, od_law_next, .func (PySem.W.fnOf "_law_next" "_law_next" (defArgs s__law_next) (defBody s__law_next) (defScope s__law_next) .none kV_law_next dc_law_next pm_law_next an_law_next cd_law_next ct_law_next), sl_law_next⟩)
    (c_law_next : PySem.W.codeIn K cd_law_next "_law_next" = true) (k_law_next : PySem.W.keepIn K (.ref f_law_next) = true)
    (a_law_base : PySem.W.nsIn K mainGlobals "_law_base" = some (some (.ref f_law_base)))
    (l_law_base : K.lookup f_law_base = some ⟨oc_law_base, od_law_base, .func (PySem.W.fnOf "_law_base" "_law_base" (defArgs s__law_base) (defBody s__law_base) (defScope s__law_base) .none kV_law_base dc_law_base pm_law_base an_law_base cd_law_base ct_law_base), sl_law_base⟩)
    (c_law_base : PySem.W.codeIn K cd_law_base "_law_base" = true) (k_law_base : PySem.W.keepIn K (.ref f_law_base) = true)
    (a_law_levels : PySem.W.nsIn K mainGlobals "_law_levels" = some (some (.ref f_law_levels)))
    (l_law_levels : K.lookup f_law_levels = some ⟨oc_law_levels, od_law_levels, .func (PySem.W.fnOf "_law_levels" "_law_levels" (defArgs s__law_levels) (defBody s__law_levels) (defScope s__law_levels) .none kV_law_levels dc_law_levels pm_law_levels an_law_levels cd_law_levels ct_law_levels), sl_law_levels⟩)
    (c_law_levels : PySem.W.codeIn K cd_law_levels "_law_levels" = true) (k_law_levels : PySem.W.keepIn K (.ref f_law_levels) = true)
    (a_law_tick : PySem.W.nsIn K mainGlobals "_law_tick" = some (some (.ref f_law_tick)))
    (l_law_tick : K.lookup f_law_tick = some ⟨oc_law_tick, od_law_tick, .func (PySem.W.fnOf "_law_tick" "_law_tick" (defArgs s__law_tick) (defBody s__law_tick) (defScope s__law_tick) .none kV_law_tick dc_law_tick pm_law_tick an_law_tick cd_law_tick ct_law_tick), sl_law_tick⟩)
    (c_law_tick : PySem.W.codeIn K cd_law_tick "_law_tick" = true) (k_law_tick : PySem.W.keepIn K (.ref f_law_tick) = true)
    (a_law_pair : PySem.W.nsIn K mainGlobals "_law_pair" = some (some (.ref f_law_pair)))
    (l_law_pair : K.lookup f_law_pair = some ⟨oc_law_pair, od_law_pair, .func (PySem.W.fnOf "_law_pair" "_law_pair" (defArgs s__law_pair) (defBody s__law_pair) (defScope s__law_pair) .none kV_law_pair dc_law_pair pm_law_pair an_law_pair cd_law_pair ct_law_pair), sl_law_pair⟩)
    (c_law_pair : PySem.W.codeIn K cd_law_pair "_law_pair" = true) (k_law_pair : PySem.W.keepIn K (.ref f_law_pair) = true)
    (a_law_word : PySem.W.nsIn K mainGlobals "_law_word" = some (some (.ref f_law_word)))
    (l_law_word : K.lookup f_law_word = some ⟨oc_law_word, od_law_word, .func (PySem.W.fnOf "_law_word" "_law_word" (defArgs s__law_word) (defBody s__law_word) (defScope s__law_word) .none kV_law_word dc_law_word pm_law_word an_law_word cd_law_word ct_law_word), sl_law_word⟩)
    (c_law_word : PySem.W.codeIn K cd_law_word "_law_word" = true) (k_law_word : PySem.W.keepIn K (.ref f_law_word) = true)
    (a_law_bad : PySem.W.nsIn K mainGlobals "_law_bad" = some (some (.ref f_law_bad)))
    (l_law_bad : K.lookup f_law_bad = some ⟨oc_law_bad, od_law_bad, .func (PySem.W.fnOf "_law_bad" "_law_bad" (defArgs s__law_bad) (defBody s__law_bad) (defScope s__law_bad) .none kV_law_bad dc_law_bad pm_law_bad an_law_bad cd_law_bad ct_law_bad), sl_law_bad⟩)
    (c_law_bad : PySem.W.codeIn K cd_law_bad "_law_bad" = true) (k_law_bad : PySem.W.keepIn K (.ref f_law_bad) = true)
    (a_law : PySem.W.nsIn K mainGlobals "law" = some (some (.ref f_law)))
    (l_law : K.lookup f_law = some ⟨oc_law, od_law, .func (PySem.W.fnOf "law" "law" (defArgs s_law) (defBody s_law) (defScope s_law) .none kV_law dc_law pm_law an_law cd_law ct_law), sl_law⟩)
    (c_law : PySem.W.codeIn K cd_law "law" = true) (k_law : PySem.W.keepIn K (.ref f_law) = true)
    (a_NoBase : PySem.W.nsIn K mainGlobals "NoBase" = some (some (.ref c_NoBase)))
    (a_NoLevels : PySem.W.nsIn K mainGlobals "NoLevels" = some (some (.ref c_NoLevels)))
    (a_NoTick : PySem.W.nsIn K mainGlobals "NoTick" = some (some (.ref c_NoTick)))
    (a_TimerError : PySem.W.nsIn K mainGlobals "TimerError" = some (some (.ref c_TimerError)))
    (a_NoOrder : PySem.W.nsIn K mainGlobals "NoOrder" = some (some (.ref c_NoOrder)))
    (a_NoPeriod : PySem.W.nsIn K mainGlobals "NoPeriod" = some (some (.ref c_NoPeriod)))
    (a_NoSighting : PySem.W.nsIn K mainGlobals "NoSighting" = some (some (.ref c_NoSighting)))
    (a_NoTimer : PySem.W.nsIn K mainGlobals "NoTimer" = some (some (.ref c_NoTimer)))
    (a_TooMany : PySem.W.nsIn K mainGlobals "TooMany" = some (some (.ref c_TooMany)))
    (x_NoBase : PySem.W.excIn K c_NoBase [.type "ValueError", .type "Exception", .type "BaseException", .type "object"] "ValueError.__new__" = true)
    (kp_NoBase : PySem.W.keepIn K (.ref c_NoBase) = true)
    (bx_NoBase : PySem.W.subIn K (.ref c_NoBase) (.type "BaseException") = some true)
    (tx_NoBase : PySem.W.typeIn K (.ref c_NoBase) = some (.type "type"))
    (ga_NoBase : PySem.W.findIn K (.ref c_NoBase) "__getattribute__" = some (some (.builtin "BaseException.__getattribute__")))
    (gg_NoBase : PySem.W.findIn K (.ref c_NoBase) "__getattr__" = some none)
    (hx_NoBase : PySem.W.hasDictIn K c_NoBase = true)
    (cc_NoBase : PySem.W.findIn K (.ref c_NoBase) "__class__" = some (some (.builtin "object.__class__")))
    (mo_NoBase : PySem.W.mroIn K c_NoBase (.type "object") = some true)
    (ss_NoBase : PySem.W.subIn K (.ref c_NoBase) (.ref c_NoBase) = some true)
    (x_NoLevels : PySem.W.excIn K c_NoLevels [.type "ValueError", .type "Exception", .type "BaseException", .type "object"] "ValueError.__new__" = true)
    (kp_NoLevels : PySem.W.keepIn K (.ref c_NoLevels) = true)
    (bx_NoLevels : PySem.W.subIn K (.ref c_NoLevels) (.type "BaseException") = some true)
    (tx_NoLevels : PySem.W.typeIn K (.ref c_NoLevels) = some (.type "type"))
    (ga_NoLevels : PySem.W.findIn K (.ref c_NoLevels) "__getattribute__" = some (some (.builtin "BaseException.__getattribute__")))
    (gg_NoLevels : PySem.W.findIn K (.ref c_NoLevels) "__getattr__" = some none)
    (hx_NoLevels : PySem.W.hasDictIn K c_NoLevels = true)
    (cc_NoLevels : PySem.W.findIn K (.ref c_NoLevels) "__class__" = some (some (.builtin "object.__class__")))
    (mo_NoLevels : PySem.W.mroIn K c_NoLevels (.type "object") = some true)
    (ss_NoLevels : PySem.W.subIn K (.ref c_NoLevels) (.ref c_NoLevels) = some true)
    (x_NoTick : PySem.W.excIn K c_NoTick [.type "ValueError", .type "Exception", .type "BaseException", .type "object"] "ValueError.__new__" = true)
    (kp_NoTick : PySem.W.keepIn K (.ref c_NoTick) = true)
    (bx_NoTick : PySem.W.subIn K (.ref c_NoTick) (.type "BaseException") = some true)
    (tx_NoTick : PySem.W.typeIn K (.ref c_NoTick) = some (.type "type"))
    (ga_NoTick : PySem.W.findIn K (.ref c_NoTick) "__getattribute__" = some (some (.builtin "BaseException.__getattribute__")))
    (gg_NoTick : PySem.W.findIn K (.ref c_NoTick) "__getattr__" = some none)
    (hx_NoTick : PySem.W.hasDictIn K c_NoTick = true)
    (cc_NoTick : PySem.W.findIn K (.ref c_NoTick) "__class__" = some (some (.builtin "object.__class__")))
    (mo_NoTick : PySem.W.mroIn K c_NoTick (.type "object") = some true)
    (ss_NoTick : PySem.W.subIn K (.ref c_NoTick) (.ref c_NoTick) = some true)
    (sp_get : PySem.W.specialIn K (.builtin "object.__class__") "__get__" = some (some (.builtin "getset_descriptor.__get__")))
    (tk_cls : PySem.W.takesIn K (.builtin "object.__class__") = some true)
    (bx_TimerError : PySem.W.subIn K (.ref c_TimerError) (.type "BaseException") = some true)
    (ve_NoBase : PySem.W.subIn K (.ref c_NoBase) (.type "ValueError") = some true)
    (ss_NoBase_NoLevels : PySem.W.subIn K (.ref c_NoBase) (.ref c_NoLevels) = some false)
    (ss_NoBase_NoTick : PySem.W.subIn K (.ref c_NoBase) (.ref c_NoTick) = some false)
    (ve_NoLevels : PySem.W.subIn K (.ref c_NoLevels) (.type "ValueError") = some true)
    (ss_NoLevels_NoBase : PySem.W.subIn K (.ref c_NoLevels) (.ref c_NoBase) = some false)
    (ss_NoLevels_NoTick : PySem.W.subIn K (.ref c_NoLevels) (.ref c_NoTick) = some false)
    (ve_NoTick : PySem.W.subIn K (.ref c_NoTick) (.type "ValueError") = some true)
    (ss_NoTick_NoBase : PySem.W.subIn K (.ref c_NoTick) (.ref c_NoBase) = some false)
    (ss_NoTick_NoLevels : PySem.W.subIn K (.ref c_NoTick) (.ref c_NoLevels) = some false)
    (hx_TimerError : PySem.W.hasDictIn K c_TimerError = true)
    (tx_TimerError : PySem.W.typeIn K (.ref c_TimerError) = some (.type "type"))
    (ss_NoBase_TimerError : PySem.W.subIn K (.ref c_NoBase) (.ref c_TimerError) = some true)
    (ss_NoLevels_TimerError : PySem.W.subIn K (.ref c_NoLevels) (.ref c_TimerError) = some true)
    (ss_NoTick_TimerError : PySem.W.subIn K (.ref c_NoTick) (.ref c_TimerError) = some true)
    (hx_NoOrder : PySem.W.hasDictIn K c_NoOrder = true)
    (tx_NoOrder : PySem.W.typeIn K (.ref c_NoOrder) = some (.type "type"))
    (ss_NoBase_NoOrder : PySem.W.subIn K (.ref c_NoBase) (.ref c_NoOrder) = some false)
    (ss_NoLevels_NoOrder : PySem.W.subIn K (.ref c_NoLevels) (.ref c_NoOrder) = some false)
    (ss_NoTick_NoOrder : PySem.W.subIn K (.ref c_NoTick) (.ref c_NoOrder) = some false)
    (hx_NoPeriod : PySem.W.hasDictIn K c_NoPeriod = true)
    (tx_NoPeriod : PySem.W.typeIn K (.ref c_NoPeriod) = some (.type "type"))
    (ss_NoBase_NoPeriod : PySem.W.subIn K (.ref c_NoBase) (.ref c_NoPeriod) = some false)
    (ss_NoLevels_NoPeriod : PySem.W.subIn K (.ref c_NoLevels) (.ref c_NoPeriod) = some false)
    (ss_NoTick_NoPeriod : PySem.W.subIn K (.ref c_NoTick) (.ref c_NoPeriod) = some false)
    (hx_NoSighting : PySem.W.hasDictIn K c_NoSighting = true)
    (tx_NoSighting : PySem.W.typeIn K (.ref c_NoSighting) = some (.type "type"))
    (ss_NoBase_NoSighting : PySem.W.subIn K (.ref c_NoBase) (.ref c_NoSighting) = some false)
    (ss_NoLevels_NoSighting : PySem.W.subIn K (.ref c_NoLevels) (.ref c_NoSighting) = some false)
    (ss_NoTick_NoSighting : PySem.W.subIn K (.ref c_NoTick) (.ref c_NoSighting) = some false)
    (hx_NoTimer : PySem.W.hasDictIn K c_NoTimer = true)
    (tx_NoTimer : PySem.W.typeIn K (.ref c_NoTimer) = some (.type "type"))
    (ss_NoBase_NoTimer : PySem.W.subIn K (.ref c_NoBase) (.ref c_NoTimer) = some false)
    (ss_NoLevels_NoTimer : PySem.W.subIn K (.ref c_NoLevels) (.ref c_NoTimer) = some false)
    (ss_NoTick_NoTimer : PySem.W.subIn K (.ref c_NoTick) (.ref c_NoTimer) = some false)
    (hx_TooMany : PySem.W.hasDictIn K c_TooMany = true)
    (tx_TooMany : PySem.W.typeIn K (.ref c_TooMany) = some (.type "type"))
    (ss_NoBase_TooMany : PySem.W.subIn K (.ref c_NoBase) (.ref c_TooMany) = some false)
    (ss_NoLevels_TooMany : PySem.W.subIn K (.ref c_NoLevels) (.ref c_TooMany) = some false)
    (ss_NoTick_TooMany : PySem.W.subIn K (.ref c_NoTick) (.ref c_TooMany) = some false)
    (z_isinstance : PySem.W.nsIn K mainGlobals "isinstance" = some none)
    (z_int : PySem.W.nsIn K mainGlobals "int" = some none)
    (z_bool : PySem.W.nsIn K mainGlobals "bool" = some none)
    (z_str : PySem.W.nsIn K mainGlobals "str" = some none)
    (z_all : PySem.W.nsIn K mainGlobals "all" = some none)
    (z_list : PySem.W.nsIn K mainGlobals "list" = some none)
    (z_len : PySem.W.nsIn K mainGlobals "len" = some none)
    (z_min : PySem.W.nsIn K mainGlobals "min" = some none)
    (z_divmod : PySem.W.nsIn K mainGlobals "divmod" = some none)
    (z_max : PySem.W.nsIn K mainGlobals "max" = some none)
    (z_range : PySem.W.nsIn K mainGlobals "range" = some none)
    (z_ValueError : PySem.W.nsIn K mainGlobals "ValueError" = some none)
    (a_WORDS : PySem.W.nsIn K mainGlobals "WORDS" = some (some (.ref f_WORDS)))
    (l_WORDS : K.lookup f_WORDS = some ⟨.type "tuple", od_WORDS, .seq #[.str "stack" tk0_WORDS, .str "queue" tk1_WORDS] tn_WORDS, ts_WORDS⟩)
    (a_MOST_LEVELS : PySem.W.nsIn K mainGlobals "MOST_LEVELS" = some (some (.int 60 tk_MOST_LEVELS)))
    : ∃ fd : FuncData, (∀ (s : Shared) (v : Value), BindsTo s fd ⟨[v], []⟩ [("_law_script", v)]) ∧ ∀ base : Heap, K.In base → base.Ns mainGlobals mg → FnOk l.prog w K mg base CX0 7 fa fd ["_law_script"] (spLaw K) := by
  have e := hfa.symm.trans (PySem.W.mg_of X G a_law)
  cases e
  have T : Tx K mg := ⟨PySem.W.mg_none_of X G z_isinstance, PySem.W.mg_none_of X G z_int, PySem.W.mg_none_of X G z_bool, PySem.W.mg_none_of X G z_str, PySem.W.mg_none_of X G z_all, PySem.W.mg_none_of X G z_list, PySem.W.mg_none_of X G z_len, PySem.W.mg_none_of X G z_min, PySem.W.mg_none_of X G z_divmod, PySem.W.mg_none_of X G z_max, PySem.W.mg_none_of X G z_range, PySem.W.mg_none_of X G z_ValueError⟩
  have h_WORDS : ∃ a, mg "WORDS" = some (.ref a) ∧ ∀ H, SqT K H a [.str "stack", .str "queue"] := ⟨f_WORDS, PySem.W.mg_of X G a_WORDS, fun H => .inr ⟨_, _, _, l_WORDS, rfl, rfl, by simp [sizeLine_eq], .cons ⟨_, rfl⟩ (.cons ⟨_, rfl⟩ (.nil))⟩⟩
  have h_MOST_LEVELS : mg "MOST_LEVELS" = some (.int 60 tk_MOST_LEVELS) := PySem.W.mg_of X G a_MOST_LEVELS
  have D_is_integer : Df K mg "is_integer" s_is_integer ["given"] := by
    have F := fun_mk (st := s_is_integer) l_is_integer c_is_integer k_is_integer
    exact ⟨_, _, F, PySem.W.mg_of X G a_is_integer, F.binds (ps := ["given"]) fun _ _ _ _ _ _ us hl => match us, hl with | [_], _ => rfl⟩
  have D_is_word : Df K mg "is_word" s_is_word ["given"] := by
    have F := fun_mk (st := s_is_word) l_is_word c_is_word k_is_word
    exact ⟨_, _, F, PySem.W.mg_of X G a_is_word, F.binds (ps := ["given"]) fun _ _ _ _ _ _ us hl => match us, hl with | [_], _ => rfl⟩
  have D_is_base : Df K mg "is_base" s_is_base ["given"] := by
    have F := fun_mk (st := s_is_base) l_is_base c_is_base k_is_base
    exact ⟨_, _, F, PySem.W.mg_of X G a_is_base, F.binds (ps := ["given"]) fun _ _ _ _ _ _ us hl => match us, hl with | [_], _ => rfl⟩
  have D_is_length : Df K mg "is_length" s_is_length ["given"] := by
    have F := fun_mk (st := s_is_length) l_is_length c_is_length k_is_length
    exact ⟨_, _, F, PySem.W.mg_of X G a_is_length, F.binds (ps := ["given"]) fun _ _ _ _ _ _ us hl => match us, hl with | [_], _ => rfl⟩
  have D_are_levels : Df K mg "are_levels" s_are_levels ["given"] := by
    have F := fun_mk (st := s_are_levels) l_are_levels c_are_levels k_are_levels
    exact ⟨_, _, F, PySem.W.mg_of X G a_are_levels, F.binds (ps := ["given"]) fun _ _ _ _ _ _ us hl => match us, hl with | [_], _ => rfl⟩
  have D_is_tick : Dd K mg "is_tick" s_is_tick ["given", "least"] (.int 0) := by
    have F : FunD K "is_tick" "is_tick" (defArgs s_is_tick) (defBody s_is_tick) (defScope s_is_tick) [(.int 0)] [] _ _ := ⟨⟨_, _, _, _, _, _, _, _, _, _, rfl, l_is_tick, c_is_tick, .inr ⟨by simp, dT_is_tick, _, [_], _, rfl, t_is_tick, rfl, .cons ⟨_, rfl⟩ .nil⟩, .inl rfl⟩, k_is_tick⟩
    exact ⟨_, _, F, PySem.W.mg_of X G a_is_tick,
      FunD.binds1 (ps := ["given", "least"]) F 1 0 (by simp) rfl fun _ _ _ _ _ _ _ us its hu hi => match us, its, hu, hi with | [_], [_], _, _ => ⟨_, rfl, rfl⟩,
      by obtain ⟨ds, r, b⟩ := FunD.binds1 (ps := ["given", "least"]) F 2 1 (by simp) rfl fun _ _ _ _ _ _ _ us its hu hi => match us, its, hu, hi with | [_, _], [_], _, _ => ⟨_, rfl, rfl⟩
         cases r
         exact b⟩
  have D_check_base : Df K mg "check_base" s_check_base ["base"] := by
    have F := fun_mk (st := s_check_base) l_check_base c_check_base k_check_base
    exact ⟨_, _, F, PySem.W.mg_of X G a_check_base, F.binds (ps := ["base"]) fun _ _ _ _ _ _ us hl => match us, hl with | [_], _ => rfl⟩
  have D_check_levels : Df K mg "check_levels" s_check_levels ["levels"] := by
    have F := fun_mk (st := s_check_levels) l_check_levels c_check_levels k_check_levels
    exact ⟨_, _, F, PySem.W.mg_of X G a_check_levels, F.binds (ps := ["levels"]) fun _ _ _ _ _ _ us hl => match us, hl with | [_], _ => rfl⟩
  have D_check_tick : Dd K mg "check_tick" s_check_tick ["tick", "least"] (.int 0) := by
    have F : FunD K "check_tick" "check_tick" (defArgs s_check_tick) (defBody s_check_tick) (defScope s_check_tick) [(.int 0)] [] _ _ := ⟨⟨_, _, _, _, _, _, _, _, _, _, rfl, l_check_tick, c_check_tick, .inr ⟨by simp, dT_check_tick, _, [_], _, rfl, t_check_tick, rfl, .cons ⟨_, rfl⟩ .nil⟩, .inl rfl⟩, k_check_tick⟩
    exact ⟨_, _, F, PySem.W.mg_of X G a_check_tick,
      FunD.binds1 (ps := ["tick", "least"]) F 1 0 (by simp) rfl fun _ _ _ _ _ _ _ us its hu hi => match us, its, hu, hi with | [_], [_], _, _ => ⟨_, rfl, rfl⟩,
      by obtain ⟨ds, r, b⟩ := FunD.binds1 (ps := ["tick", "least"]) F 2 1 (by simp) rfl fun _ _ _ _ _ _ _ us its hu hi => match us, its, hu, hi with | [_, _], [_], _, _ => ⟨_, rfl, rfl⟩
         cases r
         exact b⟩
  have D_word_at : Df K mg "word_at" s_word_at ["levels", "level"] := by
    have F := fun_mk (st := s_word_at) l_word_at c_word_at k_word_at
    exact ⟨_, _, F, PySem.W.mg_of X G a_word_at, F.binds (ps := ["levels", "level"]) fun _ _ _ _ _ _ us hl => match us, hl with | [_, _], _ => rfl⟩
  have D_level_and_size : Df K mg "level_and_size" s_level_and_size ["base", "now", "due"] := by
    have F := fun_mk (st := s_level_and_size) l_level_and_size c_level_and_size k_level_and_size
    exact ⟨_, _, F, PySem.W.mg_of X G a_level_and_size, F.binds (ps := ["base", "now", "due"]) fun _ _ _ _ _ _ us hl => match us, hl with | [_, _, _], _ => rfl⟩
  have D_path : Df K mg "path" s_path ["base", "now", "due"] := by
    have F := fun_mk (st := s_path) l_path c_path k_path
    exact ⟨_, _, F, PySem.W.mg_of X G a_path, F.binds (ps := ["base", "now", "due"]) fun _ _ _ _ _ _ us hl => match us, hl with | [_, _, _], _ => rfl⟩
  have D_goes_in_front : Df K mg "goes_in_front" s_goes_in_front ["base", "levels", "now", "due", "lowest"] := by
    have F := fun_mk (st := s_goes_in_front) l_goes_in_front c_goes_in_front k_goes_in_front
    exact ⟨_, _, F, PySem.W.mg_of X G a_goes_in_front, F.binds (ps := ["base", "levels", "now", "due", "lowest"]) fun _ _ _ _ _ _ us hl => match us, hl with | [_, _, _, _, _], _ => rfl⟩
  have D_stations : Df K mg "stations" s_stations ["base", "now", "due"] := by
    have F := fun_mk (st := s_stations) l_stations c_stations k_stations
    exact ⟨_, _, F, PySem.W.mg_of X G a_stations, F.binds (ps := ["base", "now", "due"]) fun _ _ _ _ _ _ us hl => match us, hl with | [_, _, _], _ => rfl⟩
  have D_side : Df K mg "side" s_side ["base", "levels", "now", "due"] := by
    have F := fun_mk (st := s_side) l_side c_side k_side
    exact ⟨_, _, F, PySem.W.mg_of X G a_side, F.binds (ps := ["base", "levels", "now", "due"]) fun _ _ _ _ _ _ us hl => match us, hl with | [_, _, _, _], _ => rfl⟩
  have D_with_digit : Df K mg "with_digit" s_with_digit ["base", "size", "behind"] := by
    have F := fun_mk (st := s_with_digit) l_with_digit c_with_digit k_with_digit
    exact ⟨_, _, F, PySem.W.mg_of X G a_with_digit, F.binds (ps := ["base", "size", "behind"]) fun _ _ _ _ _ _ us hl => match us, hl with | [_, _, _], _ => rfl⟩
  have D_dues_to_try : Df K mg "dues_to_try" s_dues_to_try ["base", "first", "behind"] := by
    have F := fun_mk (st := s_dues_to_try) l_dues_to_try c_dues_to_try k_dues_to_try
    exact ⟨_, _, F, PySem.W.mg_of X G a_dues_to_try, F.binds (ps := ["base", "first", "behind"]) fun _ _ _ _ _ _ us hl => match us, hl with | [_, _, _], _ => rfl⟩
  have D_moves_in : Df K mg "moves_in" s_moves_in ["base", "now", "first", "behind"] := by
    have F := fun_mk (st := s_moves_in) l_moves_in c_moves_in k_moves_in
    exact ⟨_, _, F, PySem.W.mg_of X G a_moves_in, F.binds (ps := ["base", "now", "first", "behind"]) fun _ _ _ _ _ _ us hl => match us, hl with | [_, _, _, _], _ => rfl⟩
  have D_costliest : Df K mg "costliest" s_costliest ["base", "now", "first", "behind"] := by
    have F := fun_mk (st := s_costliest) l_costliest c_costliest k_costliest
    exact ⟨_, _, F, PySem.W.mg_of X G a_costliest, F.binds (ps := ["base", "now", "first", "behind"]) fun _ _ _ _ _ _ us hl => match us, hl with | [_, _, _, _], _ => rfl⟩
  have D_law_cell_at : Df K mg "_law_cell_at" s__law_cell_at ["_law_script", "_law_k"] := by
    have F := fun_mk (st := s__law_cell_at) l_law_cell_at c_law_cell_at k_law_cell_at
    exact ⟨_, _, F, PySem.W.mg_of X G a_law_cell_at, F.binds (ps := ["_law_script", "_law_k"]) fun _ _ _ _ _ _ us hl => match us, hl with | [_, _], _ => rfl⟩
  have D_law_mixed : Df K mg "_law_mixed" s__law_mixed ["_law_cell", "_law_k"] := by
    have F := fun_mk (st := s__law_mixed) l_law_mixed c_law_mixed k_law_mixed
    exact ⟨_, _, F, PySem.W.mg_of X G a_law_mixed, F.binds (ps := ["_law_cell", "_law_k"]) fun _ _ _ _ _ _ us hl => match us, hl with | [_, _], _ => rfl⟩
  have D_law_source : Df K mg "_law_source" s__law_source ["_law_script", "_law_k"] := by
    have F := fun_mk (st := s__law_source) l_law_source c_law_source k_law_source
    exact ⟨_, _, F, PySem.W.mg_of X G a_law_source, F.binds (ps := ["_law_script", "_law_k"]) fun _ _ _ _ _ _ us hl => match us, hl with | [_, _], _ => rfl⟩
  have D_law_next : Df K mg "_law_next" s__law_next ["_law_source_here", "_law_many"] := by
    have F := fun_mk (st := s__law_next) l_law_next c_law_next k_law_next
    exact ⟨_, _, F, PySem.W.mg_of X G a_law_next, F.binds (ps := ["_law_source_here", "_law_many"]) fun _ _ _ _ _ _ us hl => match us, hl with | [_, _], _ => rfl⟩
  have D_law_base : Df K mg "_law_base" s__law_base ["_law_source_here"] := by
    have F := fun_mk (st := s__law_base) l_law_base c_law_base k_law_base
    exact ⟨_, _, F, PySem.W.mg_of X G a_law_base, F.binds (ps := ["_law_source_here"]) fun _ _ _ _ _ _ us hl => match us, hl with | [_], _ => rfl⟩
  have D_law_levels : Df K mg "_law_levels" s__law_levels ["_law_source_here"] := by
    have F := fun_mk (st := s__law_levels) l_law_levels c_law_levels k_law_levels
    exact ⟨_, _, F, PySem.W.mg_of X G a_law_levels, F.binds (ps := ["_law_source_here"]) fun _ _ _ _ _ _ us hl => match us, hl with | [_], _ => rfl⟩
  have D_law_tick : Df K mg "_law_tick" s__law_tick ["_law_source_here", "_law_base_here"] := by
    have F := fun_mk (st := s__law_tick) l_law_tick c_law_tick k_law_tick
    exact ⟨_, _, F, PySem.W.mg_of X G a_law_tick, F.binds (ps := ["_law_source_here", "_law_base_here"]) fun _ _ _ _ _ _ us hl => match us, hl with | [_, _], _ => rfl⟩
  have D_law_pair : Df K mg "_law_pair" s__law_pair ["_law_source_here", "_law_base_here"] := by
    have F := fun_mk (st := s__law_pair) l_law_pair c_law_pair k_law_pair
    exact ⟨_, _, F, PySem.W.mg_of X G a_law_pair, F.binds (ps := ["_law_source_here", "_law_base_here"]) fun _ _ _ _ _ _ us hl => match us, hl with | [_, _], _ => rfl⟩
  have D_law_word : Df K mg "_law_word" s__law_word ["_law_way", "_law_some"] := by
    have F := fun_mk (st := s__law_word) l_law_word c_law_word k_law_word
    exact ⟨_, _, F, PySem.W.mg_of X G a_law_word, F.binds (ps := ["_law_way", "_law_some"]) fun _ _ _ _ _ _ us hl => match us, hl with | [_, _], _ => rfl⟩
  have D_law_bad : Df K mg "_law_bad" s__law_bad ["_law_source_here", "_law_at", "_law_now", "_law_first"] := by
    have F := fun_mk (st := s__law_bad) l_law_bad c_law_bad k_law_bad
    exact ⟨_, _, F, PySem.W.mg_of X G a_law_bad, F.binds (ps := ["_law_source_here", "_law_at", "_law_now", "_law_first"]) fun _ _ _ _ _ _ us hl => match us, hl with | [_, _, _, _], _ => rfl⟩
  have D_law : Df K mg "law" s_law ["_law_script"] := by
    have F := fun_mk (st := s_law) l_law c_law k_law
    exact ⟨_, _, F, PySem.W.mg_of X G a_law, F.binds (ps := ["_law_script"]) fun _ _ _ _ _ _ us hl => match us, hl with | [_], _ => rfl⟩
  have X_NoBase : EC K mg "NoBase" c_NoBase := ⟨PySem.W.mg_of X G a_NoBase, x_NoBase, kp_NoBase, bx_NoBase, tx_NoBase⟩
  have EX_NoBase : ExcC K c_NoBase := ⟨ga_NoBase, gg_NoBase, bx_NoBase, hx_NoBase, cc_NoBase, sp_get, tk_cls, mo_NoBase⟩
  have X_NoLevels : EC K mg "NoLevels" c_NoLevels := ⟨PySem.W.mg_of X G a_NoLevels, x_NoLevels, kp_NoLevels, bx_NoLevels, tx_NoLevels⟩
  have EX_NoLevels : ExcC K c_NoLevels := ⟨ga_NoLevels, gg_NoLevels, bx_NoLevels, hx_NoLevels, cc_NoLevels, sp_get, tk_cls, mo_NoLevels⟩
  have X_NoTick : EC K mg "NoTick" c_NoTick := ⟨PySem.W.mg_of X G a_NoTick, x_NoTick, kp_NoTick, bx_NoTick, tx_NoTick⟩
  have EX_NoTick : ExcC K c_NoTick := ⟨ga_NoTick, gg_NoTick, bx_NoTick, hx_NoTick, cc_NoTick, sp_get, tk_cls, mo_NoTick⟩
  have XG_TimerError : EG mg "TimerError" c_TimerError := ⟨PySem.W.mg_of X G a_TimerError⟩
  have XG_NoOrder : EG mg "NoOrder" c_NoOrder := ⟨PySem.W.mg_of X G a_NoOrder⟩
  have XG_NoPeriod : EG mg "NoPeriod" c_NoPeriod := ⟨PySem.W.mg_of X G a_NoPeriod⟩
  have XG_NoSighting : EG mg "NoSighting" c_NoSighting := ⟨PySem.W.mg_of X G a_NoSighting⟩
  have XG_NoTimer : EG mg "NoTimer" c_NoTimer := ⟨PySem.W.mg_of X G a_NoTimer⟩
  have XG_TooMany : EG mg "TooMany" c_TooMany := ⟨PySem.W.mg_of X G a_TooMany⟩
  refine ⟨PySem.W.fnOf "law" "law" (defArgs s_law) (defBody s_law) (defScope s_law) .none kV_law dc_law pm_law an_law cd_law ct_law, fun s v => .of_eq rfl, fun base _ _ => ?_⟩
  have h_is_integer : Has l.prog w K mg base 1 "is_integer" ["given"] [] spIsInt := D_is_integer.has fun _ _ F => ok_is_integer F T
  have h2_is_tick : Has l.prog w K mg base 2 "is_tick" ["given", "least"] [.int 0] spIsTick ∧ Has l.prog w K mg base 2 "is_tick" ["given", "least"] [] spIsTick := D_is_tick.has fun _ _ F => ok_is_tick F T h_is_integer
  have h_is_base : Has l.prog w K mg base 2 "is_base" ["given"] [] spIsBase := D_is_base.has fun _ _ F => ok_is_base F h_is_integer
  have h_check_base : Has l.prog w K mg base 3 "check_base" ["base"] [] spCheckBase := D_check_base.has fun _ _ F => ok_check_base F h_is_base
  have h2_check_tick : Has l.prog w K mg base 3 "check_tick" ["tick", "least"] [.int 0] spCheckTick ∧ Has l.prog w K mg base 3 "check_tick" ["tick", "least"] [] spCheckTick := D_check_tick.has fun _ _ F => ok_check_tick F h2_is_tick.2
  have h_level_and_size : Has l.prog w K mg base 1 "level_and_size" ["base", "now", "due"] [] spLevel := D_level_and_size.has fun _ _ F => ok_level_and_size F 
  have h_path : Has l.prog w K mg base 2 "path" ["base", "now", "due"] [] spPath := D_path.has fun _ _ F => ok_path F h_level_and_size
  have h_word_at : Has l.prog w K mg base 1 "word_at" ["levels", "level"] [] (spWordAt K) := D_word_at.has fun _ _ F => ok_word_at F T
  have h_goes_in_front : Has l.prog w K mg base 3 "goes_in_front" ["base", "levels", "now", "due", "lowest"] [] (spFront K) := D_goes_in_front.has fun _ _ F => ok_goes_in_front F h_path h_word_at
  have hA_is_integer := D_is_integer.has (P := l.prog) (w := w) (base := base) (k := 1) (sp := spIsIntX K) fun _ _ F => okA_is_integer F T
  have hA_is_tick := D_is_tick.has (P := l.prog) (w := w) (base := base) (k := 2) (sp := spIsTickX K) fun _ _ F => okA_is_tick F hA_is_integer
  have hX_check_tick := D_check_tick.hasX (P := l.prog) (w := w) (base := base) (k := 3) (sp := spCheckTickX K c_NoTick) fun _ _ F => okX_check_tick F T X_NoTick hA_is_tick.2
  have hA_is_base := D_is_base.has (P := l.prog) (w := w) (base := base) (k := 2) (sp := spIsBaseX K) fun _ _ F => okA_is_base F hA_is_integer
  have hX_check_base := D_check_base.hasX (P := l.prog) (w := w) (base := base) (k := 3) (sp := spCheckBaseX K c_NoBase) fun _ _ F => okX_check_base F T X_NoBase hA_is_base
  have hA_is_word := D_is_word.has (P := l.prog) (w := w) (base := base) (k := 1) (sp := spIsWordX K) fun _ _ F => okA_is_word F T h_WORDS
  have hA_is_length := D_is_length.has (P := l.prog) (w := w) (base := base) (k := 2) (sp := spIsLengthX K) fun _ _ F => okA_is_length F ⟨_, h_MOST_LEVELS⟩ hA_is_integer
  have hA_are_levels := D_are_levels.has (P := l.prog) (w := w) (base := base) (k := 3) (sp := spAreLevelsX K) fun _ _ F => okA_are_levels F T hA_is_length hA_is_word
  have hX_check_levels := D_check_levels.hasX (P := l.prog) (w := w) (base := base) (k := 4) (sp := spCheckLevelsX K c_NoLevels) fun _ _ F => okX_check_levels F T X_NoLevels hA_are_levels
  have hX_stations := D_stations.hasX (P := l.prog) (w := w) (base := base) (k := 4) (sp := spStationsX K c_NoBase c_NoTick) fun _ _ F => okX_stations F hX_check_base hX_check_tick.1 hX_check_tick.2 h_path
  have hX_side := D_side.hasX (P := l.prog) (w := w) (base := base) (k := 5) (sp := spSideX K c_NoBase c_NoLevels c_NoTick) fun _ _ F => okX_side F hX_check_base hX_check_tick.1 hX_check_tick.2 hX_check_levels h_goes_in_front
  have h_with_digit : Has l.prog w K mg base 1 "with_digit" ["base", "size", "behind"] [] spWd := D_with_digit.has fun _ _ F => ok_with_digit F T
  have hX_moves_in := D_moves_in.hasX (P := l.prog) (w := w) (base := base) (k := 4) (sp := spMovesInX K c_NoBase c_NoTick) fun _ _ F => okX_moves_in F T hX_check_base hX_check_tick.1 hX_check_tick.2 h_with_digit
  have h_dues_to_try : Has l.prog w K mg base 1 "dues_to_try" ["base", "first", "behind"] [] spDues := D_dues_to_try.has fun _ _ F => ok_dues_to_try F 
  have hX_costliest := D_costliest.hasX (P := l.prog) (w := w) (base := base) (k := 4) (sp := spCostliestX K c_NoBase c_NoTick) fun _ _ F => okX_costliest F T hX_check_base hX_check_tick.1 hX_check_tick.2 h_dues_to_try h_path
  have kd_NoBase : Kind8 K c_NoBase [c_NoBase, c_NoLevels, c_NoTick, c_NoOrder, c_NoPeriod, c_NoSighting, c_NoTimer, c_TooMany] 0 := kind8_of 0 EX_NoBase ve_NoBase (by decide) (eight_at ⟨fun _ => rfl, fun z => absurd rfl z⟩ ⟨fun z => absurd z (by decide), fun _ => kit_no ss_NoBase hx_NoLevels tx_NoLevels ss_NoBase_NoLevels⟩ ⟨fun z => absurd z (by decide), fun _ => kit_no ss_NoBase hx_NoTick tx_NoTick ss_NoBase_NoTick⟩ ⟨fun z => absurd z (by decide), fun _ => kit_no ss_NoBase hx_NoOrder tx_NoOrder ss_NoBase_NoOrder⟩ ⟨fun z => absurd z (by decide), fun _ => kit_no ss_NoBase hx_NoPeriod tx_NoPeriod ss_NoBase_NoPeriod⟩ ⟨fun z => absurd z (by decide), fun _ => kit_no ss_NoBase hx_NoSighting tx_NoSighting ss_NoBase_NoSighting⟩ ⟨fun z => absurd z (by decide), fun _ => kit_no ss_NoBase hx_NoTimer tx_NoTimer ss_NoBase_NoTimer⟩ ⟨fun z => absurd z (by decide), fun _ => kit_no ss_NoBase hx_TooMany tx_TooMany ss_NoBase_TooMany⟩)
  have te_NoBase := PySem.W.exm_ref bx_TimerError hx_TimerError tx_TimerError ss_NoBase_TimerError
  have kd_NoLevels : Kind8 K c_NoLevels [c_NoBase, c_NoLevels, c_NoTick, c_NoOrder, c_NoPeriod, c_NoSighting, c_NoTimer, c_TooMany] 1 := kind8_of 1 EX_NoLevels ve_NoLevels (by decide) (eight_at ⟨fun z => absurd z (by decide), fun _ => kit_no ss_NoLevels hx_NoBase tx_NoBase ss_NoLevels_NoBase⟩ ⟨fun _ => rfl, fun z => absurd rfl z⟩ ⟨fun z => absurd z (by decide), fun _ => kit_no ss_NoLevels hx_NoTick tx_NoTick ss_NoLevels_NoTick⟩ ⟨fun z => absurd z (by decide), fun _ => kit_no ss_NoLevels hx_NoOrder tx_NoOrder ss_NoLevels_NoOrder⟩ ⟨fun z => absurd z (by decide), fun _ => kit_no ss_NoLevels hx_NoPeriod tx_NoPeriod ss_NoLevels_NoPeriod⟩ ⟨fun z => absurd z (by decide), fun _ => kit_no ss_NoLevels hx_NoSighting tx_NoSighting ss_NoLevels_NoSighting⟩ ⟨fun z => absurd z (by decide), fun _ => kit_no ss_NoLevels hx_NoTimer tx_NoTimer ss_NoLevels_NoTimer⟩ ⟨fun z => absurd z (by decide), fun _ => kit_no ss_NoLevels hx_TooMany tx_TooMany ss_NoLevels_TooMany⟩)
  have te_NoLevels := PySem.W.exm_ref bx_TimerError hx_TimerError tx_TimerError ss_NoLevels_TimerError
  have kd_NoTick : Kind8 K c_NoTick [c_NoBase, c_NoLevels, c_NoTick, c_NoOrder, c_NoPeriod, c_NoSighting, c_NoTimer, c_TooMany] 2 := kind8_of 2 EX_NoTick ve_NoTick (by decide) (eight_at ⟨fun z => absurd z (by decide), fun _ => kit_no ss_NoTick hx_NoBase tx_NoBase ss_NoTick_NoBase⟩ ⟨fun z => absurd z (by decide), fun _ => kit_no ss_NoTick hx_NoLevels tx_NoLevels ss_NoTick_NoLevels⟩ ⟨fun _ => rfl, fun z => absurd rfl z⟩ ⟨fun z => absurd z (by decide), fun _ => kit_no ss_NoTick hx_NoOrder tx_NoOrder ss_NoTick_NoOrder⟩ ⟨fun z => absurd z (by decide), fun _ => kit_no ss_NoTick hx_NoPeriod tx_NoPeriod ss_NoTick_NoPeriod⟩ ⟨fun z => absurd z (by decide), fun _ => kit_no ss_NoTick hx_NoSighting tx_NoSighting ss_NoTick_NoSighting⟩ ⟨fun z => absurd z (by decide), fun _ => kit_no ss_NoTick hx_NoTimer tx_NoTimer ss_NoTick_NoTimer⟩ ⟨fun z => absurd z (by decide), fun _ => kit_no ss_NoTick hx_TooMany tx_TooMany ss_NoTick_TooMany⟩)
  have te_NoTick := PySem.W.exm_ref bx_TimerError hx_TimerError tx_TimerError ss_NoTick_TimerError
  have h_law_word : Has l.prog w K mg base 6 "_law_word" ["_law_way", "_law_some"] [] (spWord18 K) := D_law_word.has fun _ _ F => ok_word F T XG_TimerError ⟨X_NoBase.g⟩ ⟨X_NoLevels.g⟩ ⟨X_NoTick.g⟩ XG_NoOrder XG_NoPeriod XG_NoSighting XG_NoTimer XG_TooMany te_NoBase te_NoLevels te_NoTick kd_NoBase kd_NoLevels kd_NoTick hX_stations hX_side hX_moves_in hX_costliest
  have h_law_cell_at : Has l.prog w K mg base 1 "_law_cell_at" ["_law_script", "_law_k"] [] (spCellAt K) := D_law_cell_at.has fun _ _ F => ok_cell_at F T
  have h_law_mixed : Has l.prog w K mg base 1 "_law_mixed" ["_law_cell", "_law_k"] [] spMixed := D_law_mixed.has fun _ _ F => ok_mixed F 
  have h_law_source : Has l.prog w K mg base 2 "_law_source" ["_law_script", "_law_k"] [] (spSource K) := D_law_source.has fun _ _ F => ok_source F T h_law_cell_at h_law_mixed
  have h_law_next : Has l.prog w K mg base 2 "_law_next" ["_law_source_here", "_law_many"] [] spNext := D_law_next.has fun _ _ F => ok_next F h_law_mixed
  have h_law_base : Has l.prog w K mg base 3 "_law_base" ["_law_source_here"] [] spBase := D_law_base.has fun _ _ F => ok_base F h_law_next
  have h_law_tick : Has l.prog w K mg base 3 "_law_tick" ["_law_source_here", "_law_base_here"] [] spTick := D_law_tick.has fun _ _ F => ok_tick F T h_law_next
  have h_law_pair : Has l.prog w K mg base 4 "_law_pair" ["_law_source_here", "_law_base_here"] [] spPair := D_law_pair.has fun _ _ F => ok_pair F T h_law_next h_law_tick
  have h_law_levels : Has l.prog w K mg base 3 "_law_levels" ["_law_source_here"] [] spLevels := D_law_levels.has fun _ _ F => ok_levels F T h_law_next
  have h_law_bad : Has l.prog w K mg base 3 "_law_bad" ["_law_source_here", "_law_at", "_law_now", "_law_first"] [] (spBad18 K) := D_law_bad.has fun _ _ F => ok_bad F T h_law_next
  exact ok_law (fun_mk (st := s_law) l_law c_law k_law) T h_law_source h_law_base h_law_pair h_law_levels h_law_next h_law_word h_law_bad
end Td
open PySem PySem.W PyProof.Rows in
set_option maxRecDepth 100000 in
set_option maxHeartbeats 0 in
theorem PySem.Challenge.cw_timerdeque_k18_what_are_no_ticks_holds : PySem.Challenge.rw_timerdeque_k18_what_are_no_ticks.Holds := by
  w_on; o_law; k_head; (case hw => w_witness2)
  k_fill
  refine L2.walk_of (l := PySem.Challenge.rw_timerdeque_k18_what_are_no_ticks) (n := 63) (k := 7) (x := "_law_script") (CX := fun _ => L2.CX0) (sp := fun w => Td.spLaw _) rfl (by decide) rfl ⟨rfl, by decide, by decide⟩ (fun w h Y => PySem.W.kIn_of Y) ?F (fun _ _ a ns hl _ hS => ⟨a, ns, rfl, hS, hl, fun _ => rfl⟩) (fun _ _ _ _ _ h => h)
  case F =>
    intro w mg fa h KX G hmg
    refine' Td.all_mk KX G hmg ?a_is_integer ?l_is_integer ?c_is_integer ?k_is_integer ?a_is_word ?l_is_word ?c_is_word ?k_is_word ?a_is_base ?l_is_base ?c_is_base ?k_is_base ?a_is_length ?l_is_length ?c_is_length ?k_is_length ?a_are_levels ?l_are_levels ?c_are_levels ?k_are_levels ?a_is_tick ?l_is_tick ?t_is_tick ?c_is_tick ?k_is_tick ?a_check_base ?l_check_base ?c_check_base ?k_check_base ?a_check_levels ?l_check_levels ?c_check_levels ?k_check_levels ?a_check_tick ?l_check_tick ?t_check_tick ?c_check_tick ?k_check_tick ?a_word_at ?l_word_at ?c_word_at ?k_word_at ?a_level_and_size ?l_level_and_size ?c_level_and_size ?k_level_and_size ?a_path ?l_path ?c_path ?k_path ?a_goes_in_front ?l_goes_in_front ?c_goes_in_front ?k_goes_in_front ?a_stations ?l_stations ?c_stations ?k_stations ?a_side ?l_side ?c_side ?k_side ?a_with_digit ?l_with_digit ?c_with_digit ?k_with_digit ?a_dues_to_try ?l_dues_to_try ?c_dues_to_try ?k_dues_to_try ?a_moves_in ?l_moves_in ?c_moves_in ?k_moves_in ?a_costliest ?l_costliest ?c_costliest ?k_costliest ?a_law_cell_at ?l_law_cell_at ?c_law_cell_at ?k_law_cell_at ?a_law_mixed ?l_law_mixed ?c_law_mixed ?k_law_mixed ?a_law_source ?l_law_source ?c_law_source ?k_law_source ?a_law_next ?l_law_next ?c_law_next ?k_law_next ?a_law_base ?l_law_base ?c_law_base ?k_law_base ?a_law_levels ?l_law_levels ?c_law_levels ?k_law_levels ?a_law_tick ?l_law_tick ?c_law_tick ?k_law_tick ?a_law_pair ?l_law_pair ?c_law_pair ?k_law_pair ?a_law_word ?l_law_word ?c_law_word ?k_law_word ?a_law_bad ?l_law_bad ?c_law_bad ?k_law_bad ?a_law ?l_law ?c_law ?k_law ?a_NoBase ?a_NoLevels ?a_NoTick ?a_TimerError ?a_NoOrder ?a_NoPeriod ?a_NoSighting ?a_NoTimer ?a_TooMany ?x_NoBase ?kp_NoBase ?bx_NoBase ?tx_NoBase ?ga_NoBase ?gg_NoBase ?hx_NoBase ?cc_NoBase ?mo_NoBase ?ss_NoBase ?x_NoLevels ?kp_NoLevels ?bx_NoLevels ?tx_NoLevels ?ga_NoLevels ?gg_NoLevels ?hx_NoLevels ?cc_NoLevels ?mo_NoLevels ?ss_NoLevels ?x_NoTick ?kp_NoTick ?bx_NoTick ?tx_NoTick ?ga_NoTick ?gg_NoTick ?hx_NoTick ?cc_NoTick ?mo_NoTick ?ss_NoTick ?sp_get ?tk_cls ?bx_TimerError ?ve_NoBase ?ss_NoBase_NoLevels ?ss_NoBase_NoTick ?ve_NoLevels ?ss_NoLevels_NoBase ?ss_NoLevels_NoTick ?ve_NoTick ?ss_NoTick_NoBase ?ss_NoTick_NoLevels ?hx_TimerError ?tx_TimerError ?ss_NoBase_TimerError ?ss_NoLevels_TimerError ?ss_NoTick_TimerError ?hx_NoOrder ?tx_NoOrder ?ss_NoBase_NoOrder ?ss_NoLevels_NoOrder ?ss_NoTick_NoOrder ?hx_NoPeriod ?tx_NoPeriod ?ss_NoBase_NoPeriod ?ss_NoLevels_NoPeriod ?ss_NoTick_NoPeriod ?hx_NoSighting ?tx_NoSighting ?ss_NoBase_NoSighting ?ss_NoLevels_NoSighting ?ss_NoTick_NoSighting ?hx_NoTimer ?tx_NoTimer ?ss_NoBase_NoTimer ?ss_NoLevels_NoTimer ?ss_NoTick_NoTimer ?hx_TooMany ?tx_TooMany ?ss_NoBase_TooMany ?ss_NoLevels_TooMany ?ss_NoTick_TooMany ?z_isinstance ?z_int ?z_bool ?z_str ?z_all ?z_list ?z_len ?z_min ?z_divmod ?z_max ?z_range ?z_ValueError ?a_WORDS ?l_WORDS ?a_MOST_LEVELS
    (case a_is_integer => k_is)
    (case l_is_integer => k_is)
    (case c_is_integer => k_is)
    (case k_is_integer => k_is)
    (case a_is_word => k_is)
    (case l_is_word => k_is)
    (case c_is_word => k_is)
    (case k_is_word => k_is)
    (case a_is_base => k_is)
    (case l_is_base => k_is)
    (case c_is_base => k_is)
    (case k_is_base => k_is)
    (case a_is_length => k_is)
    (case l_is_length => k_is)
    (case c_is_length => k_is)
    (case k_is_length => k_is)
    (case a_are_levels => k_is)
    (case l_are_levels => k_is)
    (case c_are_levels => k_is)
    (case k_are_levels => k_is)
    (case a_is_tick => k_is)
    (case l_is_tick => k_is)
    (case t_is_tick => k_is)
    (case c_is_tick => k_is)
    (case k_is_tick => k_is)
    (case a_check_base => k_is)
    (case l_check_base => k_is)
    (case c_check_base => k_is)
    (case k_check_base => k_is)
    (case a_check_levels => k_is)
    (case l_check_levels => k_is)
    (case c_check_levels => k_is)
    (case k_check_levels => k_is)
    (case a_check_tick => k_is)
    (case l_check_tick => k_is)
    (case t_check_tick => k_is)
    (case c_check_tick => k_is)
    (case k_check_tick => k_is)
    (case a_word_at => k_is)
    (case l_word_at => k_is)
    (case c_word_at => k_is)
    (case k_word_at => k_is)
    (case a_level_and_size => k_is)
    (case l_level_and_size => k_is)
    (case c_level_and_size => k_is)
    (case k_level_and_size => k_is)
    (case a_path => k_is)
    (case l_path => k_is)
    (case c_path => k_is)
    (case k_path => k_is)
    (case a_goes_in_front => k_is)
    (case l_goes_in_front => k_is)
    (case c_goes_in_front => k_is)
    (case k_goes_in_front => k_is)
    (case a_stations => k_is)
    (case l_stations => k_is)
    (case c_stations => k_is)
    (case k_stations => k_is)
    (case a_side => k_is)
    (case l_side => k_is)
    (case c_side => k_is)
    (case k_side => k_is)
    (case a_with_digit => k_is)
    (case l_with_digit => k_is)
    (case c_with_digit => k_is)
    (case k_with_digit => k_is)
    (case a_dues_to_try => k_is)
    (case l_dues_to_try => k_is)
    (case c_dues_to_try => k_is)
    (case k_dues_to_try => k_is)
    (case a_moves_in => k_is)
    (case l_moves_in => k_is)
    (case c_moves_in => k_is)
    (case k_moves_in => k_is)
    (case a_costliest => k_is)
    (case l_costliest => k_is)
    (case c_costliest => k_is)
    (case k_costliest => k_is)
    (case a_law_cell_at => k_is)
    (case l_law_cell_at => k_is)
    (case c_law_cell_at => k_is)
    (case k_law_cell_at => k_is)
    (case a_law_mixed => k_is)
    (case l_law_mixed => k_is)
    (case c_law_mixed => k_is)
    (case k_law_mixed => k_is)
    (case a_law_source => k_is)
    (case l_law_source => k_is)
    (case c_law_source => k_is)
    (case k_law_source => k_is)
    (case a_law_next => k_is)
    (case l_law_next => k_is)
    (case c_law_next => k_is)
    (case k_law_next => k_is)
    (case a_law_base => k_is)
    (case l_law_base => k_is)
    (case c_law_base => k_is)
    (case k_law_base => k_is)
    (case a_law_levels => k_is)
    (case l_law_levels => k_is)
    (case c_law_levels => k_is)
    (case k_law_levels => k_is)
    (case a_law_tick => k_is)
    (case l_law_tick => k_is)
    (case c_law_tick => k_is)
    (case k_law_tick => k_is)
    (case a_law_pair => k_is)
    (case l_law_pair => k_is)
    (case c_law_pair => k_is)
    (case k_law_pair => k_is)
    (case a_law_word => k_is)
    (case l_law_word => k_is)
    (case c_law_word => k_is)
    (case k_law_word => k_is)
    (case a_law_bad => k_is)
    (case l_law_bad => k_is)
    (case c_law_bad => k_is)
    (case k_law_bad => k_is)
    (case a_law => k_is)
    (case l_law => k_is)
    (case c_law => k_is)
    (case k_law => k_is)
    (case a_NoBase => k_is)
    (case a_NoLevels => k_is)
    (case a_NoTick => k_is)
    (case a_TimerError => k_is)
    (case a_NoOrder => k_is)
    (case a_NoPeriod => k_is)
    (case a_NoSighting => k_is)
    (case a_NoTimer => k_is)
    (case a_TooMany => k_is)
    (case x_NoBase => k_exc)
    (case kp_NoBase => k_is)
    (case bx_NoBase => k_is)
    (case tx_NoBase => k_is)
    (case ga_NoBase => k_is)
    (case gg_NoBase => k_is)
    (case hx_NoBase => k_is)
    (case cc_NoBase => k_is)
    (case mo_NoBase => k_is)
    (case ss_NoBase => k_is)
    (case x_NoLevels => k_exc)
    (case kp_NoLevels => k_is)
    (case bx_NoLevels => k_is)
    (case tx_NoLevels => k_is)
    (case ga_NoLevels => k_is)
    (case gg_NoLevels => k_is)
    (case hx_NoLevels => k_is)
    (case cc_NoLevels => k_is)
    (case mo_NoLevels => k_is)
    (case ss_NoLevels => k_is)
    (case x_NoTick => k_exc)
    (case kp_NoTick => k_is)
    (case bx_NoTick => k_is)
    (case tx_NoTick => k_is)
    (case ga_NoTick => k_is)
    (case gg_NoTick => k_is)
    (case hx_NoTick => k_is)
    (case cc_NoTick => k_is)
    (case mo_NoTick => k_is)
    (case ss_NoTick => k_is)
    (case sp_get => k_is)
    (case tk_cls => k_is)
    (case bx_TimerError => k_is)
    (case ve_NoBase => k_is)
    (case ss_NoBase_NoLevels => k_is)
    (case ss_NoBase_NoTick => k_is)
    (case ve_NoLevels => k_is)
    (case ss_NoLevels_NoBase => k_is)
    (case ss_NoLevels_NoTick => k_is)
    (case ve_NoTick => k_is)
    (case ss_NoTick_NoBase => k_is)
    (case ss_NoTick_NoLevels => k_is)
    (case hx_TimerError => k_is)
    (case tx_TimerError => k_is)
    (case ss_NoBase_TimerError => k_is)
    (case ss_NoLevels_TimerError => k_is)
    (case ss_NoTick_TimerError => k_is)
    (case hx_NoOrder => k_is)
    (case tx_NoOrder => k_is)
    (case ss_NoBase_NoOrder => k_is)
    (case ss_NoLevels_NoOrder => k_is)
    (case ss_NoTick_NoOrder => k_is)
    (case hx_NoPeriod => k_is)
    (case tx_NoPeriod => k_is)
    (case ss_NoBase_NoPeriod => k_is)
    (case ss_NoLevels_NoPeriod => k_is)
    (case ss_NoTick_NoPeriod => k_is)
    (case hx_NoSighting => k_is)
    (case tx_NoSighting => k_is)
    (case ss_NoBase_NoSighting => k_is)
    (case ss_NoLevels_NoSighting => k_is)
    (case ss_NoTick_NoSighting => k_is)
    (case hx_NoTimer => k_is)
    (case tx_NoTimer => k_is)
    (case ss_NoBase_NoTimer => k_is)
    (case ss_NoLevels_NoTimer => k_is)
    (case ss_NoTick_NoTimer => k_is)
    (case hx_TooMany => k_is)
    (case tx_TooMany => k_is)
    (case ss_NoBase_TooMany => k_is)
    (case ss_NoLevels_TooMany => k_is)
    (case ss_NoTick_TooMany => k_is)
    (case z_isinstance => k_is)
    (case z_int => k_is)
    (case z_bool => k_is)
    (case z_str => k_is)
    (case z_all => k_is)
    (case z_list => k_is)
    (case z_len => k_is)
    (case z_min => k_is)
    (case z_divmod => k_is)
    (case z_max => k_is)
    (case z_range => k_is)
    (case z_ValueError => k_is)
    (case a_WORDS => k_is)
    (case l_WORDS => k_is)
    (case a_MOST_LEVELS => k_is)
