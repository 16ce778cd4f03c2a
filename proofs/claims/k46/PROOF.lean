import PyProof.Rows.All
import Wide.All
import OpenK.AllK
import Wide.FinOn
import HandS.ForMost
import HandS.IsInst
import HandS.Wide
import HandS.WideBits
import HandS.Defaults
import HandS.Zip
import HandS.Flow
import HandS.SortKw
import HandS.SortOrd
import HandS.MakeKwOnly
import HandS.Conv
import HandS.More
import HandS.Small
import KE.DatumOrd
import HandS.Exc
import HandS.ExcOwn
import HandS.ExcIs
import HandS.TryOnly
import HandS.WordsExc
import PySem.Challenge.RW_timerdeque_k46_what_moves_until_refuses
set_option Elab.async false
set_option linter.all false
set_option maxRecDepth 100000
set_option maxHeartbeats 4000000
set_option exponentiation.threshold 10000
namespace Td
open PySem PySem.Spec PyProof.Rows L2
/-! ### small things: promises by name, heaps, numbers -/
section
variable {P : Program} {w : World} {K : PySem.W.Frag} {mg : Str → Option Value} {base : Heap}
/-- the module's name x holds a def that keeps the promise sp, its last parameters filled up by dvs -/
def Has (P : Program) (w : World) (K : PySem.W.Frag) (mg : Str → Option Value) (base : Heap) (k : Nat) (x : Str) (ps : List Str) (dvs : List V) (sp : Sp) : Prop :=
  ∃ (f : Addr) (fd : FuncData) (ds : List Value), FnOk P w K mg base CX0 k f fd ps sp ∧ mg x = some (.ref f) ∧ PySem.W.keepIn K (.ref f) = true ∧ Binds K fd ps ds ∧ Vals dvs ds
/-- what the top says of a def without defaults -/
def Df (K : PySem.W.Frag) (mg : Str → Option Value) (x : Str) (st : Stmt) (ps : List Str) : Prop :=
  ∃ (f : Addr) (fd : FuncData), Fun K x x st f fd ∧ mg x = some (.ref f) ∧ Binds K fd ps []
theorem Df.has {k : Nat} {x : Str} {st : Stmt} {ps : List Str} {sp : Sp} (D : Df K mg x st ps) (ok : ∀ f fd, Fun K x x st f fd → FnOk P w K mg base CX0 k f fd ps sp) : Has P w K mg base k x ps [] sp := by
  obtain ⟨f, fd, F, m, b⟩ := D
  exact ⟨f, fd, [], ok f fd F, m, F.kp, b, .nil⟩
/-- a def with one default, the last parameter's -/
def Dd (K : PySem.W.Frag) (mg : Str → Option Value) (x : Str) (st : Stmt) (ps : List Str) (d : V) : Prop :=
  ∃ (f : Addr) (fd : FuncData), FunD K x x (defArgs st) (defBody st) (defScope st) [d] [] f fd ∧ mg x = some (.ref f) ∧ (∃ ds, Vals [d] ds ∧ Binds K fd ps ds) ∧ Binds K fd ps []
theorem Dd.has {k : Nat} {x : Str} {st : Stmt} {ps : List Str} {d : V} {sp : Sp} (D : Dd K mg x st ps d) (ok : ∀ f fd, FunD K x x (defArgs st) (defBody st) (defScope st) [d] [] f fd → FnOk P w K mg base CX0 k f fd ps sp) :
    Has P w K mg base k x ps [d] sp ∧ Has P w K mg base k x ps [] sp := by
  obtain ⟨f, fd, F, m, ⟨ds, r, b⟩, b0⟩ := D
  exact ⟨⟨f, fd, ds, ok f fd F, m, F.kp, b, r⟩, ⟨f, fd, [], ok f fd F, m, F.kp, b0, .nil⟩⟩
end
section
variable {X : Cx}
/-- a product of which one side is small, or both are not too great -/
def CMulA (i j : Int) : Prop := IntMulOk i j
theorem op_mulA : OpR X (binaryOp .Mult) (rI CMulA fun i j => .int (i * j)) := opI fun _ _ _ _ _ _ _ hc q => mul_int q hc
end
/-! x *= e, ints -/
section
variable {X : Cx}
def ipC (C : Int → Int → Prop) (f : Int → Int → Int) : TIp := fun x y H Q => ∃ i j, x = .int i ∧ y = .int j ∧ C i j ∧ Q (.int (f i j)) H
theorem ip_mulA : PIp X .Mult (ipC CMulA fun i j => i * j) := by
  intro pins s σ H x y v u Q I r1 r2 h
  obtain ⟨i, j, rfl, rfl, hm, q⟩ := h
  obtain ⟨t, rfl⟩ := r1
  obtain ⟨t', rfl⟩ := r2
  exact imul_int ⟨.int _, H, I.tok _, ⟨_, rfl⟩, q⟩ hm
end
theorem mul_l {i j : Int} (h1 : -(2 ^ 64) < i) (h2 : i < 2 ^ 64) : CMulA i j := CMul.ok (.inl ⟨h1, h2⟩)
theorem mul_r {i j : Int} (h1 : -(2 ^ 64) < j) (h2 : j < 2 ^ 64) : CMulA i j := CMul.ok (.inr ⟨h1, h2⟩)
theorem mul_w {i j : Int} (a b : Nat) (ha : i.natAbs < 2 ^ a) (hb : j.natAbs < 2 ^ b) (h0 : 0 < a := by decide) (h1 : 0 < b := by decide) (h : a + b ≤ 1000000 := by decide) : CMulA i j := (wide_mul ha hb h0 h1 h).ok
theorem div_s {i j : Int} (h : 0 < j) (h2 : j < 2 ^ 300) : CDivW i j := wide_div (b := 300) h (by omega) (by decide) (by decide)
theorem div_b {i j : Int} (b : Nat) (h : 0 < j) (h2 : j < 2 ^ b) (h0 : 0 < b := by decide) (h9 : b ≤ 9000 := by decide) : CDivW i j := by
  refine wide_div (b := b) h ?_ h0 h9
  have e : ((2 ^ b : Nat) : Int) = (2 : Int) ^ b := by
    rw [Int.natCast_pow]
    rfl
  omega
theorem same_upd {H : Hp} {p : Addr} {o : HO} (h : H p = none) : Same H (upd H p o) := fun b x e => by
  rw [upd_ne (ne_of_none e h)]
  exact e
theorem sizeLine_ge {n : Nat} (h : n ≤ 1000000) : n < sizeLine := by
  rw [sizeLine_eq]
  omega
theorem sizeLine_le {n : Nat} (h : n ≤ 1000000) : n ≤ sizeLine := Nat.le_of_lt (sizeLine_ge h)
theorem pos_of {a c : Nat} (h : a ≤ c) (n : ¬ a = c) : 0 < c := by omega
/-! ### operators on numbers that are not negative -/
def rN (C : Nat → Nat → Prop) (g : Nat → Nat → Nat) : R2 := fun x y H Q => ∃ a b : Nat, x = .int (a : Nat) ∧ y = .int (b : Nat) ∧ C a b ∧ Q (.int ((g a b : Nat) : Int)) H
section
variable {X : Cx}
theorem opN {f : Value → Value → Sem Value} {C : Nat → Nat → Prop} {g : Nat → Nat → Nat} {CI : Int → Int → Prop} {gI : Int → Int → V} (h : OpR X f (rI CI gI)) (e : ∀ a b : Nat, C a b → CI (a : Nat) (b : Nat) ∧ gI (a : Nat) (b : Nat) = .int ((g a b : Nat) : Int)) : OpR X f (rN C g) := by
  intro pins s σ H x y v u Q I rx ry hq
  obtain ⟨a, b, ex, ey, hc, q⟩ := hq
  obtain ⟨h1, h2⟩ := e a b hc
  exact h pins s σ H x y v u Q I rx ry ⟨_, _, ex, ey, h1, by rw [h2]; exact q⟩
theorem opN0 {f : Value → Value → Sem Value} {C : Nat → Nat → Prop} {g : Nat → Nat → Nat} {gI : Int → Int → V} (h : OpR X f (rI0 gI)) (e : ∀ a b : Nat, C a b → gI (a : Nat) (b : Nat) = .int ((g a b : Nat) : Int)) : OpR X f (rN C g) := by
  intro pins s σ H x y v u Q I rx ry hq
  obtain ⟨a, b, ex, ey, hc, q⟩ := hq
  exact h pins s σ H x y v u Q I rx ry ⟨_, _, ex, ey, by rw [e a b hc]; exact q⟩
def NDiv (_ b : Nat) : Prop := 0 < b ∧ b < 2 ^ 9000
def NMod (_ b : Nat) : Prop := 0 < b
def NSub (a b : Nat) : Prop := b ≤ a
def NMul (a b : Nat) : Prop := IntMulOk (a : Int) (b : Int)
def NAny (_ _ : Nat) : Prop := True
theorem op_divN : OpR X (binaryOp .FloorDiv) (rN NDiv fun a b => a / b) := opN op_fdivW fun a b h => ⟨wide_div (b := 9000) (Int.natCast_pos.mpr h.1) h.2 (by decide) (Nat.le_refl _), rfl⟩
theorem op_remN : OpR X (binaryOp .Mod) (rN NMod fun a b => a % b) := opN op_mod fun a b h => ⟨Int.natCast_pos.mpr h, rfl⟩
theorem op_mulN : OpR X (binaryOp .Mult) (rN NMul fun a b => a * b) := opN op_mulA fun a b h => ⟨h, congrArg V.int (Int.natCast_mul a b).symm⟩
theorem op_addN : OpR X (binaryOp .Add) (rN NAny fun a b => a + b) := opN0 op_add fun _ _ _ => rfl
theorem op_subN : OpR X (binaryOp .Sub) (rN NSub fun a b => a - b) := opN0 op_sub fun a b h => congrArg V.int (Int.natCast_sub h).symm
end
theorem ndiv {a b : Nat} (t : Nat) (h : 0 < b) (h2 : b < 2 ^ t) (ht : t ≤ 9000 := by decide) : NDiv a b := ⟨h, Nat.lt_of_lt_of_le h2 (Nat.pow_le_pow_right (by decide) ht)⟩
theorem nmul_l {a b : Nat} (h : a < 2 ^ 64) : NMul a b := mul_l (by omega) (by omega)
theorem nmul_r {a b : Nat} (h : b < 2 ^ 64) : NMul a b := mul_r (by omega) (by omega)
theorem nmul_w {a b : Nat} (i j : Nat) (ha : a < 2 ^ i) (hb : b < 2 ^ j) (h0 : 0 < i := by decide) (h1 : 0 < j := by decide) (h : i + j ≤ 1000000 := by decide) : NMul a b := mul_w i j ha hb h0 h1 h
theorem int_ne {a b : Nat} (h : a ≠ b) : decide (V.int (a : Nat) = V.int (b : Nat)) = false := decide_eq_false fun e => h (Int.ofNat.inj (V.int.inj e))
theorem dT {p : Prop} [Decidable p] (h : p) : V.bl (decide p) = V.bl true := congrArg V.bl (decide_eq_true h)
theorem dF {p : Prop} [Decidable p] (h : ¬ p) : V.bl (decide p) = V.bl false := congrArg V.bl (decide_eq_false h)
theorem nT {p : Prop} [Decidable p] (h : ¬ p) : V.bl (!decide p) = V.bl true := congrArg V.bl (congrArg (!·) (decide_eq_false h))
theorem nF {p : Prop} [Decidable p] (h : p) : V.bl (!decide p) = V.bl false := congrArg V.bl (congrArg (!·) (decide_eq_true h))
theorem vN {a b : Nat} (h : a ≠ b) : ¬ V.int (a : Nat) = V.int (b : Nat) := fun e => h (Int.ofNat.inj (V.int.inj e))
theorem vE {a b : Nat} (h : a = b) : V.int (a : Nat) = V.int (b : Nat) := congrArg (fun c : Nat => V.int (c : Nat)) h
theorem vI {a b : Int} (h : a ≠ b) : ¬ V.int a = V.int b := fun e => h (V.int.inj e)
/-! ### rules with the written part named (within a comprehension's block) -/
section
variable {X : Cx} {K : PySem.W.Frag}
theorem ix_tupK (e : X.K = K) : IxR X (rIxT K) := by subst e; exact ix_tup
theorem ix_listK (e : X.K = K) : IxR X (rIxL K) := by subst e; exact ix_list
theorem sl_tupK (e : X.K = K) : SlR X (rSlT K) := by subst e; exact sl_tup
theorem sl_listK (e : X.K = K) : SlR X (rSlL K) := by subst e; exact sl_list
theorem op_eqK (e : X.K = K) (hu : X.A.units + 64 < cLine) : OpR X (compareOp .Eq) (rEqD K) := by subst e; exact op_eqD hu
theorem op_neK (e : X.K = K) (hu : X.A.units + 64 < cLine) : OpR X (compareOp .NotEq) (rNeD K) := by subst e; exact op_neD hu
theorem isiK (e : X.K = K) : CallR X (.builtin "isinstance") (rIsi K) := by subst e; exact call_isi
def rLenK (K : PySem.W.Frag) : List V → Hp → VK → Prop := fun xs H Q => ∃ p ys, xs = [.ref p] ∧ (SqL K H p ys ∨ SqT K H p ys) ∧ Q (.int ys.length) H
theorem lenK (e : X.K = K) : CallR X (.builtin "len") (rLenK K) := by subst e; exact call_len_seq
theorem allK (e : X.K = K) (hc : X.calm = true) : CallR X (.builtin "all") (rAll K) := by subst e; exact cr_all hc
theorem sumK (e : X.K = K) (hc : X.calm = true) : CallR X (.builtin "sum") (rSum K) := by subst e; exact cr_sum hc
theorem maxK (e : X.K = K) (hc : X.calm = true) : CallR X (.builtin "max") (rMax K) := by subst e; exact cr_max hc
theorem minK (e : X.K = K) (hc : X.calm = true) : CallR X (.builtin "min") (rMin K) := by subst e; exact cr_min hc
theorem anyK (e : X.K = K) (hc : X.calm = true) : CallR X (.builtin "any") (rAny K) := by subst e; exact cr_any hc
end
section
variable {X : Cx} {K : PySem.W.Frag}
theorem ix_ltK (e : X.K = K) : IxR X (fun x y H Q => rIxL K x y H Q ∨ rIxT K x y H Q) := by subst e; exact ix_list.or ix_tup
theorem pe_orTK {a b : Expr} {ta tb : TE} {rest : List Expr} {pos : Pos} (e : X.K = K) (ha : PE X a ta) (hb : PE X (.BoolOp .Or (b :: rest) pos) tb) : PE X (.BoolOp .Or (a :: b :: rest) pos) (tOrT K ta tb) := by subst e; exact pe_orT ha hb
end
theorem yesT {σ : L2.St} {H : Hp} {Q : Bool → Hp → Prop} (h : Q true H) : tYes σ H Q := h
section
variable {X : Cx} {K : PySem.W.Frag}
theorem pg_tupK {es : List Expr} {k : Nat} {t : TGs} {n : Nat} {pos : Pos} (e : X.K = K) (hc : X.calm = true) (h : PGs X es t)
    (hn : (assignEach es X.env).length = n := by rfl) (hst : (assignEach es X.env).findIdx? (·.1) = none := by rfl) : PG X (.Tuple es k pos) (gTup K n t) := by
  subst e
  exact pg_tup hc h hn hst
end
theorem tyx_list {K : PySem.W.Frag} {H : Hp} {a : Addr} {xs : List V} (h : SqL K H a xs) : TyX K H (.ref a) (.type "list") := by
  rcases h with (h | ⟨o, h⟩) | ⟨o, its, n, h, hc, _⟩
  · exact .base (.lst h)
  · exact .base (.frz h)
  · exact .kList h hc
/-- max and min of two numbers that are not negative -/
def rNN (g : Nat → Nat → Nat) : List V → Hp → VK → Prop := fun xs H Q => ∃ a b : Nat, xs = [.int (a : Nat), .int (b : Nat)] ∧ Q (.int ((g a b : Nat) : Int)) H
section
variable {X : Cx}
theorem max2N (hc : X.calm = true) : CallR X (.builtin "max") (rNN max) := by
  intro pins s σ H xs us Q I r h
  obtain ⟨a, b, rfl, q⟩ := h
  refine call_max2 hc pins s σ H _ us Q I r ⟨_, _, rfl, ?_⟩
  have e : (if (b : Int) > (a : Int) then (b : Int) else (a : Int)) = ((max a b : Nat) : Int) := by split <;> omega
  rw [e]
  exact q
theorem max0N (hc : X.calm = true) : CallR X (.builtin "max") (fun xs H Q => ∃ (z : Int) (n : Nat), xs = [.int 0, .int z] ∧ (if z > 0 then z else 0) = (n : Int) ∧ Q (.int (n : Nat)) H) := by
  intro pins s σ H xs us Q I r h
  obtain ⟨z, n, rfl, e, q⟩ := h
  refine call_max2 hc pins s σ H _ us Q I r ⟨0, z, rfl, ?_⟩
  rw [e]
  exact q
theorem min2N (hc : X.calm = true) : CallR X (.builtin "min") (rNN min) := by
  intro pins s σ H xs us Q I r h
  obtain ⟨a, b, rfl, q⟩ := h
  refine call_min2 hc pins s σ H _ us Q I r ⟨_, _, rfl, ?_⟩
  have e : (if (b : Int) < (a : Int) then (b : Int) else (a : Int)) = ((min a b : Nat) : Int) := by split <;> omega
  rw [e]
  exact q
end
/-- one rest behind several ways -/
theorem cut_at {α : Type} {I : α → Hp → Prop} {G : Prop} (R : α → Hp → Prop) (h1 : (∀ a H, I a H → R a H) → G) (h2 : ∀ a H, I a H → R a H) : G := h1 h2
theorem cut_rest {I : Hp → Prop} {G : Prop} (R : Hp → Prop) (h1 : (∀ H, I H → R H) → G) (h2 : ∀ H, I H → R H) : G := h1 h2
/-! ### digits: the mathematics -/
/-- k is the level of d at n -/
def IsLev (b n d k : Nat) : Prop := n / b ^ (k + 1) = d / b ^ (k + 1) ∧ ∀ j, j < k → n / b ^ (j + 1) ≠ d / b ^ (j + 1)
abbrev Row3 := Nat × Nat × Nat
/-- the stations below level k -/
def tailOf (b d : Nat) : Nat → List Row3
  | 0 => []
  | k + 1 => if d / b ^ k % b ≠ 0 then (k, d / b ^ k % b, d / b ^ (k + 1) * b ^ (k + 1)) :: tailOf b d k else tailOf b d k
/-- the stations of a timer set at n, k its level -/
def rowsOf (b n d k : Nat) : List Row3 := (k, d / b ^ k % b, n) :: tailOf b d k
theorem div_succ (n b k : Nat) : n / b ^ (k + 1) = n / b ^ k / b := by
  rw [Nat.pow_succ, Nat.div_div_eq_div_mul]
theorem pow_pos' {b : Nat} (h : 2 ≤ b) (k : Nat) : 0 < b ^ k := Nat.pow_pos (by omega)
theorem IsLev.uniq {b n d k k' : Nat} (h : IsLev b n d k) (h' : IsLev b n d k') : k = k' := by
  rcases Nat.lt_trichotomy k k' with l | l | l
  · exact absurd h.1 (h'.2 k l)
  · exact l
  · exact absurd h'.1 (h.2 k' l)
theorem IsLev.ne {b n d k : Nat} (h : IsLev b n d k) (hnd : n < d) : n / b ^ k < d / b ^ k := by
  cases k with
  | zero =>
    rw [Nat.pow_zero, Nat.div_one, Nat.div_one]
    exact hnd
  | succ j =>
    have h1 := h.2 j (Nat.lt_succ_self j)
    have h2 : n / b ^ (j + 1) ≤ d / b ^ (j + 1) := Nat.div_le_div_right (Nat.le_of_lt hnd)
    omega
theorem IsLev.size {b n d k : Nat} (h : IsLev b n d k) (hb : 2 ≤ b) (hnd : n < d) : b ^ k ≤ d := by
  have h1 := h.ne hnd
  have h2 : 0 < d / b ^ k := Nat.lt_of_le_of_lt (Nat.zero_le _) h1
  exact (Nat.div_pos_iff.mp h2).2
theorem IsLev.digit {b n d k : Nat} (h : IsLev b n d k) (hnd : n < d) : n / b ^ k % b < d / b ^ k % b := by
  have h1 := h.ne hnd
  have h2 := h.1
  rw [div_succ, div_succ] at h2
  have e1 := Nat.div_add_mod (n / b ^ k) b
  have e2 := Nat.div_add_mod (d / b ^ k) b
  rw [h2] at e1
  omega
theorem pow_two_le {b : Nat} (hb : 2 ≤ b) (k : Nat) : 2 ^ k ≤ b ^ k := Nat.pow_le_pow_left hb k
theorem lev_small {b n d k t : Nat} (h : IsLev b n d k) (hb : 2 ≤ b) (hnd : n < d) (hd : d < 2 ^ t) : k < t := by
  have h1 := h.size hb hnd
  have h2 := pow_two_le hb k
  exact (Nat.pow_lt_pow_iff_right (by decide : 1 < 2)).mp (Nat.lt_of_le_of_lt (Nat.le_trans h2 h1) hd)
/-- cutting below: what two cuts beside one another differ by -/
theorem cut_step (b d k : Nat) : d / b ^ k * b ^ k = d / b ^ (k + 1) * b ^ (k + 1) + d / b ^ k % b * b ^ k := by
  rw [div_succ]
  have e := Nat.div_add_mod (d / b ^ k) b
  have e2 : b ^ (k + 1) = b * b ^ k := by rw [Nat.pow_succ, Nat.mul_comm]
  rw [e2, ← Nat.mul_assoc, ← Nat.add_mul, Nat.mul_comm (d / b ^ k / b) b, e]
theorem cut_le (b d k : Nat) : d / b ^ k * b ^ k ≤ d := Nat.div_mul_le_self d (b ^ k)
theorem cut_mono (b d : Nat) {j k : Nat} (h : j ≤ k) : d / b ^ k * b ^ k ≤ d / b ^ j * b ^ j := by
  induction k with
  | zero =>
    have e : j = 0 := by omega
    rw [e]
    exact Nat.le_refl _
  | succ k ih =>
    by_cases e : j = k + 1
    · rw [e]
      exact Nat.le_refl _
    · have h1 := ih (by omega)
      have h2 := cut_step b d k
      omega
theorem lt_cut {b n d k : Nat} (hb : 2 ≤ b) (h : n / b ^ k < d / b ^ k) : n < d / b ^ k * b ^ k := by
  have hp := pow_pos' hb k
  exact (Nat.div_lt_iff_lt_mul hp).mp h
theorem tail_len (b d : Nat) : ∀ k, (tailOf b d k).length ≤ k
  | 0 => Nat.le_refl _
  | k + 1 => by
    have ih := tail_len b d k
    unfold tailOf
    split
    · rw [List.length_cons]
      omega
    · omega
/-- a later tick that lies ahead of the next cut has the same level -/
theorem IsLev.later {b n d k t : Nat} (hb : 2 ≤ b) (h : IsLev b n d k) (hnd : n < d) (h1 : n ≤ t) (h2 : t < d / b ^ k * b ^ k) : IsLev b t d k := by
  have hp := pow_pos' hb k
  have hp1 := pow_pos' hb (k + 1)
  have htd : t < d := Nat.lt_of_lt_of_le h2 (cut_le b d k)
  refine ⟨?_, fun j hj => ?_⟩
  · have a1 : n / b ^ (k + 1) ≤ t / b ^ (k + 1) := Nat.div_le_div_right h1
    have a2 : t / b ^ (k + 1) ≤ d / b ^ (k + 1) := Nat.div_le_div_right (Nat.le_of_lt htd)
    have a3 := h.1
    omega
  · have a1 : t / b ^ k < d / b ^ k := (Nat.div_lt_iff_lt_mul hp).mpr h2
    intro e
    have e2 : k = (j + 1) + (k - (j + 1)) := by omega
    rw [e2, Nat.pow_add, ← Nat.div_div_eq_div_mul, ← Nat.div_div_eq_div_mul, e] at a1
    omega
/-! ### rules that the layer lacks: min(.., default=None), sorted of a dict with pairs of ints as its keys -/
theorem minOf_spec : ∀ (x : Int) (xs : List Int), PySem.W.minOf x xs ∈ x :: xs ∧ ∀ y ∈ x :: xs, PySem.W.minOf x xs ≤ y := by
  intro x xs
  unfold PySem.W.minOf
  induction xs generalizing x with
  | nil =>
    refine ⟨List.mem_cons_self .., fun y hy => ?_⟩
    rcases List.mem_cons.mp hy with e | hy
    · rw [e]
      exact Int.le_refl _
    · cases hy
  | cons z zs ih =>
    have e : (PySem.W.DatumOrd.lt z x = true) ↔ z < x := by
      show decide (z < x) = true ↔ z < x
      exact decide_eq_true_iff
    rw [List.foldl_cons]
    obtain ⟨h1, h2⟩ := ih (if PySem.W.DatumOrd.lt z x = true then z else x)
    refine ⟨?_, fun y hy => ?_⟩
    · rcases List.mem_cons.mp h1 with e1 | h1
      · rw [e1]
        split
        · exact List.mem_cons_of_mem _ (List.mem_cons_self ..)
        · exact List.mem_cons_self ..
      · exact List.mem_cons_of_mem _ (List.mem_cons_of_mem _ h1)
    · have h3 := h2 _ (List.mem_cons_self ..)
      rcases List.mem_cons.mp hy with e1 | hy
      · rw [e1]
        by_cases c : z < x
        · rw [if_pos (e.mpr c)] at h3 ⊢
          omega
        · rw [if_neg (fun q => c (e.mp q))] at h3 ⊢
          exact h3
      · rcases List.mem_cons.mp hy with e1 | hy
        · rw [e1]
          by_cases c : z < x
          · rw [if_pos (e.mpr c)] at h3 ⊢
            exact h3
          · rw [if_neg (fun q => c (e.mp q))] at h3 ⊢
            omega
        · exact h2 y (List.mem_cons_of_mem _ hy)
def rMinD (K : PySem.W.Frag) : List V → List V → Hp → VK → Prop := fun vs zs H Q => ∃ (a : Addr) (ns : List Int), vs = [V.ref a] ∧ zs = [.non] ∧ SqL K H a (ns.map V.int) ∧ (ns = [] → Q .non H) ∧ ∀ v ∈ ns, (∀ x ∈ ns, v ≤ x) → Q (.int v) H
section
variable {X : Cx} {K : PySem.W.Frag}
theorem minDef (e : X.K = K) (hc : X.calm = true) (hu : X.A.units + 64 < cLine) : CallRK X (.builtin "min") [Str.ofString "default"] (rMinD K) := by
  subst e
  intro pins s σ H vs zs us ws Q I r rz h
  obtain ⟨a, ns, rfl, rfl, hs, q0, q1⟩ := h
  obtain ⟨its, rv, hl, hz⟩ := I.list hs
  obtain ⟨w1, rfl, e1⟩ := vals1 rz
  obtain rfl : w1 = Value.none := e1
  rw [Vals.ref1 r]
  have hi := rv.ints
  refine PySem.W.min_list_datum_default (α := Int) (xs := ns) (I.ok.hd hc) hl.isList (PySem.W.HoldAll.of_ints hi) (by show X.A.units + 1 + 0 < cLine; omega) (fun en h' tk hk => ?_) (fun y ys i v h' tk en hv hh hk => ?_)
  · exact ⟨.non, H, I.kept hk, rfl, q0 en⟩
  · obtain ⟨as, hr⟩ := hh
    have hm := minOf_spec y ys
    have ev : ∃ t, v = Value.int (PySem.W.minOf y ys) t := by
      cases hr
      exact ⟨_, rfl⟩
    obtain ⟨t, rfl⟩ := ev
    subst en
    exact ⟨.int _, H, I.kept hk, ⟨_, rfl⟩, q1 _ hm.1 hm.2⟩
end
/-! ### exceptions: defs that may raise, any value as an argument -/
section
variable {P : Program} {w : World} {K : PySem.W.Frag} {mg : Str → Option Value} {base : Heap}
/-- as Has, for a def that may raise -/
def HasX (P : Program) (w : World) (K : PySem.W.Frag) (mg : Str → Option Value) (base : Heap) (k : Nat) (x : Str) (ps : List Str) (dvs : List V) (sp : Sp) : Prop :=
  ∃ (f : Addr) (fd : FuncData) (ds : List Value), FnOk P w K mg base (L2.CX P w) k f fd ps sp ∧ mg x = some (.ref f) ∧ PySem.W.keepIn K (.ref f) = true ∧ Binds K fd ps ds ∧ Vals dvs ds
def HasMX (P : Program) (w : World) (K : PySem.W.Frag) (mg : Str → Option Value) (base : Heap) (k : Nat) (C : Addr) (m : Str) (ps : List Str) (dvs : List V) (sp : Sp) : Prop :=
  ∃ (f : Addr) (fd : FuncData) (ds : List Value), FnOk P w K mg base (L2.CX P w) k f fd ps sp ∧ Meth K C m f ∧ Binds K fd ps ds ∧ Vals dvs ds
theorem Df.hasX {k : Nat} {x : Str} {st : Stmt} {ps : List Str} {sp : Sp} (D : Df K mg x st ps) (ok : ∀ f fd, Fun K x x st f fd → FnOk P w K mg base (L2.CX P w) k f fd ps sp) : HasX P w K mg base k x ps [] sp := by
  obtain ⟨f, fd, F, m, b⟩ := D
  exact ⟨f, fd, [], ok f fd F, m, F.kp, b, .nil⟩
theorem Dd.hasX {k : Nat} {x : Str} {st : Stmt} {ps : List Str} {d : V} {sp : Sp} (D : Dd K mg x st ps d) (ok : ∀ f fd, FunD K x x (defArgs st) (defBody st) (defScope st) [d] [] f fd → FnOk P w K mg base (L2.CX P w) k f fd ps sp) :
    HasX P w K mg base k x ps [d] sp ∧ HasX P w K mg base k x ps [] sp := by
  obtain ⟨f, fd, F, m, ⟨ds, r, b⟩, b0⟩ := D
  exact ⟨⟨f, fd, ds, ok f fd F, m, F.kp, b, r⟩, ⟨f, fd, [], ok f fd F, m, F.kp, b0, .nil⟩⟩
/-- what the top leaves of an error's class -/
structure EC (K : PySem.W.Frag) (mg : Str → Option Value) (x : Str) (C : Addr) : Prop where
  g : mg x = some (.ref C)
  x : PySem.W.excIn K C [.type "ValueError", .type "Exception", .type "BaseException", .type "object"] "ValueError.__new__" = true
  k : PySem.W.keepIn K (.ref C) = true
  b : PySem.W.subIn K (.ref C) (.type "BaseException") = some true
  t : PySem.W.typeIn K (.ref C) = some (.type "type")
/-- a class by its name alone -/
structure EG (mg : Str → Option Value) (x : Str) (C : Addr) : Prop where
  g : mg x = some (.ref C)
/-- of which types what is no integer may be -/
inductive NoIntT : Value → Prop where
  | non : NoIntT (.type "NoneType")
  | bool : NoIntT (.type "bool")
  | str : NoIntT (.type "str")
  | flt : NoIntT (.type "float")
  | byt : NoIntT (.type "bytes")
  | list : NoIntT (.type "list")
  | tup : NoIntT (.type "tuple")
  | dict : NoIntT (.type "dict")
  | set : NoIntT (.type "set")
/-- what is no integer: any value but an int, a bool too -/
def NoInt (K : PySem.W.Frag) (H : Hp) (x : V) : Prop := ∃ t, TyX K H x t ∧ NoIntT t
theorem NoIntT.kit {t : Value} (h : NoIntT t) : (∃ i b, PySem.W.kitOne K t (.type "int") = some i ∧ PySem.W.kitOne K t (.type "bool") = some b ∧ (i = true → b = true)) := by
  cases h <;> first
    | exact ⟨false, false, kit_ty (by decide +kernel), kit_ty (by decide +kernel), fun z => by cases z⟩
    | exact ⟨true, true, kit_ty (by decide +kernel), kit_ty (by decide +kernel), fun _ => rfl⟩
section
variable {H : Hp}
theorem NoInt.of_non : NoInt K H .non := ⟨_, .base .non, .non⟩
theorem NoInt.of_bl (b : Bool) : NoInt K H (.bl b) := ⟨_, .base (.bl b), .bool⟩
theorem NoInt.of_str (s : Str) : NoInt K H (.str s) := ⟨_, .base (.str s), .str⟩
theorem NoInt.of_lst {a : Addr} {xs : List V} (e : H a = some (.lst xs)) : NoInt K H (.ref a) := ⟨_, .base (.lst e), .list⟩
theorem NoInt.of_tup {a : Addr} {xs : List V} (e : H a = some (.tup xs)) : NoInt K H (.ref a) := ⟨_, .base (.tup e), .tup⟩
theorem NoInt.of_dK {a : Addr} {kvs : List (Key × V)} (e : H a = some (.dK kvs)) : NoInt K H (.ref a) := ⟨_, .base (.dK e), .dict⟩
end
end
section
variable {X : Cx} {K : PySem.W.Frag}
theorem op_notInK (e : X.K = K) : OpR X (compareOp .NotIn) (rIn K true) := by subst e; exact op_notIn_seq
end
/-- what an error was made of stands at a; isinstance(e, X) of it -/
def rIsEX (K : PySem.W.Frag) (cls : Value) (d : Option Addr) (a : Addr) : List V → Hp → VK → Prop := fun xs H Q => ∃ D, cls = .ref D ∧ d = none ∧ ExcC K D ∧ rIsE K D a xs H Q
theorem isiE {X : Cx} {a : Addr} {cls : Value} {d : Option Addr} {oe : Obj} {pn : List (Addr × Obj)} (hz : Zc cls d oe) (hf : ∃ vs, oe.data = .fields vs) : CallR (X.suite a ((a, oe) :: pn)) (.builtin "isinstance") (rIsEX X.K cls d a) := by
  intro pins s σ H xs us Q I r h
  obtain ⟨D, rfl, rfl, hC, h⟩ := h
  exact call_isE hC hz hf pins s σ H xs us Q I r h
section
variable {X : Cx} {CX : CXT} {k : Nat} {f C : Addr} {fd : FuncData} {ps : List Str} {sp : Sp} {E : L2.St → XK} {m : Str} {pos apos : Pos} {e o : Expr} {es : List Expr} {ta : TE} {t : TA}
/-- o.m(e, ..) that may raise, the wish told at the slots of the moment -/
def tMethS (C : Addr) (m : Str) (sp : Sp) (E : L2.St → XK) (ta : TE) (t : TA) : TE := fun σ H Q => ta σ H fun x H1 => ∃ a dx fs, x = .ref a ∧ H1 a = some (.ins C dx fs) ∧ fs.lookup m = none ∧
  t σ H1 fun vs H2 => sp (x :: vs) H2 Q (E σ)
theorem pe_methS {pl : Sem Bool} (he : PE X o ta) (c : Cls X.K C) (hm : Meth X.K C m f) (F : FnOk X.prog X.w X.K X.mg X.base CX k f fd ps sp) (hr : Room k X.A) (hb : Binds X.K fd ps []) (hx : ∀ σ, PassesAt CX X σ (E σ)) (ha : PA X (e :: es) t)
    (hst : starEach (e :: es) X.env = (false, eval e X.env) :: starEach es X.env := by rfl) (hpl : (backTo pos (starEach es X.env)).any (·.1) = false := by rfl)
    (ht : eval (.Call (.Attribute o m apos) (e :: es) [] pos) X.env = (do
      let ov ← eval o X.env
      standAt apos.atName
      let (f, first) ← holding [ov] (getMethod ov m pl)
      callWith pos f first (backTo pos (starEach (e :: es) X.env)) (backToKw pos (keywordEach [] X.env))) := by rfl) :
    PE X (.Call (.Attribute o m apos) (e :: es) [] pos) (tMethS C m sp E ta t) := by
  refine ⟨fun pins s σ H Q I h => ?_⟩
  refine PySem.W.methodCall_KW (pl := pl) (thn (he.run pins s σ H _ I h) fun u s1 ⟨x, H1, I1, rx, a, dx, fs, ex, ea, l, q⟩ => ?_) ht
  subst ex
  obtain rfl : u = Value.ref a := rx
  refine getmeth_ok I1 ea c hm l ?_
  refine PySem.W.callWith_K (first := [.ref a]) (h₀ := X.base) I.ok.mod.kin hm.kp (thn (ha.run pos pins s1 σ H1 _ I1 q) fun us s2 ⟨vs, H2, I2, r, q2⟩ => ⟨I2.kIn, ?_⟩) hst hpl
  exact run_fnS (us := .ref a :: us) (vs := .ref a :: vs) F hr hb (hx σ) I2 (.cons rfl r) q2
end
def topS (i : Nat) : Stmt := PySem.Challenge.pw_timerdeque_k46_what_moves_until_refuses.main.body.getD i (.Pass ⟨0, 0, 0, 0⟩)
abbrev s__wall : Stmt := topS 0
abbrev N__wall : List Str := ["k"]
theorem sc__wall : FnScope N__wall ["k"] (defScope s__wall) := by
  refine ⟨rfl, rfl, rfl, ?_, rfl, ?_, ?_⟩ <;> decide +kernel
abbrev s_is_integer : Stmt := topS 16
abbrev N_is_integer : List Str := ["given"]
theorem sc_is_integer : FnScope N_is_integer ["given"] (defScope s_is_integer) := by
  refine ⟨rfl, rfl, rfl, ?_, rfl, ?_, ?_⟩ <;> decide +kernel
abbrev s_is_word : Stmt := topS 17
abbrev N_is_word : List Str := ["given"]
theorem sc_is_word : FnScope N_is_word ["given"] (defScope s_is_word) := by
  refine ⟨rfl, rfl, rfl, ?_, rfl, ?_, ?_⟩ <;> decide +kernel
abbrev s_is_base : Stmt := topS 18
abbrev N_is_base : List Str := ["given"]
theorem sc_is_base : FnScope N_is_base ["given"] (defScope s_is_base) := by
  refine ⟨rfl, rfl, rfl, ?_, rfl, ?_, ?_⟩ <;> decide +kernel
abbrev s_is_length : Stmt := topS 19
abbrev N_is_length : List Str := ["given"]
theorem sc_is_length : FnScope N_is_length ["given"] (defScope s_is_length) := by
  refine ⟨rfl, rfl, rfl, ?_, rfl, ?_, ?_⟩ <;> decide +kernel
abbrev s_are_levels : Stmt := topS 20
abbrev N_are_levels : List Str := ["given", "word"]
theorem sc_are_levels : FnScope N_are_levels ["given"] (defScope s_are_levels) := by
  refine ⟨rfl, rfl, rfl, ?_, rfl, ?_, ?_⟩ <;> decide +kernel
abbrev s_is_tick : Stmt := topS 21
abbrev N_is_tick : List Str := ["given", "least"]
theorem sc_is_tick : FnScope N_is_tick ["given", "least"] (defScope s_is_tick) := by
  refine ⟨rfl, rfl, rfl, ?_, rfl, ?_, ?_⟩ <;> decide +kernel
abbrev s_is_period : Stmt := topS 22
abbrev N_is_period : List Str := ["given"]
theorem sc_is_period : FnScope N_is_period ["given"] (defScope s_is_period) := by
  refine ⟨rfl, rfl, rfl, ?_, rfl, ?_, ?_⟩ <;> decide +kernel
abbrev s_check_base : Stmt := topS 23
abbrev N_check_base : List Str := ["base"]
theorem sc_check_base : FnScope N_check_base ["base"] (defScope s_check_base) := by
  refine ⟨rfl, rfl, rfl, ?_, rfl, ?_, ?_⟩ <;> decide +kernel
abbrev s_check_levels : Stmt := topS 24
abbrev N_check_levels : List Str := ["levels"]
theorem sc_check_levels : FnScope N_check_levels ["levels"] (defScope s_check_levels) := by
  refine ⟨rfl, rfl, rfl, ?_, rfl, ?_, ?_⟩ <;> decide +kernel
abbrev s_check_tick : Stmt := topS 25
abbrev N_check_tick : List Str := ["tick", "least"]
theorem sc_check_tick : FnScope N_check_tick ["tick", "least"] (defScope s_check_tick) := by
  refine ⟨rfl, rfl, rfl, ?_, rfl, ?_, ?_⟩ <;> decide +kernel
abbrev s_word_at : Stmt := topS 27
abbrev N_word_at : List Str := ["levels", "level"]
theorem sc_word_at : FnScope N_word_at ["levels", "level"] (defScope s_word_at) := by
  refine ⟨rfl, rfl, rfl, ?_, rfl, ?_, ?_⟩ <;> decide +kernel
abbrev s_level_and_size : Stmt := topS 28
abbrev N_level_and_size : List Str := ["base", "now", "due", "level", "size", "above_now", "above_due"]
theorem sc_level_and_size : FnScope N_level_and_size ["base", "now", "due"] (defScope s_level_and_size) := by
  refine ⟨rfl, rfl, rfl, ?_, rfl, ?_, ?_⟩ <;> decide +kernel
abbrev s_path : Stmt := topS 29
abbrev N_path : List Str := ["base", "now", "due", "level", "size", "rows", "tick", "digit"]
theorem sc_path : FnScope N_path ["base", "now", "due"] (defScope s_path) := by
  refine ⟨rfl, rfl, rfl, ?_, rfl, ?_, ?_⟩ <;> decide +kernel
abbrev s_goes_in_front : Stmt := topS 30
abbrev N_goes_in_front : List Str := ["base", "levels", "now", "due", "lowest", "front", "level", "digit", "tick"]
theorem sc_goes_in_front : FnScope N_goes_in_front ["base", "levels", "now", "due", "lowest"] (defScope s_goes_in_front) := by
  refine ⟨rfl, rfl, rfl, ?_, rfl, ?_, ?_⟩ <;> decide +kernel
abbrev s_with_timer : Stmt := topS 31
abbrev N_with_timer : List Str := ["numbers", "number", "front"]
theorem sc_with_timer : FnScope N_with_timer ["numbers", "number", "front"] (defScope s_with_timer) := by
  refine ⟨rfl, rfl, rfl, ?_, rfl, ?_, ?_⟩ <;> decide +kernel
abbrev s_firing_order : Stmt := topS 32
abbrev N_firing_order : List Str := ["base", "levels", "due", "settings", "numbers", "number", "now"]
theorem sc_firing_order : FnScope N_firing_order ["base", "levels", "due", "settings"] (defScope s_firing_order) := by
  refine ⟨rfl, rfl, rfl, ?_, rfl, ?_, ?_⟩ <;> decide +kernel
abbrev s_without_repeats : Stmt := topS 35
abbrev N_without_repeats : List Str := ["levels", "many"]
theorem sc_without_repeats : FnScope N_without_repeats ["levels"] (defScope s_without_repeats) := by
  refine ⟨rfl, rfl, rfl, ?_, rfl, ?_, ?_⟩ <;> decide +kernel
abbrev s_check_period : Stmt := topS 36
abbrev N_check_period : List Str := ["period"]
theorem sc_check_period : FnScope N_check_period ["period"] (defScope s_check_period) := by
  refine ⟨rfl, rfl, rfl, ?_, rfl, ?_, ?_⟩ <;> decide +kernel
abbrev s_order_of_firing : Stmt := topS 37
abbrev N_order_of_firing : List Str := ["base", "levels", "live", "tick", "settings", "number", "due", "period", "since"]
theorem sc_order_of_firing : FnScope N_order_of_firing ["base", "levels", "live", "tick"] (defScope s_order_of_firing) := by
  refine ⟨rfl, rfl, rfl, ?_, rfl, ?_, ?_⟩ <;> decide +kernel
abbrev s_standing : Stmt := topS 38
abbrev N_standing : List Str := ["base", "levels", "live", "tick", "rows", "number", "due", "period", "since", "level", "size", "place", "front", "digit"]
theorem sc_standing : FnScope N_standing ["base", "levels", "live", "tick"] (defScope s_standing) := by
  refine ⟨rfl, rfl, rfl, ?_, rfl, ?_, ?_⟩ <;> decide +kernel
abbrev s_least_due : Stmt := topS 39
abbrev N_least_due : List Str := ["live", "due", "period", "since"]
theorem sc_least_due : FnScope N_least_due ["live"] (defScope s_least_due) := by
  refine ⟨rfl, rfl, rfl, ?_, rfl, ?_, ?_⟩ <;> decide +kernel
abbrev s_after_firing : Stmt := topS 40
abbrev N_after_firing : List Str := ["live", "numbers", "tick", "left", "number", "due", "period", "since"]
theorem sc_after_firing : FnScope N_after_firing ["live", "numbers", "tick"] (defScope s_after_firing) := by
  refine ⟨rfl, rfl, rfl, ?_, rfl, ?_, ?_⟩ <;> decide +kernel
abbrev s__law_cell_at : Stmt := topS 43
abbrev N__law_cell_at : List Str := ["_law_script", "_law_k"]
theorem sc__law_cell_at : FnScope N__law_cell_at ["_law_script", "_law_k"] (defScope s__law_cell_at) := by
  refine ⟨rfl, rfl, rfl, ?_, rfl, ?_, ?_⟩ <;> decide +kernel
abbrev s__law_mixed : Stmt := topS 44
abbrev N__law_mixed : List Str := ["_law_cell", "_law_k", "_law_low"]
theorem sc__law_mixed : FnScope N__law_mixed ["_law_cell", "_law_k"] (defScope s__law_mixed) := by
  refine ⟨rfl, rfl, rfl, ?_, rfl, ?_, ?_⟩ <;> decide +kernel
abbrev s__law_source : Stmt := topS 45
abbrev N__law_source : List Str := ["_law_script", "_law_k", "_law_cell"]
theorem sc__law_source : FnScope N__law_source ["_law_script", "_law_k"] (defScope s__law_source) := by
  refine ⟨rfl, rfl, rfl, ?_, rfl, ?_, ?_⟩ <;> decide +kernel
abbrev s__law_next : Stmt := topS 46
abbrev N__law_next : List Str := ["_law_source_here", "_law_many", "_law_found"]
theorem sc__law_next : FnScope N__law_next ["_law_source_here", "_law_many"] (defScope s__law_next) := by
  refine ⟨rfl, rfl, rfl, ?_, rfl, ?_, ?_⟩ <;> decide +kernel
abbrev s__law_base : Stmt := topS 47
abbrev N__law_base : List Str := ["_law_source_here"]
theorem sc__law_base : FnScope N__law_base ["_law_source_here"] (defScope s__law_base) := by
  refine ⟨rfl, rfl, rfl, ?_, rfl, ?_, ?_⟩ <;> decide +kernel
abbrev s__law_levels : Stmt := topS 48
abbrev N__law_levels : List Str := ["_law_source_here", "_law_many", "_law_sort", "_law_found", "_law_at"]
theorem sc__law_levels : FnScope N__law_levels ["_law_source_here"] (defScope s__law_levels) := by
  refine ⟨rfl, rfl, rfl, ?_, rfl, ?_, ?_⟩ <;> decide +kernel
abbrev s__law_tick : Stmt := topS 49
abbrev N__law_tick : List Str := ["_law_source_here", "_law_base_here", "_law_sort", "_law_size", "_law_at"]
theorem sc__law_tick : FnScope N__law_tick ["_law_source_here", "_law_base_here"] (defScope s__law_tick) := by
  refine ⟨rfl, rfl, rfl, ?_, rfl, ?_, ?_⟩ <;> decide +kernel
abbrev s__law_far : Stmt := topS 50
abbrev N__law_far : List Str := ["_law_source_here", "_law_base_here", "_law_now", "_law_near"]
theorem sc__law_far : FnScope N__law_far ["_law_source_here", "_law_base_here", "_law_now"] (defScope s__law_far) := by
  refine ⟨rfl, rfl, rfl, ?_, rfl, ?_, ?_⟩ <;> decide +kernel
abbrev s__law_used : Stmt := topS 51
abbrev N__law_used : List Str := ["_law_source_here", "_law_base_here", "_law_levels_here", "_law_now", "_law_wheel", "_law_turn", "_law_branch", "_law_live", "_law_due"]
theorem sc__law_used : FnScope N__law_used ["_law_source_here", "_law_base_here", "_law_levels_here", "_law_now"] (defScope s__law_used) := by
  refine ⟨rfl, rfl, rfl, ?_, rfl, ?_, ?_⟩ <;> decide +kernel
abbrev s__law_word : Stmt := topS 52
abbrev N__law_word : List Str := ["_law_wheel", "_law_tick_here", "e", "_law_marks"]
theorem sc__law_word : FnScope N__law_word ["_law_wheel", "_law_tick_here"] (defScope s__law_word) := by
  refine ⟨rfl, rfl, rfl, ?_, rfl, ?_, ?_⟩ <;> decide +kernel
abbrev s__law_empty : Stmt := topS 53
abbrev N__law_empty : List Str := ["_law_wheel"]
theorem sc__law_empty : FnScope N__law_empty ["_law_wheel"] (defScope s__law_empty) := by
  refine ⟨rfl, rfl, rfl, ?_, rfl, ?_, ?_⟩ <;> decide +kernel
abbrev s_law : Stmt := topS 54
abbrev N_law : List Str := ["_law_script", "_law_k", "_law_source_here", "_law_base_here", "_law_levels_here", "_law_begin", "_law_wheel", "_law_now", "_law_stand", "_law_pair", "_law_bad", "_law_number", "_law_tick_here"]
theorem sc_law : FnScope N_law ["_law_script"] (defScope s_law) := by
  refine ⟨rfl, rfl, rfl, ?_, rfl, ?_, ?_⟩ <;> decide +kernel
abbrev s_Wheel___init__ : Stmt := inClass (topS 41) 0
abbrev N_Wheel___init__ : List Str := ["self", "base", "levels", "start"]
theorem sc_Wheel___init__ : FnScope N_Wheel___init__ ["self", "base", "levels", "start"] (defScope s_Wheel___init__) := by
  refine ⟨rfl, rfl, rfl, ?_, rfl, ?_, ?_⟩ <;> decide +kernel
abbrev s_Wheel___len__ : Stmt := inClass (topS 41) 1
abbrev N_Wheel___len__ : List Str := ["self"]
theorem sc_Wheel___len__ : FnScope N_Wheel___len__ ["self"] (defScope s_Wheel___len__) := by
  refine ⟨rfl, rfl, rfl, ?_, rfl, ?_, ?_⟩ <;> decide +kernel
abbrev s_Wheel___eq__ : Stmt := inClass (topS 41) 2
abbrev N_Wheel___eq__ : List Str := ["self", "other"]
theorem sc_Wheel___eq__ : FnScope N_Wheel___eq__ ["self", "other"] (defScope s_Wheel___eq__) := by
  refine ⟨rfl, rfl, rfl, ?_, rfl, ?_, ?_⟩ <;> decide +kernel
abbrev s_Wheel_check_timer : Stmt := inClass (topS 41) 3
abbrev N_Wheel_check_timer : List Str := ["self", "timer"]
theorem sc_Wheel_check_timer : FnScope N_Wheel_check_timer ["self", "timer"] (defScope s_Wheel_check_timer) := by
  refine ⟨rfl, rfl, rfl, ?_, rfl, ?_, ?_⟩ <;> decide +kernel
abbrev s_Wheel_now : Stmt := inClass (topS 41) 4
abbrev N_Wheel_now : List Str := ["self"]
theorem sc_Wheel_now : FnScope N_Wheel_now ["self"] (defScope s_Wheel_now) := by
  refine ⟨rfl, rfl, rfl, ?_, rfl, ?_, ?_⟩ <;> decide +kernel
abbrev s_Wheel_put : Stmt := inClass (topS 41) 5
abbrev N_Wheel_put : List Str := ["self", "due", "period", "number"]
theorem sc_Wheel_put : FnScope N_Wheel_put ["self", "due", "period"] (defScope s_Wheel_put) := by
  refine ⟨rfl, rfl, rfl, ?_, rfl, ?_, ?_⟩ <;> decide +kernel
abbrev s_Wheel_cancel : Stmt := inClass (topS 41) 6
abbrev N_Wheel_cancel : List Str := ["self", "timer"]
theorem sc_Wheel_cancel : FnScope N_Wheel_cancel ["self", "timer"] (defScope s_Wheel_cancel) := by
  refine ⟨rfl, rfl, rfl, ?_, rfl, ?_, ?_⟩ <;> decide +kernel
abbrev s_Wheel_reset : Stmt := inClass (topS 41) 7
abbrev N_Wheel_reset : List Str := ["self", "timer", "due", "before", "period", "since"]
theorem sc_Wheel_reset : FnScope N_Wheel_reset ["self", "timer", "due"] (defScope s_Wheel_reset) := by
  refine ⟨rfl, rfl, rfl, ?_, rfl, ?_, ?_⟩ <;> decide +kernel
abbrev s_Wheel_due : Stmt := inClass (topS 41) 8
abbrev N_Wheel_due : List Str := ["self", "timer"]
theorem sc_Wheel_due : FnScope N_Wheel_due ["self", "timer"] (defScope s_Wheel_due) := by
  refine ⟨rfl, rfl, rfl, ?_, rfl, ?_, ?_⟩ <;> decide +kernel
abbrev s_Wheel_timers : Stmt := inClass (topS 41) 9
abbrev N_Wheel_timers : List Str := ["self"]
theorem sc_Wheel_timers : FnScope N_Wheel_timers ["self"] (defScope s_Wheel_timers) := by
  refine ⟨rfl, rfl, rfl, ?_, rfl, ?_, ?_⟩ <;> decide +kernel
abbrev s_Wheel_advance : Stmt := inClass (topS 41) 10
abbrev N_Wheel_advance : List Str := ["self", "tick", "fired", "many", "live", "at", "numbers"]
theorem sc_Wheel_advance : FnScope N_Wheel_advance ["self", "tick"] (defScope s_Wheel_advance) := by
  refine ⟨rfl, rfl, rfl, ?_, rfl, ?_, ?_⟩ <;> decide +kernel
abbrev s_Wheel_lists : Stmt := inClass (topS 41) 11
abbrev N_Wheel_lists : List Str := ["self"]
theorem sc_Wheel_lists : FnScope N_Wheel_lists ["self"] (defScope s_Wheel_lists) := by
  refine ⟨rfl, rfl, rfl, ?_, rfl, ?_, ?_⟩ <;> decide +kernel
abbrev s_Wheel_firing : Stmt := inClass (topS 41) 12
abbrev N_Wheel_firing : List Str := ["self", "tick"]
theorem sc_Wheel_firing : FnScope N_Wheel_firing ["self", "tick"] (defScope s_Wheel_firing) := by
  refine ⟨rfl, rfl, rfl, ?_, rfl, ?_, ?_⟩ <;> decide +kernel
abbrev s_Wheel_lists_at : Stmt := inClass (topS 41) 13
abbrev N_Wheel_lists_at : List Str := ["self", "tick"]
theorem sc_Wheel_lists_at : FnScope N_Wheel_lists_at ["self", "tick"] (defScope s_Wheel_lists_at) := by
  refine ⟨rfl, rfl, rfl, ?_, rfl, ?_, ?_⟩ <;> decide +kernel
abbrev s_Wheel_restoring : Stmt := inClass (topS 41) 14
abbrev N_Wheel_restoring : List Str := ["self", "rows", "level", "digit", "numbers", "number"]
theorem sc_Wheel_restoring : FnScope N_Wheel_restoring ["self"] (defScope s_Wheel_restoring) := by
  refine ⟨rfl, rfl, rfl, ?_, rfl, ?_, ?_⟩ <;> decide +kernel
abbrev s_Wheel_snapshot : Stmt := inClass (topS 41) 15
abbrev N_Wheel_snapshot : List Str := ["self", "rows", "number", "due"]
theorem sc_Wheel_snapshot : FnScope N_Wheel_snapshot ["self"] (defScope s_Wheel_snapshot) := by
  refine ⟨rfl, rfl, rfl, ?_, rfl, ?_, ?_⟩ <;> decide +kernel
abbrev s_Wheel_next_event : Stmt := inClass (topS 41) 16
abbrev N_Wheel_next_event : List Str := ["self", "ticks", "due", "period", "since", "level", "size"]
theorem sc_Wheel_next_event : FnScope N_Wheel_next_event ["self"] (defScope s_Wheel_next_event) := by
  refine ⟨rfl, rfl, rfl, ?_, rfl, ?_, ?_⟩ <;> decide +kernel
abbrev s_Wheel_next_firing : Stmt := inClass (topS 41) 17
abbrev N_Wheel_next_firing : List Str := ["self"]
theorem sc_Wheel_next_firing : FnScope N_Wheel_next_firing ["self"] (defScope s_Wheel_next_firing) := by
  refine ⟨rfl, rfl, rfl, ?_, rfl, ?_, ?_⟩ <;> decide +kernel
abbrev s_Wheel_moves_until : Stmt := inClass (topS 41) 18
abbrev N_Wheel_moves_until : List Str := ["self", "tick", "many", "due", "period", "since", "later", "level", "digit", "at"]
theorem sc_Wheel_moves_until : FnScope N_Wheel_moves_until ["self", "tick"] (defScope s_Wheel_moves_until) := by
  refine ⟨rfl, rfl, rfl, ?_, rfl, ?_, ?_⟩ <;> decide +kernel
/-- what the top leaves of built-in names -/
structure Tx (K : PySem.W.Frag) (mg : Str → Option Value) : Prop where
  b_isinstance : mg "isinstance" = none
  b_int : mg "int" = none
  b_bool : mg "bool" = none
  b_str : mg "str" = none
  b_all : mg "all" = none
  b_list : mg "list" = none
  b_len : mg "len" = none
  b_min : mg "min" = none
  b_sorted : mg "sorted" = none
  b_dict : mg "dict" = none
  b_range : mg "range" = none
  b_max : mg "max" = none
/-! ### the program: what an integer is, bases, ticks -/
def slotInt (σ : L2.St) (i : Nat) : Nat := match σ[i]? with
  | some (some (.int z)) => z.toNat
  | _ => 0
theorem cast_div (a b : Nat) : (a : Int) / (b : Int) = ((a / b : Nat) : Int) := rfl
theorem cast_mod (a b : Nat) : (a : Int) % (b : Int) = ((a % b : Nat) : Int) := rfl
theorem cast_mul (a b : Nat) : (a : Int) * (b : Int) = ((a * b : Nat) : Int) := (Int.natCast_mul a b).symm
theorem cast_add (a b : Nat) : (a : Int) + (b : Int) = ((a + b : Nat) : Int) := rfl
theorem natAbs_cast (a : Nat) : ((a : Nat) : Int).natAbs = a := rfl
theorem divp_s {i j : Int} (b : Nat) (hj : 0 < j) (hi : i.natAbs < 2 ^ b) (h : b ≤ 3000 := by decide) : CDivP i j := by
  refine divp_ok hj ?_
  have := PyProof.Rows.intBits_le hi
  omega
section
variable {P : Program} {w : World} {K : PySem.W.Frag} {mg : Str → Option Value} {base : Heap}
def spIsInt : Sp := fun vs H Q _ => ∃ n : Int, vs = [.int n] ∧ Q (.bl true) H
theorem ok_is_integer {f : Addr} {fd : FuncData} (F : Fun K "is_integer" "is_integer" s_is_integer f fd) (T : Tx K mg) : FnOk P w K mg base CX0 1 f fd ["given"] spIsInt := by
  refine F.ok sc_is_integer (fun vs H Q E h => ?_) (fun cdv A outer s H vs Q E hr h => ?_)
  · obtain ⟨n, rfl, _⟩ := h
    rfl
  · obtain ⟨n, rfl, q⟩ := h
    refine ⟨_, (pss_one (ps_ret (pe_and (pe_callB (isiK (K := K) rfl) (by rfl) T.b_isinstance (by decide +kernel) (pa_cons (pv 0) (pa_cons (pe_bltn (v := .ty "int") (u := .type "int") (by rfl) T.b_int (by decide +kernel) rfl) pa_nil))) (pe_one (pe_not (pe_callB (isiK (K := K) rfl) (by rfl) T.b_isinstance (by decide +kernel) (pa_cons (pv 0) (pa_cons (pe_bltn (v := .ty "bool") (u := .type "bool") (by rfl) T.b_bool (by decide +kernel) rfl) pa_nil)))))))), ?_⟩
    refine ⟨.int n, rfl, .int n, _, _, _, true, rfl, .ty "int", .base (.int n), kit_ty (by decide +kernel), true, rfl, iteT ?_⟩
    exact ⟨.int n, rfl, .int n, _, _, _, false, rfl, .ty "bool", .base (.int n), kit_ty (by decide +kernel), false, rfl, q⟩
end
/-! a tick, of an integer -/
section
variable {P : Program} {w : World} {K : PySem.W.Frag} {mg : Str → Option Value} {base : Heap}
def spIsTick : Sp := fun vs H Q _ => ∃ n l : Int, vs = [.int n, .int l] ∧ l ≤ n ∧ Q (.bl true) H
theorem ok_is_tick {f : Addr} {fd : FuncData} (F : FunD K "is_tick" "is_tick" (defArgs s_is_tick) (defBody s_is_tick) (defScope s_is_tick) [.int 0] [] f fd) (T : Tx K mg) (h1 : Has P w K mg base 1 "is_integer" ["given"] [] spIsInt) : FnOk P w K mg base CX0 2 f fd ["given", "least"] spIsTick := by
  obtain ⟨f_is_integer, fd_is_integer, ds_is_integer, G_is_integer, m_is_integer, k_is_integer, b_is_integer, v_is_integer⟩ := h1
  refine F.ok sc_is_tick (fun vs H Q E h => ?_) (fun cdv A outer s H vs Q E hr h => ?_)
  · obtain ⟨n, l, rfl, _⟩ := h
    rfl
  · obtain ⟨n, l, rfl, l1, q⟩ := h
    refine ⟨_, PSs.nox (pss_one (ps_ret (pe_and (pe_call G_is_integer hr (by rfl) m_is_integer k_is_integer b_is_integer v_is_integer pass0 (pa_cons (pv 0) pa_nil)) (pe_one (pe_cmpR op_ge (pv 0) (pv 1) (nomark _)))))), ?_⟩
    refine ⟨.int n, rfl, n, rfl, true, rfl, iteT ?_⟩
    refine ⟨.int n, rfl, .int l, rfl, n, l, rfl, rfl, ?_⟩
    have e : V.bl (decide (n ≥ l)) = V.bl true := dT l1
    show Q (V.bl (decide (n ≥ l))) H
    rw [e]
    exact q
end
/-! ### bases and ticks -/
section
variable {P : Program} {w : World} {K : PySem.W.Frag} {mg : Str → Option Value} {base : Heap}
def spIsBase : Sp := fun vs H Q _ => ∃ n : Int, vs = [.int n] ∧ 2 ≤ n ∧ n ≤ 64 ∧ Q (.bl true) H
theorem ok_is_base {f : Addr} {fd : FuncData} (F : Fun K "is_base" "is_base" s_is_base f fd) (h1 : Has P w K mg base 1 "is_integer" ["given"] [] spIsInt) : FnOk P w K mg base CX0 2 f fd ["given"] spIsBase := by
  obtain ⟨f_is_integer, fd_is_integer, ds_is_integer, G_is_integer, m_is_integer, k_is_integer, b_is_integer, v_is_integer⟩ := h1
  refine F.ok sc_is_base (fun vs H Q E h => ?_) (fun cdv A outer s H vs Q E hr h => ?_)
  · obtain ⟨n, rfl, _⟩ := h
    rfl
  · obtain ⟨n, rfl, l1, l2, q⟩ := h
    refine ⟨_, (pss_one (ps_ret (pe_and (pe_call G_is_integer hr (by rfl) m_is_integer k_is_integer b_is_integer v_is_integer pass0 (pa_cons (pv 0) pa_nil)) (pe_one (pe_chain op_le op_le pe_int (pv 0) pe_int))))), ?_⟩
    refine ⟨.int n, rfl, n, rfl, true, rfl, iteT ?_⟩
    refine ⟨.int n, rfl, 2, n, rfl, rfl, true, congrArg V.bl (decide_eq_true l1), iteT ?_⟩
    refine ⟨n, 64, rfl, rfl, ?_⟩
    have e : V.bl (decide (n ≤ 64)) = V.bl true := dT l2
    show Q (V.bl (decide (n ≤ 64))) H
    rw [e]
    exact q
def spCheckBase : Sp := fun vs H Q _ => ∃ n : Int, vs = [.int n] ∧ 2 ≤ n ∧ n ≤ 64 ∧ Q .non H
theorem ok_check_base {f : Addr} {fd : FuncData} (F : Fun K "check_base" "check_base" s_check_base f fd) (h1 : Has P w K mg base 2 "is_base" ["given"] [] spIsBase) : FnOk P w K mg base CX0 3 f fd ["base"] spCheckBase := by
  obtain ⟨f_is_base, fd_is_base, ds_is_base, G_is_base, m_is_base, k_is_base, b_is_base, v_is_base⟩ := h1
  refine F.ok sc_check_base (fun vs H Q E h => ?_) (fun cdv A outer s H vs Q E hr h => ?_)
  · obtain ⟨n, rfl, _⟩ := h
    rfl
  · obtain ⟨n, rfl, l1, l2, q⟩ := h
    refine ⟨_, (pss_one (ps_if (pt_not (pt_val (pe_call G_is_base hr (by rfl) m_is_base k_is_base b_is_base v_is_base pass0 (pa_cons (pv 0) pa_nil))))
        (pss_one ps_never)
        pss_nil)), ?_⟩
    exact ⟨.int n, rfl, n, rfl, l1, l2, true, rfl, iteF q⟩
def spCheckTick : Sp := fun vs H Q _ => ∃ n l : Int, vs = [.int n, .int l] ∧ l ≤ n ∧ Q .non H
theorem ok_check_tick {f : Addr} {fd : FuncData} (F : FunD K "check_tick" "check_tick" (defArgs s_check_tick) (defBody s_check_tick) (defScope s_check_tick) [.int 0] [] f fd) (h1 : Has P w K mg base 2 "is_tick" ["given", "least"] [] spIsTick) : FnOk P w K mg base CX0 3 f fd ["tick", "least"] spCheckTick := by
  obtain ⟨f_is_tick, fd_is_tick, ds_is_tick, G_is_tick, m_is_tick, k_is_tick, b_is_tick, v_is_tick⟩ := h1
  refine F.ok sc_check_tick (fun vs H Q E h => ?_) (fun cdv A outer s H vs Q E hr h => ?_)
  · obtain ⟨n, l, rfl, _⟩ := h
    rfl
  · obtain ⟨n, l, rfl, l1, q⟩ := h
    refine ⟨_, PSs.nox (pss_one (ps_if (pt_not (pt_val (pe_call G_is_tick hr (by rfl) m_is_tick k_is_tick b_is_tick v_is_tick pass0 (pa_cons (pv 0) (pa_cons (pv 1) pa_nil)))))
        (pss_one ps_never)
        pss_nil)), ?_⟩
    exact ⟨.int n, rfl, .int l, rfl, n, l, rfl, l1, true, rfl, iteF q⟩
end
/-! ### is_integer of any value; a tick that is none -/
section
variable {P : Program} {w : World} {K : PySem.W.Frag} {mg : Str → Option Value} {base : Heap}
def spIsIntX (K : PySem.W.Frag) : Sp := fun vs H Q _ => ∃ x : V, vs = [x] ∧ ((∃ n : Int, x = .int n ∧ Q (.bl true) H) ∨ (NoInt K H x ∧ Q (.bl false) H))
theorem okA_is_integer {f : Addr} {fd : FuncData} (F : Fun K "is_integer" "is_integer" s_is_integer f fd) (T : Tx K mg) : FnOk P w K mg base CX0 1 f fd ["given"] (spIsIntX K) := by
  refine F.ok sc_is_integer (fun vs H Q E h => ?_) (fun cdv A outer s H vs Q E hr h => ?_)
  · obtain ⟨x, rfl, _⟩ := h
    rfl
  · obtain ⟨x, rfl, hx⟩ := h
    refine ⟨_, (pss_one (ps_ret (pe_and (pe_callB (isiK (K := K) rfl) (by rfl) T.b_isinstance (by decide +kernel) (pa_cons (pv 0) (pa_cons (pe_bltn (v := .ty "int") (u := .type "int") (by rfl) T.b_int (by decide +kernel) rfl) pa_nil))) (pe_one (pe_not (pe_callB (isiK (K := K) rfl) (by rfl) T.b_isinstance (by decide +kernel) (pa_cons (pv 0) (pa_cons (pe_bltn (v := .ty "bool") (u := .type "bool") (by rfl) T.b_bool (by decide +kernel) rfl) pa_nil)))))))), ?_⟩
    rcases hx with ⟨n, rfl, q⟩ | ⟨⟨t, ht, hn⟩, q⟩
    · refine ⟨.int n, rfl, .int n, _, _, _, true, rfl, .ty "int", .base (.int n), kit_ty (by decide +kernel), true, rfl, iteT ?_⟩
      exact ⟨.int n, rfl, .int n, _, _, _, false, rfl, .ty "bool", .base (.int n), kit_ty (by decide +kernel), false, rfl, q⟩
    · obtain ⟨i, b, h1, h2, h3⟩ := hn.kit (K := K)
      cases i with
      | false => exact ⟨x, rfl, x, _, _, _, false, rfl, .ty "int", ht, h1, false, rfl, iteF q⟩
      | true =>
        refine ⟨x, rfl, x, _, _, _, true, rfl, .ty "int", ht, h1, true, rfl, iteT ?_⟩
        exact ⟨x, rfl, x, _, _, _, b, rfl, .ty "bool", ht, h2, b, rfl, by rw [h3 rfl]; exact q⟩
/-- what is no tick from l on -/
def BadTick (K : PySem.W.Frag) (H : Hp) (x : V) (l : Int) : Prop := NoInt K H x ∨ ∃ n : Int, x = .int n ∧ n < l
def spIsTickX (K : PySem.W.Frag) : Sp := fun vs H Q _ => ∃ (x : V) (l : Int), vs = [x, .int l] ∧ ((∃ n : Int, x = .int n ∧ l ≤ n ∧ Q (.bl true) H) ∨ (BadTick K H x l ∧ Q (.bl false) H))
theorem okA_is_tick {f : Addr} {fd : FuncData} (F : FunD K "is_tick" "is_tick" (defArgs s_is_tick) (defBody s_is_tick) (defScope s_is_tick) [.int 0] [] f fd) (h1 : Has P w K mg base 1 "is_integer" ["given"] [] (spIsIntX K)) : FnOk P w K mg base CX0 2 f fd ["given", "least"] (spIsTickX K) := by
  obtain ⟨f_is_integer, fd_is_integer, ds_is_integer, G_is_integer, m_is_integer, k_is_integer, b_is_integer, v_is_integer⟩ := h1
  refine F.ok sc_is_tick (fun vs H Q E h => ?_) (fun cdv A outer s H vs Q E hr h => ?_)
  · obtain ⟨x, l, rfl, _⟩ := h
    rfl
  · obtain ⟨x, l, rfl, hx⟩ := h
    refine ⟨_, PSs.nox (pss_one (ps_ret (pe_and (pe_call G_is_integer hr (by rfl) m_is_integer k_is_integer b_is_integer v_is_integer pass0 (pa_cons (pv 0) pa_nil)) (pe_one (pe_cmpR op_ge (pv 0) (pv 1) (nomark _)))))), ?_⟩
    have e1 : ∀ n : Int, l ≤ n → V.bl (decide (n ≥ l)) = V.bl true := fun n h => dT h
    have e2 : ∀ n : Int, n < l → V.bl (decide (n ≥ l)) = V.bl false := fun n h => dF (by omega)
    rcases hx with ⟨n, rfl, l1, q⟩ | ⟨hn | ⟨n, rfl, l1⟩, q⟩
    · refine ⟨.int n, rfl, .int n, rfl, .inl ⟨n, rfl, true, rfl, iteT ⟨.int n, rfl, .int l, rfl, n, l, rfl, rfl, ?_⟩⟩⟩
      show Q (V.bl (decide (n ≥ l))) H
      rw [e1 n l1]
      exact q
    · exact ⟨x, rfl, x, rfl, .inr ⟨hn, false, rfl, iteF q⟩⟩
    · refine ⟨.int n, rfl, .int n, rfl, .inl ⟨n, rfl, true, rfl, iteT ⟨.int n, rfl, .int l, rfl, n, l, rfl, rfl, ?_⟩⟩⟩
      show Q (V.bl (decide (n ≥ l))) H
      rw [e2 n l1]
      exact q
def spCheckTickX (K : PySem.W.Frag) (CN : Addr) : Sp := fun vs H Q E => ∃ (x : V) (l : Int), vs = [x, .int l] ∧ ((∃ n : Int, x = .int n ∧ l ≤ n ∧ Q .non H) ∨ (BadTick K H x l ∧ E (.ref CN) none H))
theorem okX_check_tick {f c_NoTick : Addr} {fd : FuncData} (F : FunD K "check_tick" "check_tick" (defArgs s_check_tick) (defBody s_check_tick) (defScope s_check_tick) [.int 0] [] f fd) (T : Tx K mg) (X_NoTick : EC K mg "NoTick" c_NoTick) (h1 : Has P w K mg base 2 "is_tick" ["given", "least"] [] (spIsTickX K)) : FnOk P w K mg base (L2.CX P w) 3 f fd ["tick", "least"] (spCheckTickX K c_NoTick) := by
  obtain ⟨f_is_tick, fd_is_tick, ds_is_tick, G_is_tick, m_is_tick, k_is_tick, b_is_tick, v_is_tick⟩ := h1
  refine F.ok sc_check_tick (fun vs H Q E h => ?_) (fun cdv A outer s H vs Q E hr h => ?_)
  · obtain ⟨x, l, rfl, _⟩ := h
    rfl
  · obtain ⟨x, l, rfl, hx⟩ := h
    refine ⟨_, (pss_one (ps_if (pt_not (pt_val (pe_call G_is_tick hr (by rfl) m_is_tick k_is_tick b_is_tick v_is_tick pass0 (pa_cons (pv 0) (pa_cons (pv 1) pa_nil)))))
        (pss_one (ps_raise rfl (takes_of rfl rfl rfl rfl) (pmk_own PySem.F.excBase_ValueError X_NoTick.x X_NoTick.g X_NoTick.k (raises_own X_NoTick.b X_NoTick.t) rfl)))
        pss_nil)), ?_⟩
    rcases hx with ⟨n, rfl, l1, q⟩ | ⟨hn, q⟩
    · exact ⟨.int n, rfl, .int l, rfl, .int n, l, rfl, .inl ⟨n, rfl, l1, true, rfl, iteF q⟩⟩
    · exact ⟨x, rfl, .int l, rfl, x, l, rfl, .inr ⟨hn, false, rfl, iteT q⟩⟩
end
/-! ### the program: level_and_size, path -/
section
variable {P : Program} {w : World} {K : PySem.W.Frag} {mg : Str → Option Value} {base : Heap}
/-! the level -/
def spLevel : Sp := fun vs H Q _ => ∃ b n d : Nat, vs = [.int b, .int n, .int d] ∧ 2 ≤ b ∧ b ≤ 64 ∧ n < d ∧ d < 2 ^ 250 ∧ ∀ k, IsLev b n d k → ∀ H' p, Same H H' → H p = none → H' p = some (.tup [.int (k : Nat), .int ((b ^ k : Nat) : Int)]) → Q (.ref p) H'
theorem ok_level_and_size {f : Addr} {fd : FuncData} (F : Fun K "level_and_size" "level_and_size" s_level_and_size f fd) : FnOk P w K mg base CX0 1 f fd ["base", "now", "due"] spLevel := by
  refine F.ok sc_level_and_size (fun vs H Q E h => ?_) (fun cdv A outer s H vs Q E hr h => ?_)
  · obtain ⟨b, n, d, rfl, _⟩ := h
    rfl
  · obtain ⟨b, n, d, rfl, hb, hb64, hnd, hd, q⟩ := h
    have cb : ∀ x : Nat, NDiv x b := fun x => ndiv 7 (by omega) (by omega)
    refine ⟨_, (pss_cons (ps_asg (pe_tup (pa_cons pe_int (pa_cons pe_int pa_nil))) (pg_tupK (K := K) (n := 2) rfl rfl (pgs_cons (pg_name (i := 3) sc_level_and_size.nd rfl (.inl rfl)) (pgs_cons (pg_name (i := 4) sc_level_and_size.nd rfl (.inl rfl)) pgs_nil))))
      (pss_cons (ps_par (i := 5) (j := 6) (by rfl) sc_level_and_size.nd rfl rfl (by decide) rfl rfl (pa_cons (pe_op op_divN (pv 1) (pv 0)) (pa_cons (pe_op op_divN (pv 2) (pv 0)) pa_nil)) (by rfl))
      (pss_cons (ps_while PassesOwn.never (pt_cmpR op_ne (pv 5) (pv 6) (nomark _))
        (pss_cons (ps_par (i := 5) (j := 6) (by rfl) sc_level_and_size.nd rfl rfl (by decide) rfl rfl (pa_cons (pe_op op_divN (pv 5) (pv 0)) (pa_cons (pe_op op_divN (pv 6) (pv 0)) pa_nil)) (by rfl))
        (pss_one (ps_par (i := 3) (j := 4) (by rfl) sc_level_and_size.nd rfl rfl (by decide) rfl rfl (pa_cons (pe_op op_addN (pv 3) pe_int) (pa_cons (pe_op op_mulN (pv 4) (pv 0)) pa_nil)) (by rfl)))))
      (pss_one (ps_ret (pe_tup (pa_cons (pv 3) (pa_cons (pv 4) pa_nil)))))))), ?_⟩
    refine ⟨by simp [sizeLine_eq], fun t hT => ⟨t, _, rfl, .inl (.inl upd_same), rfl, _, _, rfl, _, _, rfl, rfl, ?_⟩⟩
    refine ⟨_, rfl, _, rfl, _, _, rfl, rfl, cb _, _, rfl, _, rfl, _, _, rfl, rfl, cb _, _, _, rfl, ?_⟩
    refine while_by (fun σ H' => ∃ k : Nat, σ = [some (.int (b : Int)), some (.int (n : Int)), some (.int (d : Int)), some (.int (k : Int)), some (.int ((b ^ k : Nat) : Int)), some (.int ((n / b ^ (k + 1) : Nat) : Int)), some (.int ((d / b ^ (k + 1) : Nat) : Int))] ∧ Same H H' ∧ ∀ j, j < k → n / b ^ (j + 1) ≠ d / b ^ (j + 1))
      (fun σ _ => slotInt σ 6) ⟨0, ?_, same_upd hT, fun j hj => absurd hj (Nat.not_lt_zero j)⟩ ?_ ?_
    · rw [Nat.zero_add, Nat.pow_one]
      rfl
    · rintro σ H' ⟨k, rfl, sm, hk⟩
      by_cases hne : n / b ^ (k + 1) = d / b ^ (k + 1)
      · refine ⟨_, rfl, _, rfl, rfl, false, ?_, iteF ?_⟩
        · rw [hne, decide_eq_true rfl]
          rfl
        · refine ⟨_, rfl, _, rfl, by simp [sizeLine_eq], fun p hp => ?_⟩
          exact q k ⟨hne, hk⟩ _ p (sm.trans (same_upd hp)) (sm.free hp) upd_same
      · have h2 : n / b ^ (k + 1) ≤ d / b ^ (k + 1) := Nat.div_le_div_right (Nat.le_of_lt hnd)
        have hpos : 0 < d / b ^ (k + 1) := pos_of h2 hne
        refine ⟨_, rfl, _, rfl, rfl, true, ?_, iteT ?_⟩
        · rw [int_ne hne]
          rfl
        · refine ⟨_, rfl, _, rfl, _, _, rfl, rfl, cb _, _, rfl, _, rfl, _, _, rfl, rfl, cb _, _, _, rfl, ?_⟩
          refine ⟨_, rfl, k, 1, rfl, rfl, trivial, _, rfl, _, rfl, _, _, rfl, rfl, nmul_r (by omega), _, _, rfl, ?_⟩
          have hlt : d / b ^ (k + 1) / b < d / b ^ (k + 1) := Nat.div_lt_self hpos (by omega)
          refine ⟨⟨k + 1, ?_, sm, fun j hj => ?_⟩, ?_⟩
          · rw [div_succ n b (k + 1), div_succ d b (k + 1), Nat.pow_succ b k]
            rfl
          · by_cases e : j = k
            · rw [e]
              exact hne
            · exact hk j (by omega)
          · show (((d / b ^ (k + 1) / b : Nat) : Int)).toNat < (((d / b ^ (k + 1) : Nat) : Int)).toNat
            rw [Int.toNat_natCast, Int.toNat_natCast]
            exact hlt
    · rintro σ H' Q1 Q2 h ⟨x, hx, y, hy, hs, k, e, z⟩
      exact ⟨x, hx, y, hy, hs, k, e, h _ _ z⟩
/-! the stations -/
def rowV (r : Row3) : List V := [.int (r.1 : Nat), .int (r.2.1 : Nat), .int (r.2.2 : Nat)]
/-- at the places ts stand the rows rs, each a tuple of three -/
def RowsAt (H : Hp) : List Addr → List Row3 → Prop
  | [], [] => True
  | t :: ts, r :: rs => H t = some (.tup (rowV r)) ∧ RowsAt H ts rs
  | _, _ => False
theorem RowsAt.same {H H' : Hp} (s : Same H H') : ∀ {ts : List Addr} {rs : List Row3}, RowsAt H ts rs → RowsAt H' ts rs
  | [], [], h => h
  | _ :: _, _ :: _, h => ⟨s _ _ h.1, h.2.same s⟩
  | [], _ :: _, h => h
  | _ :: _, [], h => h
theorem RowsAt.app {H : Hp} {t : Addr} {r : Row3} : ∀ {ts : List Addr} {rs : List Row3}, RowsAt H ts rs → H t = some (.tup (rowV r)) → RowsAt H (ts ++ [t]) (rs ++ [r])
  | [], [], _, h => ⟨h, trivial⟩
  | _ :: _, _ :: _, h, h2 => ⟨h.1, h.2.app h2⟩
  | [], _ :: _, h, _ => h.elim
  | _ :: _, [], h, _ => h.elim
theorem RowsAt.len {H : Hp} : ∀ {ts : List Addr} {rs : List Row3}, RowsAt H ts rs → ts.length = rs.length
  | [], [], _ => rfl
  | _ :: _, _ :: _, h => congrArg Nat.succ h.2.len
  | [], _ :: _, h => h.elim
  | _ :: _, [], h => h.elim
theorem RowsAt.upd {H : Hp} {p : Addr} {xs : List V} {o : HO} (hp : H p = some (.lst xs)) : ∀ {ts : List Addr} {rs : List Row3}, RowsAt H ts rs → RowsAt (upd H p o) ts rs
  | [], [], h => h
  | t :: _, _ :: _, h => ⟨by rw [upd_ne (ne_of h.1 hp (by intro z; cases z))]; exact h.1, h.2.upd hp⟩
  | [], _ :: _, h => h
  | _ :: _, [], h => h
theorem RowsAt.get {H : Hp} : ∀ {ts : List Addr} {rs : List Row3} {i : Nat} {t : Addr}, RowsAt H ts rs → ts[i]? = some t → ∃ r, rs[i]? = some r ∧ H t = some (.tup (rowV r))
  | t :: _, r :: _, 0, _, h, e => ⟨r, rfl, by cases Option.some.inj e; exact h.1⟩
  | _ :: _, _ :: _, i + 1, _, h, e => h.2.get (i := i) e
  | [], _, _, _, _, e => by simp at e
  | _ :: _, [], _, _, h, _ => h.elim
def spPath : Sp := fun vs H Q _ => ∃ b n d : Nat, vs = [.int b, .int n, .int d] ∧ 2 ≤ b ∧ b ≤ 64 ∧ n < d ∧ d < 2 ^ 250 ∧ ∀ k, IsLev b n d k → ∀ H' p ts, Same H H' → H p = none → H' p = some (.lst (ts.map V.ref)) → RowsAt H' ts (rowsOf b n d k) → Q (.ref p) H'
theorem ok_path {f : Addr} {fd : FuncData} (F : Fun K "path" "path" s_path f fd) (h1 : Has P w K mg base 1 "level_and_size" ["base", "now", "due"] [] spLevel) : FnOk P w K mg base CX0 2 f fd ["base", "now", "due"] spPath := by
  obtain ⟨f_level_and_size, fd_level_and_size, ds_level_and_size, G_level_and_size, m_level_and_size, k_level_and_size, b_level_and_size, v_level_and_size⟩ := h1
  refine F.ok sc_path (fun vs H Q E h => ?_) (fun cdv A outer s H vs Q E hr h => ?_)
  · obtain ⟨b, n, d, rfl, _⟩ := h
    rfl
  · obtain ⟨b, n, d, rfl, hb, hb64, hnd, hd, q⟩ := h
    have cb : ∀ x : Nat, NDiv x b := fun x => ndiv 7 (by omega) (by omega)
    have hb0 : 0 < b := by omega
    refine ⟨_, (pss_cons (ps_asg (pe_call G_level_and_size hr (by rfl) m_level_and_size k_level_and_size b_level_and_size v_level_and_size pass0 (pa_cons (pv 0) (pa_cons (pv 1) (pa_cons (pv 2) pa_nil)))) (pg_tupK (K := K) (n := 2) rfl rfl (pgs_cons (pg_name (i := 3) sc_path.nd rfl (.inl rfl)) (pgs_cons (pg_name (i := 4) sc_path.nd rfl (.inl rfl)) pgs_nil))))
      (pss_cons (ps_set (i := 5) sc_path.nd rfl (.inl rfl) (pe_lst (pa_cons (pe_tup (pa_cons (pv 3) (pa_cons (pe_op op_remN (pe_op op_divN (pv 2) (pv 4)) (pv 0)) (pa_cons (pv 1) pa_nil)))) pa_nil)))
      (pss_cons (ps_while PassesOwn.never (pt_cmpR op_gt (pv 3) pe_int (nomark _))
        (pss_cons (ps_set (i := 6) sc_path.nd rfl (.inl rfl) (pe_op op_mulN (pe_op op_divN (pv 2) (pv 4)) (pv 4)))
        (pss_cons (ps_par (i := 3) (j := 4) (by rfl) sc_path.nd rfl rfl (by decide) rfl rfl (pa_cons (pe_op op_subN (pv 3) pe_int) (pa_cons (pe_op op_divN (pv 4) (pv 0)) pa_nil)) (by rfl))
        (pss_cons (ps_set (i := 7) sc_path.nd rfl (.inl rfl) (pe_op op_remN (pe_op op_divN (pv 2) (pv 4)) (pv 0)))
        (pss_one (ps_if (pt_cmpR op_ne (pv 7) pe_int (nomark _))
          (pss_one (ps_expr (pe_bm PySem.F.plainAttrs_list PySem.F.slot_list_append PySem.F.type_list_append mt_append (pv 5) (pa_cons (pe_tup (pa_cons (pv 3) (pa_cons (pv 7) (pa_cons (pv 6) pa_nil)))) pa_nil))))
          pss_nil))))))
      (pss_one (ps_ret (pv 5)))))), ?_⟩
    refine ⟨_, rfl, _, rfl, _, rfl, b, n, d, rfl, hb, hb64, hnd, hd, fun k hk H0 t0 s0 ht0 eT0 => ?_⟩
    have hkd : ∀ j, j ≤ k → b ^ j ≤ d := fun j hj => Nat.le_trans (Nat.pow_le_pow_right (by omega) hj) (hk.size hb hnd)
    have hk250 : k < 250 := lev_small hk hb hnd hd
    have cs : ∀ j, j ≤ k → ∀ x : Nat, NDiv x (b ^ j) := fun j hj x => ndiv 250 (pow_pos' hb j) (Nat.lt_of_le_of_lt (hkd j hj) hd)
    -- level, size = ..
    refine ⟨t0, _, rfl, .inl (.inl eT0), rfl, _, _, rfl, _, _, rfl, rfl, ?_⟩
    -- rows = [(level, due // size % base, now)]
    refine ⟨_, rfl, _, rfl, _, rfl, _, _, rfl, rfl, cs k (Nat.le_refl k) _, _, rfl, _, _, rfl, rfl, hb0, _, rfl, by simp [sizeLine_eq], fun t1 ht1 => ?_⟩
    have s1 := s0.trans (same_upd (o := .tup (rowV (k, d / b ^ k % b, n))) ht1)
    refine ⟨by simp [sizeLine_eq], fun p hp => ?_⟩
    have s2 := s1.trans (same_upd (o := .lst [.ref t1]) hp)
    have np1 : t1 ≠ p := fun e => by
      rw [← e, upd_same] at hp
      cases hp
    have hpH : H p = none := s1.free hp
    refine while_by (fun σ H' => ∃ (j : Nat) (ts : List Addr) (done : List Row3) (y6 y7 : Option V), σ = [some (.int (b : Int)), some (.int (n : Int)), some (.int (d : Int)), some (.int (j : Int)), some (.int ((b ^ j : Nat) : Int)), some (.ref p), y6, y7] ∧ j ≤ k ∧ ts.length + j ≤ k + 1 ∧ Same H H' ∧ H' p = some (.lst (ts.map V.ref)) ∧ RowsAt H' ts ((k, d / b ^ k % b, n) :: done) ∧ tailOf b d k = done ++ tailOf b d j)
      (fun σ _ => slotInt σ 3) ⟨k, [t1], [], none, none, rfl, Nat.le_refl k, by simp; omega, s2, upd_same, ⟨?_, trivial⟩, rfl⟩ ?_ ?_
    · rw [upd_ne np1, upd_same]
      rfl
    · rintro σ H' ⟨j, ts, done, y6, y7, rfl, hjk, hlen, sm, eL, R, et⟩
      cases j with
      | zero =>
        refine ⟨_, rfl, ((0 : Nat) : Int), 0, rfl, rfl, false, rfl, iteF ?_⟩
        refine ⟨_, rfl, q k hk H' p ts sm hpH eL ?_⟩
        have e : done = tailOf b d k := by
          rw [et]
          exact (List.append_nil done).symm
        rw [e] at R
        exact R
      | succ j =>
        have hj0 : (0 : Int) < ((j + 1 : Nat) : Int) := by omega
        refine ⟨_, rfl, _, _, rfl, rfl, true, congrArg V.bl (decide_eq_true hj0), iteT ?_⟩
        -- tick = due // size * size
        refine ⟨_, rfl, _, rfl, _, _, rfl, rfl, cs (j + 1) hjk _, _, rfl, _, _, rfl, rfl, nmul_w 250 250 (Nat.lt_of_le_of_lt (Nat.div_le_self d _) hd) (Nat.lt_of_le_of_lt (hkd (j + 1) hjk) hd), ?_⟩
        -- level, size = level - 1, size // base
        refine ⟨_, rfl, j + 1, 1, rfl, rfl, Nat.le_add_left 1 j, _, rfl, _, rfl, b ^ (j + 1), b, rfl, rfl, cb _, .int (j : Nat), .int ((b ^ j : Nat) : Int), ?_, ?_⟩
        · show [V.int ((j + 1 - 1 : Nat) : Int), V.int ((b ^ (j + 1) / b : Nat) : Int)] = _
          rw [Nat.pow_succ, Nat.mul_div_cancel _ hb0]
          rfl
        -- digit = due // size % base
        refine ⟨_, rfl, _, rfl, d, b ^ j, rfl, rfl, cs j (by omega) _, _, rfl, _, _, rfl, rfl, hb0, ?_⟩
        have lt : slotInt [some (.int (b : Int)), some (.int (n : Int)), some (.int (d : Int)), some (.int (j : Int)), some (.int ((b ^ j : Nat) : Int)), some (.ref p), some (.int ((d / b ^ (j + 1) * b ^ (j + 1) : Nat) : Int)), some (.int ((d / b ^ j % b : Nat) : Int))] 3 < ((j + 1 : Nat) : Int).toNat := by
          show ((j : Int)).toNat < _
          omega
        by_cases h0 : d / b ^ j % b = 0
        · refine ⟨_, rfl, rfl, false, nF (vE h0), iteF ?_⟩
          · refine ⟨⟨j, ts, done, _, _, rfl, by omega, by omega, sm, eL, R, ?_⟩, lt⟩
            rw [et]
            show done ++ tailOf b d (j + 1) = done ++ tailOf b d j
            have : tailOf b d (j + 1) = tailOf b d j := if_neg (fun z => z h0)
            rw [this]
        · refine ⟨_, rfl, rfl, true, nT (vN (b := 0) h0), iteT ?_⟩
          · -- rows.append((level, digit, tick))
            refine ⟨_, rfl, .inl ⟨rfl, _, .inl (.inl eL)⟩, _, rfl, _, rfl, _, rfl, by simp [sizeLine_eq], fun t2 ht2 => ?_⟩
            have s3 := same_upd (o := .tup (rowV (j, d / b ^ j % b, d / b ^ (j + 1) * b ^ (j + 1)))) ht2
            have npt : t2 ≠ p := fun e => by
              rw [e, eL] at ht2
              cases ht2
            have eL' := s3 _ _ eL
            refine ⟨p, _, _, rfl, rfl, eL', ?_, ?_⟩
            · rw [List.length_map]
              exact sizeLine_ge (by omega)
            · refine ⟨⟨j, ts ++ [t2], done ++ [(j, d / b ^ j % b, d / b ^ (j + 1) * b ^ (j + 1))], _, _, rfl, by omega, ?_, fun c o e => ?_, ?_, ?_, ?_⟩, lt⟩
              · rw [List.length_append, List.length_singleton]
                omega
              · rw [upd_ne (ne_of_none e hpH)]
                exact s3 _ _ (sm _ _ e)
              · rw [upd_same, List.map_append]
                rfl
              · refine RowsAt.upd eL' ?_
                exact RowsAt.app (r := (j, d / b ^ j % b, d / b ^ (j + 1) * b ^ (j + 1))) (rs := (k, d / b ^ k % b, n) :: done) (R.same s3) upd_same
              · rw [et, List.append_assoc]
                show done ++ tailOf b d (j + 1) = done ++ ((j, d / b ^ j % b, d / b ^ (j + 1) * b ^ (j + 1)) :: tailOf b d j)
                have : tailOf b d (j + 1) = (j, d / b ^ j % b, d / b ^ (j + 1) * b ^ (j + 1)) :: tailOf b d j := if_pos h0
                rw [this]
    · rintro σ H' Q1 Q2 h ⟨x, hx, i, j, e1, e2, k, e, z⟩
      exact ⟨x, hx, i, j, e1, e2, k, e, h _ _ z⟩
end
theorem RowsAt.item {H : Hp} {ts : List Addr} {rs : List Row3} (R : RowsAt H ts rs) {i : Nat} {x : V} (hx : (ts.map V.ref)[i]? = some x) : ∃ ti r, x = V.ref ti ∧ ts[i]? = some ti ∧ rs[i]? = some r ∧ H ti = some (.tup (rowV r)) := by
  rw [List.getElem?_map] at hx
  cases e : ts[i]? with
  | none =>
    rw [e] at hx
    cases hx
  | some ti =>
    rw [e] at hx
    obtain ⟨r, hr, er⟩ := R.get e
    exact ⟨ti, r, (Option.some.inj hx).symm, rfl, hr, er⟩
/-! ### words of levels, sides -/
def lvV (b : Bool) : V := if b then .str "stack" else .str "queue"
def sdV (b : Bool) : V := if b then .str "front" else .str "back"
theorem lv_ne : ¬ (V.str "queue" = V.str "stack") := by decide
theorem lv_dec (b : Bool) : decide (lvV b = .str "stack") = b := by
  cases b
  · exact decide_eq_false lv_ne
  · exact decide_eq_true rfl
def wordAt (ws : List Bool) (k : Nat) : Bool := ws.getD (min k (ws.length - 1)) false
theorem word_get {ws : List Bool} (h : ws ≠ []) (k : Nat) : (ws.map lvV)[min k (ws.length - 1)]? = some (lvV (wordAt ws k)) := by
  have hl : min k (ws.length - 1) < ws.length := by
    have : 0 < ws.length := List.length_pos_iff.mpr h
    omega
  rw [List.getElem?_map, List.getElem?_eq_getElem hl]
  unfold wordAt
  rw [List.getD_eq_getElem?_getD, List.getElem?_eq_getElem hl]
  rfl
/-- whether an odd number of the rows, at levels from lo on, have the word stack -/
def frontOf (ws : List Bool) (lo : Nat) (rs : List Row3) : Bool := decide (rs.countP (fun r => decide (lo ≤ r.1) && wordAt ws r.1) % 2 = 1)
theorem odd_succ (c : Nat) : decide ((c + 1) % 2 = 1) = !decide (c % 2 = 1) := by
  by_cases h : c % 2 = 1
  · rw [decide_eq_true h, decide_eq_false (by omega)]
    rfl
  · rw [decide_eq_false h, decide_eq_true (by omega)]
    rfl
theorem front_snoc (ws : List Bool) (lo : Nat) (rs : List Row3) (r : Row3) : frontOf ws lo (rs ++ [r]) = if (decide (lo ≤ r.1) && wordAt ws r.1) = true then !frontOf ws lo rs else frontOf ws lo rs := by
  unfold frontOf
  rw [List.countP_append, List.countP_singleton]
  split
  · exact odd_succ _
  · rw [Nat.add_zero]
section
variable {P : Program} {w : World} {K : PySem.W.Frag} {mg : Str → Option Value} {base : Heap}
def spWordAt (K : PySem.W.Frag) : Sp := fun vs H Q _ => ∃ (q : Addr) (ws : List Bool) (k : Nat), vs = [.ref q, .int (k : Nat)] ∧ SqL K H q (ws.map lvV) ∧ ws ≠ [] ∧ Q (lvV (wordAt ws k)) H
theorem ok_word_at {f : Addr} {fd : FuncData} (F : Fun K "word_at" "word_at" s_word_at f fd) (T : Tx K mg) : FnOk P w K mg base CX0 1 f fd ["levels", "level"] (spWordAt K) := by
  refine F.ok sc_word_at (fun vs H Q E h => ?_) (fun cdv A outer s H vs Q E hr h => ?_)
  · obtain ⟨q, ws, k, rfl, _⟩ := h
    rfl
  · obtain ⟨q, ws, k, rfl, hL, hne, c⟩ := h
    have hp : 0 < ws.length := List.length_pos_iff.mpr hne
    have hpm : 1 ≤ (ws.map lvV).length := by
      rw [List.length_map]
      exact hp
    refine ⟨_, (pss_one (ps_ret (pe_ix (ix_listK (K := K) rfl) (pv 0) (pe_callB (call_min2 rfl) (by rfl) T.b_min (by decide +kernel) (pa_cons (pv 1) (pa_cons (pe_op op_subN (pe_callB (lenK (K := K) rfl) (by rfl) T.b_len PySem.boot_len (pa_cons (pv 0) pa_nil)) pe_int) pa_nil))) (fun _ _ => rfl)))), ?_⟩
    have g := word_get hne k
    refine ⟨.ref q, rfl, _, rfl, .ref q, rfl, q, _, rfl, .inl hL, (ws.map lvV).length, 1, rfl, rfl, hpm, k, _, rfl, q, _, ((min k (ws.length - 1) : Nat) : Int), _, rfl, congrArg V.int ?_, hL, atI_nat g, c⟩
    dsimp only
    rw [List.length_map]
    split <;> omega
def WordsAt (K : PySem.W.Frag) (mg : Str → Option Value) : Prop := ∃ a, mg "WORDS" = some (.ref a) ∧ ∀ H, SqT K H a [.str "stack", .str "queue"]
def MostAt (mg : Str → Option Value) : Prop := ∃ t, mg "MOST_LEVELS" = some (.int 60 t)
def spIsWord : Sp := fun vs H Q _ => ∃ b : Bool, vs = [lvV b] ∧ Q (.bl true) H
theorem ok_is_word {f : Addr} {fd : FuncData} (F : Fun K "is_word" "is_word" s_is_word f fd) (T : Tx K mg) (hW : WordsAt K mg) : FnOk P w K mg base CX0 1 f fd ["given"] spIsWord := by
  obtain ⟨a_WORDS, g_WORDS, sW⟩ := hW
  refine F.ok sc_is_word (fun vs H Q E h => ?_) (fun cdv A outer s H vs Q E hr h => ?_)
  · obtain ⟨b, rfl, _⟩ := h
    rfl
  · obtain ⟨b, rfl, c⟩ := h
    refine ⟨_, (pss_one (ps_ret (pe_and (pe_callB (isiK (K := K) rfl) (by rfl) T.b_isinstance (by decide +kernel) (pa_cons (pv 0) (pa_cons (pe_bltn (v := .ty "str") (u := .type "str") (by rfl) T.b_str (by decide +kernel) rfl) pa_nil))) (pe_one (pe_cmpR op_in_seq (pv 0) (pe_glob (v := .ref a_WORDS) rfl g_WORDS rfl) (by rfl)))))), ?_⟩
    obtain ⟨x, ex, hx⟩ : ∃ x : Str, lvV b = .str x ∧ (if false then !inV (V.str x) [.str "stack", .str "queue"] else inV (V.str x) [.str "stack", .str "queue"]) = true := by
      cases b
      · exact ⟨_, rfl, by decide⟩
      · exact ⟨_, rfl, by decide⟩
    rw [ex]
    refine ⟨.str x, rfl, _, _, _, _, true, rfl, .ty "str", .base (.str x), kit_ty (by decide +kernel), true, rfl, iteT ?_⟩
    refine ⟨.str x, rfl, a_WORDS, _, rfl, .inr (sW _), rfl, rfl, ?_⟩
    rw [hx]
    exact c
def spIsLength : Sp := fun vs H Q _ => ∃ n : Int, vs = [.int n] ∧ 1 ≤ n ∧ n ≤ 60 ∧ Q (.bl true) H
theorem ok_is_length {f : Addr} {fd : FuncData} (F : Fun K "is_length" "is_length" s_is_length f fd) (hM : MostAt mg) (h1 : Has P w K mg base 1 "is_integer" ["given"] [] spIsInt) : FnOk P w K mg base CX0 2 f fd ["given"] spIsLength := by
  obtain ⟨tM, g_MOST_LEVELS⟩ := hM
  obtain ⟨f_is_integer, fd_is_integer, ds_is_integer, G_is_integer, m_is_integer, k_is_integer, b_is_integer, v_is_integer⟩ := h1
  refine F.ok sc_is_length (fun vs H Q E h => ?_) (fun cdv A outer s H vs Q E hr h => ?_)
  · obtain ⟨n, rfl, _⟩ := h
    rfl
  · obtain ⟨n, rfl, l1, l2, q⟩ := h
    refine ⟨_, (pss_one (ps_ret (pe_and (pe_call G_is_integer hr (by rfl) m_is_integer k_is_integer b_is_integer v_is_integer pass0 (pa_cons (pv 0) pa_nil)) (pe_one (pe_chain op_le op_le pe_int (pv 0) (pe_glob (v := .int 60) rfl g_MOST_LEVELS ⟨_, rfl⟩)))))), ?_⟩
    refine ⟨.int n, rfl, n, rfl, true, rfl, iteT ?_⟩
    refine ⟨.int n, rfl, 1, n, rfl, rfl, true, congrArg V.bl (decide_eq_true l1), iteT ?_⟩
    refine ⟨n, 60, rfl, rfl, ?_⟩
    have e : V.bl (decide (n ≤ 60)) = V.bl true := dT l2
    show Q (V.bl (decide (n ≤ 60))) H
    rw [e]
    exact q
def spAreLevels (K : PySem.W.Frag) : Sp := fun vs H Q _ => ∃ (q : Addr) (ws : List Bool), vs = [.ref q] ∧ SqL K H q (ws.map lvV) ∧ ws ≠ [] ∧ ws.length ≤ 60 ∧ ∀ H', Same H H' → Q (.bl true) H'
theorem ok_are_levels {f : Addr} {fd : FuncData} (F : Fun K "are_levels" "are_levels" s_are_levels f fd) (T : Tx K mg) (h0 : Has P w K mg base 2 "is_length" ["given"] [] spIsLength) (h1 : Has P w K mg base 1 "is_word" ["given"] [] spIsWord) : FnOk P w K mg base CX0 3 f fd ["given"] (spAreLevels K) := by
  obtain ⟨f_is_length, fd_is_length, ds_is_length, G_is_length, m_is_length, k_is_length, b_is_length, v_is_length⟩ := h0
  obtain ⟨f_is_word, fd_is_word, ds_is_word, G_is_word, m_is_word, k_is_word, b_is_word, v_is_word⟩ := h1
  refine F.ok sc_are_levels (fun vs H Q E h => ?_) (fun cdv A outer s H vs Q E hr h => ?_)
  · obtain ⟨q, ws, rfl, _⟩ := h
    rfl
  · obtain ⟨q, ws, rfl, hL, hne, h60, c⟩ := h
    have hp : 0 < ws.length := List.length_pos_iff.mpr hne
    refine ⟨_, (pss_cons (ps_if (PW.pt (pw_or (pt_not (pt_val (pe_callB (isiK (K := K) rfl) (by rfl) T.b_isinstance (by decide +kernel) (pa_cons (pv 0) (pa_cons (pe_bltn (v := .ty "list") (u := .type "list") (by rfl) T.b_list (by decide +kernel) rfl) pa_nil))))) (pw_or1 (pt_not (pt_val (pe_call G_is_length hr (by rfl) m_is_length k_is_length b_is_length v_is_length pass0 (pa_cons (pe_callB (lenK (K := K) rfl) (by rfl) T.b_len PySem.boot_len (pa_cons (pv 0) pa_nil)) pa_nil)))))))
        (pss_one (ps_ret pe_bl))
        pss_nil)
      (pss_one (ps_ret (pe_callB (allK (K := K) rfl rfl) (by rfl) T.b_all (by decide +kernel) (pa_cons (pe_lc (own := [("word", 1)]) (g := gName 1) (tt := tYes) rfl sc_are_levels.nd (pi_list (pv 0)) (blkOk_by (own := [("word", 1)]) (N := N_are_levels) (sc := defScope s_are_levels) (by decide +kernel)) (fun _ _ _ _ _ => (pg_name (i := 1) sc_are_levels.nd rfl (.inl rfl))) (fun _ _ _ _ _ => pts_nil) (fun _ _ _ _ _ => (pe_call G_is_word (hr.mono (by decide)) (by rfl) m_is_word k_is_word b_is_word v_is_word pass0 (pa_cons (pv 1) pa_nil)))) pa_nil))))), ?_⟩
    refine ⟨.ref q, rfl, _, _, _, _, true, rfl, .ty "list", tyx_list hL, kit_ty (by decide +kernel), true, rfl, iteF ?_⟩
    refine ⟨.ref q, rfl, q, _, rfl, .inl hL, _, rfl, ?_, ?_, true, rfl, iteF ?_⟩
    · rw [List.length_map]
      omega
    · rw [List.length_map]
      omega
    refine ⟨.ref q, rfl, q, rfl, ⟨_, hL⟩, fun D hD => lc_list (K := K) (a := q) (xs := ws.map lvV) (fun i H' => Same H H' ∧ H' D = some (.lst ((List.replicate i true).map V.bl)))
      ⟨same_upd hD, upd_same⟩ (fun i H' _ ⟨sm, _⟩ => sm.seq hL) ?_ ?_⟩
    · rintro i x H' hx ⟨sm, eD⟩
      obtain ⟨b, rfl⟩ : ∃ b, x = lvV b := by
        rw [List.getElem?_map] at hx
        cases e : ws[i]? with
        | none =>
          rw [e] at hx
          cases hx
        | some b =>
          rw [e] at hx
          exact ⟨b, (Option.some.inj hx).symm⟩
      have hi : i < (ws.map lvV).length := (List.getElem?_eq_some_iff.mp hx).1
      rw [List.length_map] at hi
      refine ⟨rfl, yesT (iteT ?_)⟩
      refine ⟨_, rfl, b, rfl, _, eD, ?_, fun c o e => ?_, ?_⟩
      · rw [List.length_map, List.length_replicate]
        exact sizeLine_ge (by omega)
      · rw [upd_ne (ne_of_none e hD)]
        exact sm _ _ e
      · rw [upd_same, List.replicate_succ', List.map_append]
        rfl
    · rintro H1 ⟨s1, eD⟩
      refine ⟨D, _, rfl, SqL.of eD, ?_⟩
      have ea : (List.replicate (ws.map lvV).length true).all id = true := by
        rw [List.all_replicate]
        simp
      rw [ea]
      exact c H1 s1
def spCheckLevels (K : PySem.W.Frag) : Sp := fun vs H Q _ => ∃ (q : Addr) (ws : List Bool), vs = [.ref q] ∧ SqL K H q (ws.map lvV) ∧ ws ≠ [] ∧ ws.length ≤ 60 ∧ ∀ H', Same H H' → Q .non H'
theorem ok_check_levels {f : Addr} {fd : FuncData} (F : Fun K "check_levels" "check_levels" s_check_levels f fd) (h1 : Has P w K mg base 3 "are_levels" ["given"] [] (spAreLevels K)) : FnOk P w K mg base CX0 4 f fd ["levels"] (spCheckLevels K) := by
  obtain ⟨f_are_levels, fd_are_levels, ds_are_levels, G_are_levels, m_are_levels, k_are_levels, b_are_levels, v_are_levels⟩ := h1
  refine F.ok sc_check_levels (fun vs H Q E h => ?_) (fun cdv A outer s H vs Q E hr h => ?_)
  · obtain ⟨q, ws, rfl, _⟩ := h
    rfl
  · obtain ⟨q, ws, rfl, hL, hne, h60, c⟩ := h
    refine ⟨_, (pss_one (ps_if (pt_not (pt_val (pe_call G_are_levels hr (by rfl) m_are_levels k_are_levels b_are_levels v_are_levels pass0 (pa_cons (pv 0) pa_nil))))
        (pss_one ps_never)
        pss_nil)), ?_⟩
    exact ⟨_, rfl, q, ws, rfl, hL, hne, h60, fun H1 s1 => ⟨true, rfl, iteF (c H1 s1)⟩⟩
def spFront (K : PySem.W.Frag) : Sp := fun vs H Q _ => ∃ (b n d lo : Nat) (q : Addr) (ws : List Bool), vs = [.int (b : Nat), .ref q, .int (n : Nat), .int (d : Nat), .int (lo : Nat)] ∧ 2 ≤ b ∧ b ≤ 64 ∧ n < d ∧ d < 2 ^ 250 ∧ SqL K H q (ws.map lvV) ∧ ws ≠ [] ∧
  ∀ k, IsLev b n d k → ∀ H', Same H H' → Q (.bl (frontOf ws lo (rowsOf b n d k))) H'
theorem ok_goes_in_front {f : Addr} {fd : FuncData} (F : Fun K "goes_in_front" "goes_in_front" s_goes_in_front f fd) (h1 : Has P w K mg base 2 "path" ["base", "now", "due"] [] spPath) (h2 : Has P w K mg base 1 "word_at" ["levels", "level"] [] (spWordAt K)) :
    FnOk P w K mg base CX0 3 f fd ["base", "levels", "now", "due", "lowest"] (spFront K) := by
  obtain ⟨f_path, fd_path, ds_path, G_path, m_path, k_path, b_path, v_path⟩ := h1
  obtain ⟨f_word_at, fd_word_at, ds_word_at, G_word_at, m_word_at, k_word_at, b_word_at, v_word_at⟩ := h2
  refine F.ok sc_goes_in_front (fun vs H Q E h => ?_) (fun cdv A outer s H vs Q E hr h => ?_)
  · obtain ⟨b, n, d, lo, q, ws, rfl, _⟩ := h
    rfl
  · obtain ⟨b, n, d, lo, q, ws, rfl, hb, hb64, hnd, hd, hL, hne, c⟩ := h
    refine ⟨_, (pss_cons (ps_set (i := 5) sc_goes_in_front.nd rfl (.inl rfl) pe_bl)
      (pss_cons (ps_for PassesOwn.never rfl (pi_list (pe_call G_path hr (by rfl) m_path k_path b_path v_path pass0 (pa_cons (pv 0) (pa_cons (pv 2) (pa_cons (pv 3) pa_nil))))) (pg_tupK (K := K) (n := 3) rfl rfl (pgs_cons (pg_name (i := 6) sc_goes_in_front.nd rfl (.inl rfl)) (pgs_cons (pg_name (i := 7) sc_goes_in_front.nd rfl (.inl rfl)) (pgs_cons (pg_name (i := 8) sc_goes_in_front.nd rfl (.inl rfl)) pgs_nil))))
        (pss_one (ps_if (PW.pt (pw_and (pt_cmpR op_ge (pv 6) (pv 4) (nomark _)) (pw_and1 (pt_cmpR op_eq (pe_call G_word_at (hr.mono (by decide)) (by rfl) m_word_at k_word_at b_word_at v_word_at pass0 (pa_cons (pv 1) (pa_cons (pv 6) pa_nil))) pe_str (nomark _)))))
          (pss_one (ps_set (i := 5) sc_goes_in_front.nd rfl (.inl rfl) (pe_not (pv 5))))
          pss_nil)))
      (pss_one (ps_ret (pv 5))))), ?_⟩
    refine ⟨_, rfl, _, rfl, _, rfl, b, n, d, rfl, hb, hb64, hnd, hd, fun k hk H1 p ts s1 hp0 hp R => ?_⟩
    refine ⟨p, rfl, ⟨_, SqL.of hp⟩, for_list (K := K) (a := p) (xs := ts.map V.ref) (fun i σ H' => ∃ y6 y7 y8, σ = [some (.int (b : Nat)), some (.ref q), some (.int (n : Nat)), some (.int (d : Nat)), some (.int (lo : Nat)), some (.bl (frontOf ws lo ((rowsOf b n d k).take i))), y6, y7, y8] ∧ H' = H1)
      ⟨none, none, none, rfl, rfl⟩ (fun i σ H' _ ⟨_, _, _, _, e⟩ => by rw [e]; exact SqL.of hp) ?_ ?_⟩
    · rintro i x σ H' hx ⟨y6, y7, y8, rfl, rfl⟩
      obtain ⟨ti, r, rfl, hti, hr, er⟩ := R.item hx
      have hstep : frontOf ws lo ((rowsOf b n d k).take (i + 1)) = if (decide (lo ≤ r.1) && wordAt ws r.1) = true then !frontOf ws lo ((rowsOf b n d k).take i) else frontOf ws lo ((rowsOf b n d k).take i) := by
        rw [List.take_add_one, hr]
        exact front_snoc ws lo _ r
      refine ⟨ti, _, rfl, .inl (.inl er), rfl, _, _, rfl, _, _, rfl, _, _, rfl, rfl, ?_⟩
      have hL1 := s1.seq hL
      by_cases hlo : lo ≤ r.1
      · refine ⟨_, rfl, _, rfl, _, _, rfl, rfl, true, dT (by omega), iteT ?_⟩
        refine ⟨_, rfl, _, rfl, q, ws, r.1, rfl, hL1, hne, ?_, wordAt ws r.1, congrArg V.bl (lv_dec _), ?_⟩
        · cases wordAt ws r.1 <;> rfl
        cases hw : wordAt ws r.1 with
        | true =>
          refine iteT ⟨_, rfl, _, rfl, ⟨some (.int (r.1 : Nat)), some (.int (r.2.1 : Nat)), some (.int (r.2.2 : Nat)), ?_, rfl⟩⟩
          rw [hstep, hw, decide_eq_true hlo]
          rfl
        | false =>
          refine iteF ⟨some (.int (r.1 : Nat)), some (.int (r.2.1 : Nat)), some (.int (r.2.2 : Nat)), ?_, rfl⟩
          rw [hstep, hw, decide_eq_true hlo]
          rfl
      · refine ⟨_, rfl, _, rfl, _, _, rfl, rfl, false, dF (by omega), iteF (iteF ⟨some (.int (r.1 : Nat)), some (.int (r.2.1 : Nat)), some (.int (r.2.2 : Nat)), ?_, rfl⟩)⟩
        rw [hstep, decide_eq_false hlo]
        rfl
    · rintro σ H' ⟨y6, y7, y8, rfl, rfl⟩
      have e : (rowsOf b n d k).take (ts.map V.ref).length = rowsOf b n d k := by
        refine List.take_of_length_le ?_
        rw [List.length_map]
        exact Nat.le_of_eq R.len.symm
      rw [e]
      exact ⟨_, rfl, c k hk _ s1⟩
end
/-! ### the wheel as plain data -/
structure Tm where
  num : Nat
  due : Nat
  per : Option Nat
  since : Nat
def perV : Option Nat → V
  | none => .non
  | some k => .int (k : Nat)
def tmV (m : Tm) : List V := [.int (m.due : Nat), perV m.per, .int (m.since : Nat)]
open Classical in
noncomputable def sideT (b : Nat) (ws : List Bool) (n d lo : Nat) : Bool := if h : ∃ k, IsLev b n d k then frontOf ws lo (rowsOf b n d (Classical.choose h)) else false
theorem sideT_eq {b : Nat} {ws : List Bool} {n d lo k : Nat} (h : IsLev b n d k) : sideT b ws n d lo = frontOf ws lo (rowsOf b n d k) := by
  have e : ∃ k, IsLev b n d k := ⟨k, h⟩
  unfold sideT
  rw [dif_pos e, (Classical.choose_spec e).uniq h]
def insT (front : Bool) (n : Nat) (l : List Nat) : List Nat := if front then n :: l else l ++ [n]
noncomputable def orderAt (b : Nat) (ws : List Bool) (t : Nat) (ms : List Tm) : List Nat := ms.foldl (fun acc m => if m.due = t then insT (sideT b ws m.since m.due 0) m.num acc else acc) []
theorem order_snoc (b : Nat) (ws : List Bool) (t : Nat) (ms : List Tm) (m : Tm) : orderAt b ws t (ms ++ [m]) = if m.due = t then insT (sideT b ws m.since m.due 0) m.num (orderAt b ws t ms) else orderAt b ws t ms := by
  unfold orderAt
  rw [List.foldl_append]
  rfl
theorem insT_len (f : Bool) (n : Nat) (l : List Nat) : (insT f n l).length = l.length + 1 := by
  unfold insT
  split
  · rfl
  · rw [List.length_append]
    rfl
theorem insT_mem {f : Bool} {n x : Nat} {l : List Nat} : x ∈ insT f n l ↔ x = n ∨ x ∈ l := by
  unfold insT
  split
  · rw [List.mem_cons]
  · rw [List.mem_append, List.mem_singleton]
    exact Or.comm
theorem order_spec (b : Nat) (ws : List Bool) (t : Nat) (ms : List Tm) : ∀ n : Nat, (orderAt b ws t (ms.take n)).length = ((ms.take n).filter fun m => decide (m.due = t)).length ∧ ∀ x, x ∈ orderAt b ws t (ms.take n) ↔ ∃ m ∈ ms.take n, m.due = t ∧ m.num = x := by
  intro n
  induction n with
  | zero =>
    refine ⟨rfl, fun x => ?_⟩
    simp [orderAt]
  | succ n ih =>
    cases e : ms[n]? with
    | none =>
      have hl : ms.length ≤ n := List.getElem?_eq_none_iff.mp e
      rw [List.take_of_length_le (by omega)]
      rw [List.take_of_length_le hl] at ih
      exact ih
    | some m =>
      rw [List.take_add_one, e]
      show (orderAt b ws t (ms.take n ++ [m])).length = _ ∧ ∀ x, x ∈ orderAt b ws t (ms.take n ++ [m]) ↔ ∃ m' ∈ ms.take n ++ [m], _
      rw [order_snoc]
      rw [Option.toList_some, List.filter_append, List.length_append]
      by_cases h : m.due = t
      · rw [if_pos h, insT_len, ih.1]
        refine ⟨by simp [h], fun x => ?_⟩
        rw [insT_mem, ih.2 x]
        constructor
        · rintro (e | ⟨m', h1, h2⟩)
          · exact ⟨m, by simp, h, e.symm⟩
          · exact ⟨m', List.mem_append_left _ h1, h2⟩
        · rintro ⟨m', h1, h2, h3⟩
          rcases List.mem_append.mp h1 with h1 | h1
          · exact .inr ⟨m', h1, h2, h3⟩
          · rw [List.mem_singleton.mp h1] at h3
            exact .inl h3.symm
      · rw [if_neg h, ih.1]
        refine ⟨by simp [h], fun x => ?_⟩
        rw [ih.2 x]
        constructor
        · rintro ⟨m', h1, h2⟩
          exact ⟨m', List.mem_append_left _ h1, h2⟩
        · rintro ⟨m', h1, h2, h3⟩
          rcases List.mem_append.mp h1 with h1 | h1
          · exact ⟨m', h1, h2, h3⟩
          · rw [List.mem_singleton.mp h1] at h2
            exact absurd h2 h
theorem order_len (b : Nat) (ws : List Bool) (t : Nat) (ms : List Tm) : (orderAt b ws t ms).length = (ms.filter fun m => decide (m.due = t)).length := by
  have z := (order_spec b ws t ms ms.length).1
  rw [List.take_length] at z
  exact z
theorem order_mem {b : Nat} {ws : List Bool} {t : Nat} {ms : List Tm} {x : Nat} : x ∈ orderAt b ws t ms ↔ ∃ m ∈ ms, m.due = t ∧ m.num = x := by
  have z := (order_spec b ws t ms ms.length).2 x
  rw [List.take_length] at z
  exact z
def dropT (n : Nat) (ms : List Tm) : List Tm := ms.filter fun m => decide (m.num ≠ n)
/-- a timer fires: it goes, and comes back at the end if it has a period -/
def fireT (t : Nat) (ms : List Tm) (n : Nat) : List Tm := match ms.find? fun m => decide (m.num = n) with
  | none => ms
  | some m => match m.per with
    | none => dropT n ms
    | some k => dropT n ms ++ [⟨n, t + k, some k, t⟩]
def afterF (t : Nat) (ms : List Tm) (ns : List Nat) : List Tm := ns.foldl (fireT t) ms
def leastD (ms : List Tm) : Option Nat := (ms.map (·.due)).min?
theorem least_none {ms : List Tm} : leastD ms = none ↔ ms = [] := by
  unfold leastD
  rw [List.min?_eq_none_iff, List.map_eq_nil_iff]
theorem least_some {ms : List Tm} {v : Nat} : leastD ms = some v ↔ v ∈ ms.map (·.due) ∧ ∀ x ∈ ms.map (·.due), v ≤ x := by
  unfold leastD
  exact List.min?_eq_some_iff
structure WS where
  b : Nat
  ws : List Bool
  tick : Nat
  fol : Nat
  live : List Tm
/-- live timers as they may stand at a tick -/
structure TOk (tick fol : Nat) (m : Tm) : Prop where
  since : m.since ≤ tick
  due : tick < m.due
  big : m.due < 2 ^ 250
  num : m.num < fol
  per : ∀ k, m.per = some k → 1 ≤ k
structure WOk (W : WS) : Prop where
  b2 : 2 ≤ W.b
  b64 : W.b ≤ 64
  ne : W.ws ≠ []
  l60 : W.ws.length ≤ 60
  tms : ∀ m ∈ W.live, TOk W.tick W.fol m
  nd : (W.live.map (·.num)).Nodup
  few : W.live.length ≤ 1000
/-- what an advance to t lets fire, step by step -/
inductive AdvTo (b : Nat) (ws : List Bool) (t : Nat) : List Tm → List (Nat × List Nat) → List Tm → Prop where
  | done {ms : List Tm} (h : ∀ m ∈ ms, t < m.due) : AdvTo b ws t ms [] ms
  | step {ms ms' : List Tm} {at_ : Nat} {rest : List (Nat × List Nat)} (h : leastD ms = some at_) (hle : at_ ≤ t) (ok : ∀ m ∈ ms, m.since < m.due ∧ m.due < 2 ^ 250) (nd : (ms.map (·.num)).Nodup) (few : ms.length ≤ 1000)
    (r : AdvTo b ws t (afterF at_ ms (orderAt b ws at_ ms)) rest ms') : AdvTo b ws t ms ((at_, orderAt b ws at_ ms) :: rest) ms'
open Classical in
/-- the tick at which a timer leaves the list in which it stands at n -/
noncomputable def evT (b n d : Nat) : Nat := if h : ∃ k, IsLev b n d k then d / b ^ Classical.choose h * b ^ Classical.choose h else 0
theorem evT_eq {b n d k : Nat} (h : IsLev b n d k) : evT b n d = d / b ^ k * b ^ k := by
  have e : ∃ k, IsLev b n d k := ⟨k, h⟩
  unfold evT
  rw [dif_pos e, (Classical.choose_spec e).uniq h]
noncomputable def nextE (b n : Nat) (ms : List Tm) : Option Nat := (ms.map fun m => evT b n m.due).min?
def total (fs : List (Nat × List Nat)) : Nat := (fs.map fun f => f.2.length).sum
theorem order_pos {b : Nat} {ws : List Bool} {t : Nat} {ms : List Tm} (h : leastD ms = some t) : 0 < (orderAt b ws t ms).length := by
  obtain ⟨m, hm, e⟩ := List.mem_map.mp (least_some.mp h).1
  have z : m.num ∈ orderAt b ws t ms := order_mem.mpr ⟨m, hm, e, rfl⟩
  exact List.length_pos_of_mem z
theorem insT_nodup {f : Bool} {n : Nat} {l : List Nat} (h : l.Nodup) (hn : n ∉ l) : (insT f n l).Nodup := by
  unfold insT
  split
  · exact List.nodup_cons.mpr ⟨hn, h⟩
  · exact L2.nd_snoc h hn
theorem order_nodup {b : Nat} {ws : List Bool} {t : Nat} {ms : List Tm} (nd : (ms.map (·.num)).Nodup) : (orderAt b ws t ms).Nodup := by
  suffices H : ∀ n : Nat, (orderAt b ws t (ms.take n)).Nodup by
    have z := H ms.length
    rw [List.take_length] at z
    exact z
  intro n
  induction n with
  | zero => exact List.nodup_nil
  | succ n ih =>
    cases e : ms[n]? with
    | none =>
      have hl : ms.length ≤ n := List.getElem?_eq_none_iff.mp e
      rw [List.take_of_length_le (by omega)]
      rw [List.take_of_length_le hl] at ih
      exact ih
    | some m =>
      rw [List.take_add_one, e]
      show (orderAt b ws t (ms.take n ++ [m])).Nodup
      rw [order_snoc]
      split
      · refine insT_nodup ih fun hm => ?_
        obtain ⟨m', h1, _, h3⟩ := order_mem.mp hm
        obtain ⟨i, hi⟩ := List.getElem?_of_mem h1
        rw [List.getElem?_take] at hi
        split at hi
        · rename_i hlt
          have a1 : (ms.map (·.num))[i]? = some m.num := by rw [List.getElem?_map, hi, ← h3]; rfl
          have a2 : (ms.map (·.num))[n]? = some m.num := by rw [List.getElem?_map, e]; rfl
          have z := (List.getElem?_inj (List.getElem?_eq_some_iff.mp a1).1 nd).mp (a1.trans a2.symm)
          omega
        · cases hi
      · exact ih
/-! ### the dict of live timers -/
def LiveK (H : Hp) : List (Key × V) → List Tm → Prop
  | [], [] => True
  | kv :: kvs, m :: ms => kv.1 = Sum.inl (m.num : Int) ∧ (∃ t, kv.2 = .ref t ∧ H t = some (.tup (tmV m))) ∧ LiveK H kvs ms
  | _, _ => False
theorem LiveK.frame {H H' : Hp} (s : ∀ t m, H t = some (.tup (tmV m)) → H' t = some (.tup (tmV m))) : ∀ {kvs : List (Key × V)} {ms : List Tm}, LiveK H kvs ms → LiveK H' kvs ms
  | [], [], _ => trivial
  | _ :: _, _ :: _, ⟨h1, ⟨t, h2, h3⟩, h4⟩ => ⟨h1, ⟨t, h2, s _ _ h3⟩, h4.frame s⟩
  | [], _ :: _, h => h.elim
  | _ :: _, [], h => h.elim
theorem LiveK.same {H H' : Hp} (s : Same H H') {kvs : List (Key × V)} {ms : List Tm} (h : LiveK H kvs ms) : LiveK H' kvs ms := h.frame fun _ _ e => s _ _ e
/-- a place that holds no tuple may change -/
theorem LiveK.upd {H : Hp} {l : Addr} {o o' : HO} (hl : H l = some o) (hn : ∀ xs, o ≠ .tup xs) {kvs : List (Key × V)} {ms : List Tm} (h : LiveK H kvs ms) : LiveK (upd H l o') kvs ms := h.frame fun t m e => by
  rw [upd_ne fun z => ?_]
  · exact e
  · rw [z, hl] at e
    exact hn _ (Option.some.inj e)
theorem LiveK.len {H : Hp} : ∀ {kvs : List (Key × V)} {ms : List Tm}, LiveK H kvs ms → kvs.length = ms.length
  | [], [], _ => rfl
  | _ :: _, _ :: _, h => congrArg Nat.succ h.2.2.len
  | [], _ :: _, h => h.elim
  | _ :: _, [], h => h.elim
theorem LiveK.keys {H : Hp} : ∀ {kvs : List (Key × V)} {ms : List Tm}, LiveK H kvs ms → kvs.map (·.1) = ms.map fun m => Sum.inl (m.num : Int)
  | [], [], _ => rfl
  | kv :: kvs, m :: ms, h => by
    rw [List.map_cons, List.map_cons, h.1, h.2.2.keys]
  | [], _ :: _, h => h.elim
  | _ :: _, [], h => h.elim
theorem LiveK.get {H : Hp} : ∀ {kvs : List (Key × V)} {ms : List Tm} {i : Nat} {k : Key} {v : V}, LiveK H kvs ms → kvs[i]? = some (k, v) → ∃ m t, ms[i]? = some m ∧ k = Sum.inl (m.num : Int) ∧ v = .ref t ∧ H t = some (.tup (tmV m))
  | kv :: _, m :: _, 0, k, v, ⟨h1, ⟨t, h2, h3⟩, _⟩, e => by
    cases Option.some.inj e
    exact ⟨m, t, rfl, h1, h2, h3⟩
  | _ :: _, _ :: _, i + 1, _, _, h, e => h.2.2.get (i := i) e
  | [], _, _, _, _, _, e => by simp at e
  | _ :: _, [], _, _, _, h, _ => h.elim
theorem LiveK.snoc {H : Hp} {k : Key} {t : Addr} {m : Tm} : ∀ {kvs : List (Key × V)} {ms : List Tm}, LiveK H kvs ms → k = Sum.inl (m.num : Int) → H t = some (.tup (tmV m)) → LiveK H (kvs ++ [(k, .ref t)]) (ms ++ [m])
  | [], [], _, h1, h2 => ⟨h1, ⟨t, rfl, h2⟩, trivial⟩
  | _ :: _, _ :: _, h, h1, h2 => ⟨h.1, h.2.1, h.2.2.snoc h1 h2⟩
  | [], _ :: _, h, _, _ => h.elim
  | _ :: _, [], h, _, _ => h.elim
theorem inl_num {a b : Nat} : (Sum.inl (a : Int) : Key) = Sum.inl (b : Int) ↔ a = b := ⟨fun e => Int.ofNat.inj (Sum.inl.inj e), fun e => by rw [e]⟩
theorem LiveK.drop {H : Hp} {n : Nat} : ∀ {kvs : List (Key × V)} {ms : List Tm}, LiveK H kvs ms → LiveK H (dropK kvs (Sum.inl (n : Int))) (dropT n ms)
  | [], [], _ => trivial
  | kv :: kvs, m :: ms, h => by
    by_cases e : m.num = n
    · have e1 : kv.1 = (Sum.inl (n : Int) : Key) := by rw [h.1, e]
      have e2 : dropT n (m :: ms) = dropT n ms := by
        unfold dropT
        rw [List.filter_cons, if_neg (by simp [e])]
      rw [dropK_pos e1, e2]
      exact h.2.2.drop
    · have e1 : ¬ kv.1 = (Sum.inl (n : Int) : Key) := by
        rw [h.1]
        exact fun z => e (inl_num.mp z)
      have e2 : dropT n (m :: ms) = m :: dropT n ms := by
        unfold dropT
        rw [List.filter_cons, if_pos (by simp [e])]
      rw [dropK_neg e1, e2]
      exact ⟨h.1, h.2.1, h.2.2.drop⟩
  | [], _ :: _, h => h.elim
  | _ :: _, [], h => h.elim
theorem LiveK.val {H : Hp} {n : Nat} : ∀ {kvs : List (Key × V)} {ms : List Tm}, LiveK H kvs ms → match ms.find? fun m => decide (m.num = n) with
    | none => valV kvs (Sum.inl (n : Int)) = none
    | some m => ∃ t, valV kvs (Sum.inl (n : Int)) = some (.ref t) ∧ H t = some (.tup (tmV m))
  | [], [], _ => rfl
  | kv :: kvs, m :: ms, h => by
    by_cases e : m.num = n
    · have e1 : kv.1 = (Sum.inl (n : Int) : Key) := by rw [h.1, e]
      rw [List.find?_cons_of_pos (by simpa using e), valV_pos e1]
      obtain ⟨t, h2, h3⟩ := h.2.1
      exact ⟨t, by rw [h2], h3⟩
    · have e1 : ¬ kv.1 = (Sum.inl (n : Int) : Key) := by
        rw [h.1]
        exact fun z => e (inl_num.mp z)
      rw [List.find?_cons_of_neg (by simpa using e), valV_neg e1]
      exact h.2.2.val
  | [], _ :: _, h => h.elim
  | _ :: _, [], h => h.elim
theorem find_of {ms : List Tm} {m : Tm} (nd : (ms.map (·.num)).Nodup) (h : m ∈ ms) : ms.find? (fun x => decide (x.num = m.num)) = some m := by
  induction ms with
  | nil => cases h
  | cons a r ih =>
    rw [List.map_cons, List.nodup_cons] at nd
    rcases List.mem_cons.mp h with e | h
    · rw [e]
      exact List.find?_cons_of_pos (by simp)
    · have hne : ¬ a.num = m.num := fun e => nd.1 (by rw [e]; exact List.mem_map_of_mem h)
      rw [List.find?_cons_of_neg (by simpa using hne)]
      exact ih nd.2 h
theorem LiveK.val_of {H : Hp} {kvs : List (Key × V)} {ms : List Tm} {m : Tm} (h : LiveK H kvs ms) (nd : (ms.map (·.num)).Nodup) (hm : m ∈ ms) : ∃ t, valV kvs (Sum.inl (m.num : Int)) = some (.ref t) ∧ H t = some (.tup (tmV m)) := by
  have z := h.val (n := m.num)
  rw [find_of nd hm] at z
  exact z
theorem LiveK.val_not {H : Hp} {kvs : List (Key × V)} {ms : List Tm} {n : Nat} (h : LiveK H kvs ms) (hn : ∀ m ∈ ms, m.num ≠ n) : valV kvs (Sum.inl (n : Int)) = none := by
  have z := h.val (n := n)
  rw [List.find?_eq_none.mpr (fun m hm => by simpa using hn m hm)] at z
  exact z
theorem unlock {H H1 : Hp} {l : Addr} {u : HO} {od : Obj} (h : H l = some u) (s : Same (upd H l (.frz od u)) H1) : Same H (upd H1 l u) := fun c o e => by
  by_cases z : c = l
  · rw [z] at e ⊢
    rw [upd_same]
    exact h.symm.trans e
  · rw [upd_ne z]
    exact s c o (by rw [upd_ne z]; exact e)
theorem lock_same {H : Hp} {l : Addr} {u : HO} {o' : HO} {c : Addr} {o : HO} (h : H l = some u) (e : H c = some o) (hn : u ≠ o) : upd H l o' c = some o := by
  rw [upd_ne fun z => hn (by rw [z, h] at e; exact Option.some.inj e)]
  exact e
theorem sq_lock {K : PySem.W.Frag} {H : Hp} {l q : Addr} {kvs : List (Key × V)} {o' : HO} {xs : List V} (h : H l = some (.dK kvs)) (hq : SqL K H q xs) : SqL K (upd H l o') q xs := by
  rcases hq with (e | ⟨o, e⟩) | e
  · exact .inl (.inl (lock_same h e (by intro z; cases z)))
  · exact .inl (.inr ⟨o, lock_same h e (by intro z; cases z)⟩)
  · exact .inr e
/-- a loop over d.items() -/
theorem for_items {d : Addr} {o : Obj} {kvs : List (Key × V)} {g : TG} {tb : TS} {D : Ends} {σ : L2.St} {H : Hp} (Pv : Nat → L2.St → Hp → Prop) (h0 : Pv 0 σ H) (hq : ∀ i σ H, Pv i σ H → H d = some (.frz o (.dK kvs)))
    (hs : ∀ (i : Nat) (k : Key) (v : V) (T : Addr) (σ : L2.St) (H : Hp), kvs[i]? = some (k, v) → Pv i σ H → H T = none → g (.ref T) σ (upd H T (.tup [kV k, v])) fun σ2 H2 => tb { D with nx := Pv (i + 1), ct := Pv (i + 1), bk := D.nx } σ2 H2) (hd : ∀ σ H, Pv kvs.length σ H → D.nx σ H) :
    ∃ W : Nat → Nat → L2.St → Hp → Prop, (∃ m, W 0 m σ H) ∧ ∀ i m σ H, W i m σ H →
      ((Iti d o kvs).stop i H ∧ D.nx σ H) ∨ ((Iti d o kvs).go i H ∧ ∃ N : L2.St → Hp → Prop, (∀ σ' H', N σ' H' → ∃ m', m' < m ∧ W (i + 1) m' σ' H') ∧ ∀ v H', (Iti d o kvs).yld i H v H' → g v σ H' fun σ2 H2 => tb { D with nx := N, ct := N, bk := D.nx } σ2 H2) := by
  refine ⟨fun i m σ H => m = kvs.length - i ∧ i ≤ kvs.length ∧ Pv i σ H, ⟨kvs.length, rfl, Nat.zero_le _, h0⟩, ?_⟩
  rintro i m σ H ⟨rfl, hi, p⟩
  have qx := hq i σ H p
  by_cases hlt : i < kvs.length
  · refine .inr ⟨⟨qx, hlt⟩, Pv (i + 1), fun σ' H' p' => ⟨kvs.length - (i + 1), by omega, rfl, hlt, p'⟩, fun x H' y => ?_⟩
    obtain ⟨T, k, v, e, rfl, nT, rfl⟩ := y
    exact hs i k v T σ H e p nT
  · have e : i = kvs.length := by omega
    subst e
    exact .inl ⟨⟨qx, Nat.le_refl _⟩, hd σ H p⟩
/-- a loop over d.values() -/
theorem for_values {d : Addr} {o : Obj} {kvs : List (Key × V)} {g : TG} {tb : TS} {D : Ends} {σ : L2.St} {H : Hp} (Pv : Nat → L2.St → Hp → Prop) (h0 : Pv 0 σ H) (hq : ∀ i σ H, Pv i σ H → H d = some (.frz o (.dK kvs)))
    (hs : ∀ (i : Nat) (k : Key) (v : V) (σ : L2.St) (H : Hp), kvs[i]? = some (k, v) → Pv i σ H → g v σ H fun σ2 H2 => tb { D with nx := Pv (i + 1), ct := Pv (i + 1), bk := D.nx } σ2 H2) (hd : ∀ σ H, Pv kvs.length σ H → D.nx σ H) :
    ∃ W : Nat → Nat → L2.St → Hp → Prop, (∃ m, W 0 m σ H) ∧ ∀ i m σ H, W i m σ H →
      ((Itd d o kvs).stop i H ∧ D.nx σ H) ∨ ((Itd d o kvs).go i H ∧ ∃ N : L2.St → Hp → Prop, (∀ σ' H', N σ' H' → ∃ m', m' < m ∧ W (i + 1) m' σ' H') ∧ ∀ v H', (Itd d o kvs).yld i H v H' → g v σ H' fun σ2 H2 => tb { D with nx := N, ct := N, bk := D.nx } σ2 H2) := by
  refine ⟨fun i m σ H => m = kvs.length - i ∧ i ≤ kvs.length ∧ Pv i σ H, ⟨kvs.length, rfl, Nat.zero_le _, h0⟩, ?_⟩
  rintro i m σ H ⟨rfl, hi, p⟩
  have qx := hq i σ H p
  by_cases hlt : i < kvs.length
  · refine .inr ⟨⟨qx, hlt⟩, Pv (i + 1), fun σ' H' p' => ⟨kvs.length - (i + 1), by omega, rfl, hlt, p'⟩, fun x H' y => ?_⟩
    obtain ⟨rfl, k, e⟩ := y
    exact hs i k x σ H' e p
  · have e : i = kvs.length := by omega
    subst e
    exact .inl ⟨⟨qx, Nat.le_refl _⟩, hd σ H p⟩
/-- a comprehension over d.values() -/
theorem lc_values {d : Addr} {o : Obj} {kvs : List (Key × V)} {g : TG} {tt : TT} {te : TE} {vs : List Nat} {σ : L2.St} {H1 : Hp} {D : Addr} {Qd : Hp → Prop} (Pv : Nat → Hp → Prop) (h0 : Pv 0 (upd H1 D (.lst []))) (hq : ∀ i H, Pv i H → H d = some (.frz o (.dK kvs)))
    (hs : ∀ i k x H, kvs[i]? = some (k, x) → Pv i H → g x (wipe σ vs) H fun σ2 H2 => wipe σ2 vs = wipe σ vs ∧ tt σ2 H2 fun b H3 =>
      if b = true then te σ2 H3 fun y H4 => ∃ acc, H4 D = some (.lst acc) ∧ acc.length < sizeLine ∧ Pv (i + 1) (upd H4 D (.lst (acc ++ [y]))) else Pv (i + 1) H3) (hd : ∀ H, Pv kvs.length H → Qd H) :
    ∃ W : Nat → Nat → Hp → Prop, (∃ m, W 0 m (upd H1 D (.lst []))) ∧ ∀ i m H, W i m H →
      ((Itd d o kvs).stop i H ∧ Qd H) ∨ ((Itd d o kvs).go i H ∧ ∃ Nx : Hp → Prop, (∀ H', Nx H' → ∃ m', m' < m ∧ W (i + 1) m' H') ∧ ∀ x H', (Itd d o kvs).yld i H x H' → g x (wipe σ vs) H' fun σ2 H2 => wipe σ2 vs = wipe σ vs ∧ tt σ2 H2 fun b H3 =>
        if b = true then te σ2 H3 fun y H4 => ∃ acc, H4 D = some (.lst acc) ∧ acc.length < sizeLine ∧ Nx (upd H4 D (.lst (acc ++ [y]))) else Nx H3) := by
  refine ⟨fun i m H => m = kvs.length - i ∧ i ≤ kvs.length ∧ Pv i H, ⟨kvs.length, rfl, Nat.zero_le _, h0⟩, ?_⟩
  rintro i m H ⟨rfl, hi, p⟩
  have qx := hq i H p
  by_cases hlt : i < kvs.length
  · refine .inr ⟨⟨qx, hlt⟩, Pv (i + 1), fun H' p' => ⟨kvs.length - (i + 1), by omega, rfl, hlt, p'⟩, fun x H' y => ?_⟩
    obtain ⟨rfl, k, e⟩ := y
    exact hs i k x H' e p
  · have e : i = kvs.length := by omega
    subst e
    exact .inl ⟨⟨qx, Nat.le_refl _⟩, hd H p⟩
section
variable {P : Program} {w : World} {K : PySem.W.Frag} {mg : Str → Option Value} {base : Heap}
def spLeast : Sp := fun vs H Q _ => ∃ (l : Addr) (kvs : List (Key × V)) (ms : List Tm), vs = [.ref l] ∧ H l = some (.dK kvs) ∧ LiveK H kvs ms ∧ ms.length ≤ 1000 ∧ ∀ H', Same H H' → Q (perV (leastD ms)) H'
theorem min_least {ms : List Tm} {Q : V → Prop} (q : Q (perV (leastD ms))) : (ms.map (fun m => (m.due : Int)) = [] → Q .non) ∧ ∀ v ∈ ms.map (fun m => (m.due : Int)), (∀ x ∈ ms.map (fun m => (m.due : Int)), v ≤ x) → Q (.int v) := by
  refine ⟨fun e => ?_, fun v hv hx => ?_⟩
  · rw [least_none.mpr (List.map_eq_nil_iff.mp e)] at q
    exact q
  · obtain ⟨m, hm, rfl⟩ := List.mem_map.mp hv
    have e : leastD ms = some m.due := least_some.mpr ⟨List.mem_map_of_mem hm, fun x h => by
      obtain ⟨m', hm', rfl⟩ := List.mem_map.mp h
      exact Int.ofNat_le.mp (hx _ (List.mem_map_of_mem hm'))⟩
    rw [e] at q
    exact q
theorem ok_least_due {f : Addr} {fd : FuncData} (F : Fun K "least_due" "least_due" s_least_due f fd) (T : Tx K mg) : FnOk P w K mg base CX0 1 f fd ["live"] spLeast := by
  refine F.ok sc_least_due (fun vs H Q E h => ?_) (fun cdv A outer s H vs Q E hr h => ?_)
  · obtain ⟨l, kvs, ms, rfl, _⟩ := h
    rfl
  · obtain ⟨l, kvs, ms, rfl, hl, L, few, q⟩ := h
    refine ⟨_, (pss_one (ps_ret (pe_callBK (minDef (K := K) rfl rfl hr.units) (by rfl) T.b_min (by decide +kernel) (pa_cons (pe_lock (pe_lc (own := [("due", 1), ("period", 2), ("since", 3)]) (g := _) (tt := tYes) rfl sc_least_due.nd (pi_values (pv 0)) (blkOk_by (own := [("due", 1), ("period", 2), ("since", 3)]) (N := N_least_due) (sc := defScope s_least_due) (by decide +kernel)) (fun _ _ _ _ _ => (pg_tupK (K := K) (n := 3) rfl rfl (pgs_cons (pg_name (i := 1) sc_least_due.nd rfl (.inl rfl)) (pgs_cons (pg_name (i := 2) sc_least_due.nd rfl (.inl rfl)) (pgs_cons (pg_name (i := 3) sc_least_due.nd rfl (.inl rfl)) pgs_nil))))) (fun _ _ _ _ _ => pts_nil) (fun _ _ _ _ _ => (pv 1)))) pa_nil) (pk_cons pe_non pk_nil)))), ?_⟩
    refine ⟨l, _, hl, trivial, fun od => ?_⟩
    refine ⟨_, rfl, l, od, kvs, rfl, upd_same, fun D hD => lc_values (d := l) (o := od) (kvs := kvs) (fun i H' => Same (upd H l (.frz od (.dK kvs))) H' ∧ H' D = some (.lst ((ms.take i).map fun m => V.int (m.due : Nat))))
      ⟨same_upd hD, upd_same⟩ (fun i H' ⟨sm, _⟩ => sm _ _ upd_same) ?_ ?_⟩
    · rintro i k x H' hx ⟨sm, eD⟩
      have L' := L.upd (o' := .frz od (.dK kvs)) hl (fun xs z => by cases z)
      obtain ⟨m, t, hm, rfl, rfl, ht⟩ := L'.get hx
      refine ⟨t, _, rfl, .inl (.inl (sm _ _ ht)), rfl, _, _, rfl, _, _, rfl, _, _, rfl, rfl, rfl, yesT (iteT ?_)⟩
      refine ⟨_, rfl, _, eD, ?_, fun c o e => ?_, ?_⟩
      · rw [List.length_map, List.length_take]
        exact sizeLine_ge (by omega)
      · rw [upd_ne (ne_of_none e hD)]
        exact sm _ _ e
      · rw [upd_same, List.take_add_one, hm, List.map_append]
        rfl
    · rintro H1 ⟨sm, eD⟩
      rw [L.len, List.take_length] at eD
      have nDl : D ≠ l := fun e => by
        rw [e, upd_same] at hD
        cases hD
      have s2 := unlock hl sm
      have eD2 : (upd H1 l (.dK kvs)) D = some (.lst ((ms.map fun m => (m.due : Int)).map V.int)) := by
        rw [upd_ne nDl, eD, List.map_map]
        rfl
      refine ⟨sm _ _ upd_same, D, ms.map fun m => (m.due : Int), rfl, rfl, SqL.of eD2, ?_⟩
      exact min_least (Q := fun v => Q v (upd H1 l (.dK kvs))) (q _ s2)
end
/-! ### what fires, what is left -/
section
variable {P : Program} {w : World} {K : PySem.W.Frag} {mg : Str → Option Value} {base : Heap}
def spWithTimer : Sp := fun vs H Q _ => ∃ (a : Addr) (xs : List Nat) (n : Nat) (f : Bool), vs = [.ref a, .int (n : Nat), .bl f] ∧ H a = some (.lst (xs.map fun x => V.int (x : Nat))) ∧ xs.length ≤ 1000 ∧ ∀ H' p, Same H H' → H p = none → H' p = some (.lst ((insT f n xs).map fun x => V.int (x : Nat))) → Q (.ref p) H'
theorem ok_with_timer {f : Addr} {fd : FuncData} (F : Fun K "with_timer" "with_timer" s_with_timer f fd) : FnOk P w K mg base CX0 1 f fd ["numbers", "number", "front"] spWithTimer := by
  refine F.ok sc_with_timer (fun vs H Q E h => ?_) (fun cdv A outer s H vs Q E hr h => ?_)
  · obtain ⟨a, xs, n, fr, rfl, _⟩ := h
    rfl
  · obtain ⟨a, xs, n, fr, rfl, ha, hl, q⟩ := h
    refine ⟨_, (pss_cons (ps_if (pt_val (pv 2))
        (pss_one (ps_ret (pe_op op_cat (pe_lst (pa_cons (pv 1) pa_nil)) (pv 0))))
        pss_nil)
      (pss_one (ps_ret (pe_op op_cat (pv 0) (pe_lst (pa_cons (pv 1) pa_nil)))))), ?_⟩
    refine ⟨_, rfl, fr, rfl, ?_⟩
    cases fr with
    | true =>
      refine iteT ⟨_, rfl, by simp [sizeLine_eq], fun p1 h1 => ?_⟩
      have s1 := same_upd (o := .lst [.int (n : Nat)]) h1
      refine ⟨_, rfl, p1, a, _, _, rfl, rfl, upd_same, s1 _ _ ha, ?_, fun p hp => ?_⟩
      · rw [List.length_map]
        exact sizeLine_le (by show 1 + xs.length ≤ 1000000; omega)
      · exact q _ p (s1.trans (same_upd hp)) (s1.free hp) upd_same
    | false =>
      refine iteF ⟨_, rfl, _, rfl, by simp [sizeLine_eq], fun p1 h1 => ?_⟩
      have s1 := same_upd (o := .lst [.int (n : Nat)]) h1
      refine ⟨a, p1, _, _, rfl, rfl, s1 _ _ ha, upd_same, ?_, fun p hp => ?_⟩
      · rw [List.length_map]
        exact sizeLine_le (by show xs.length + 1 ≤ 1000000; omega)
      · refine q _ p (s1.trans (same_upd hp)) (s1.free hp) ?_
        rw [upd_same]
        unfold insT
        rw [if_neg (by decide), List.map_append]
        rfl
end
/-- the order of timers that are set at these ticks and due at one tick -/
noncomputable def orderP (b : Nat) (ws : List Bool) (d : Nat) (ps : List (Nat × Nat)) : List Nat := ps.foldl (fun acc r => insT (sideT b ws r.2 d 0) r.1 acc) []
theorem orderP_snoc (b : Nat) (ws : List Bool) (d : Nat) (ps : List (Nat × Nat)) (r : Nat × Nat) : orderP b ws d (ps ++ [r]) = insT (sideT b ws r.2 d 0) r.1 (orderP b ws d ps) := by
  unfold orderP
  rw [List.foldl_append]
  rfl
theorem orderP_len (b : Nat) (ws : List Bool) (d : Nat) (ps : List (Nat × Nat)) : (orderP b ws d ps).length = ps.length := by
  have H : ∀ (ps : List (Nat × Nat)) (acc : List Nat), (ps.foldl (fun acc r => insT (sideT b ws r.2 d 0) r.1 acc) acc).length = acc.length + ps.length := by
    intro ps
    induction ps with
    | nil => intro acc; rfl
    | cons r ps ih =>
      intro acc
      rw [List.foldl_cons, ih, insT_len, List.length_cons]
      omega
  have z := H ps []
  rw [List.length_nil, Nat.zero_add] at z
  exact z
def setsOf (t : Nat) (ms : List Tm) : List (Nat × Nat) := (ms.filter fun m => decide (m.due = t)).map fun m => (m.num, m.since)
theorem order_P (b : Nat) (ws : List Bool) (t : Nat) (ms : List Tm) : orderAt b ws t ms = orderP b ws t (setsOf t ms) := by
  have H : ∀ (ms : List Tm) (acc : List Nat), ms.foldl (fun acc m => if m.due = t then insT (sideT b ws m.since m.due 0) m.num acc else acc) acc = (setsOf t ms).foldl (fun acc r => insT (sideT b ws r.2 t 0) r.1 acc) acc := by
    intro ms
    induction ms with
    | nil => intro acc; rfl
    | cons m ms ih =>
      intro acc
      rw [List.foldl_cons, ih]
      by_cases e : m.due = t
      · have z : setsOf t (m :: ms) = (m.num, m.since) :: setsOf t ms := by
          unfold setsOf
          rw [List.filter_cons_of_pos (by simpa using e)]
          rfl
        rw [z, List.foldl_cons, if_pos e, e]
      · have z : setsOf t (m :: ms) = setsOf t ms := by
          unfold setsOf
          rw [List.filter_cons_of_neg (by simpa using e)]
        rw [z, if_neg e]
  exact H ms []
/-- at the places ts stand tuples of a number and a tick -/
def PrAt (H : Hp) : List Addr → List (Nat × Nat) → Prop
  | [], [] => True
  | t :: ts, r :: rs => H t = some (.tup [.int (r.1 : Nat), .int (r.2 : Nat)]) ∧ PrAt H ts rs
  | _, _ => False
theorem PrAt.frame {H H' : Hp} : ∀ {ts : List Addr} {rs : List (Nat × Nat)}, PrAt H ts rs → (∀ t xs, H t = some (.tup xs) → H' t = some (.tup xs)) → PrAt H' ts rs
  | [], [], _, _ => trivial
  | _ :: _, _ :: _, h, s => ⟨s _ _ h.1, h.2.frame s⟩
  | [], _ :: _, h, _ => h.elim
  | _ :: _, [], h, _ => h.elim
theorem PrAt.app {H : Hp} {t : Addr} {r : Nat × Nat} : ∀ {ts : List Addr} {rs : List (Nat × Nat)}, PrAt H ts rs → H t = some (.tup [.int (r.1 : Nat), .int (r.2 : Nat)]) → PrAt H (ts ++ [t]) (rs ++ [r])
  | [], [], _, h => ⟨h, trivial⟩
  | _ :: _, _ :: _, h, h2 => ⟨h.1, h.2.app h2⟩
  | [], _ :: _, h, _ => h.elim
  | _ :: _, [], h, _ => h.elim
theorem PrAt.len {H : Hp} : ∀ {ts : List Addr} {rs : List (Nat × Nat)}, PrAt H ts rs → ts.length = rs.length
  | [], [], _ => rfl
  | _ :: _, _ :: _, h => congrArg Nat.succ h.2.len
  | [], _ :: _, h => h.elim
  | _ :: _, [], h => h.elim
theorem PrAt.item {H : Hp} : ∀ {ts : List Addr} {rs : List (Nat × Nat)} {i : Nat} {x : V}, PrAt H ts rs → (ts.map V.ref)[i]? = some x → ∃ t r, x = V.ref t ∧ rs[i]? = some r ∧ H t = some (.tup [.int (r.1 : Nat), .int (r.2 : Nat)])
  | t :: _, r :: _, 0, x, h, e => ⟨t, r, (Option.some.inj e).symm, rfl, h.1⟩
  | _ :: _, _ :: _, i + 1, _, h, e => h.2.item (i := i) e
  | [], _, _, _, _, e => by simp at e
  | _ :: _, [], _, _, h, _ => h.elim
/-- a list made over the items of a dict -/
theorem lc_items {d : Addr} {o : Obj} {kvs : List (Key × V)} {g : TG} {tt : TT} {te : TE} {ws : List Nat} {σ : L2.St} {G : Hp} {D : Addr} {Qd : Hp → Prop} (Pv : Nat → Hp → Prop) (start : Pv 0 (upd G D (.lst []))) (lock : ∀ i G, Pv i G → G d = some (.frz o (.dK kvs)))
    (step : ∀ (i : Nat) (k : Key) (v : V) (T : Addr) (G : Hp), kvs[i]? = some (k, v) → Pv i G → G T = none → g (.ref T) (wipe σ ws) (upd G T (.tup [kV k, v])) fun τ G2 => wipe τ ws = wipe σ ws ∧ tt τ G2 fun c G3 => if c = true then te τ G3 fun z G4 => ∃ ac, G4 D = some (.lst ac) ∧ ac.length < sizeLine ∧ Pv (i + 1) (upd G4 D (.lst (ac ++ [z]))) else Pv (i + 1) G3)
    (last : ∀ G, Pv kvs.length G → Qd G) : ∃ W : Nat → Nat → Hp → Prop, (∃ m, W 0 m (upd G D (.lst []))) ∧ ∀ i m G, W i m G → ((Iti d o kvs).stop i G ∧ Qd G) ∨
      ((Iti d o kvs).go i G ∧ ∃ N : Hp → Prop, (∀ G', N G' → ∃ m', m' < m ∧ W (i + 1) m' G') ∧ ∀ x G', (Iti d o kvs).yld i G x G' → g x (wipe σ ws) G' fun τ G2 => wipe τ ws = wipe σ ws ∧ tt τ G2 fun c G3 => if c = true then te τ G3 fun z G4 => ∃ ac, G4 D = some (.lst ac) ∧ ac.length < sizeLine ∧ N (upd G4 D (.lst (ac ++ [z]))) else N G3) := by
  refine ⟨fun i m G => (m = kvs.length - i ∧ i ≤ kvs.length) ∧ Pv i G, ⟨kvs.length, ⟨rfl, Nat.zero_le _⟩, start⟩, ?_⟩
  rintro i m G ⟨⟨rfl, le⟩, pv⟩
  have here := lock i G pv
  rcases Nat.lt_or_ge i kvs.length with lt | ge
  · refine .inr ⟨⟨here, lt⟩, Pv (i + 1), fun G' p' => ⟨kvs.length - (i + 1), by omega, ⟨rfl, lt⟩, p'⟩, fun x G' y => ?_⟩
    obtain ⟨T, k, v, e, rfl, nT, rfl⟩ := y
    exact step i k v T G e pv nT
  · have e : i = kvs.length := Nat.le_antisymm le ge
    rw [e] at pv ⊢
    exact .inl ⟨⟨here, Nat.le_refl _⟩, last G pv⟩
section
variable {P : Program} {w : World} {K : PySem.W.Frag} {mg : Str → Option Value} {base : Heap}
def spFiringOrder (K : PySem.W.Frag) : Sp := fun vs H Q _ => ∃ (b d : Nat) (q S : Addr) (ws : List Bool) (ts : List Addr) (ps : List (Nat × Nat)), vs = [.int (b : Nat), .ref q, .int (d : Nat), .ref S] ∧ 2 ≤ b ∧ b ≤ 64 ∧ SqL K H q (ws.map lvV) ∧ ws ≠ [] ∧ H S = some (.lst (ts.map V.ref)) ∧ PrAt H ts ps ∧ ps.length ≤ 1000 ∧ (∀ r ∈ ps, r.2 < d ∧ d < 2 ^ 250) ∧
  ∀ H' p, Same H H' → H p = none → H' p = some (.lst ((orderP b ws d ps).map fun x => V.int (x : Nat))) → Q (.ref p) H'
theorem ok_firing_order {f : Addr} {fd : FuncData} (F : Fun K "firing_order" "firing_order" s_firing_order f fd) (h1 : Has P w K mg base 1 "with_timer" ["numbers", "number", "front"] [] spWithTimer)
    (h2 : Has P w K mg base 3 "goes_in_front" ["base", "levels", "now", "due", "lowest"] [] (spFront K)) : FnOk P w K mg base CX0 4 f fd ["base", "levels", "due", "settings"] (spFiringOrder K) := by
  obtain ⟨f_with_timer, fd_with_timer, ds_with_timer, G_with_timer, m_with_timer, k_with_timer, b_with_timer, v_with_timer⟩ := h1
  obtain ⟨f_goes_in_front, fd_goes_in_front, ds_goes_in_front, G_goes_in_front, m_goes_in_front, k_goes_in_front, b_goes_in_front, v_goes_in_front⟩ := h2
  refine F.ok sc_firing_order (fun vs H Q E h => ?_) (fun cdv A outer s H vs Q E hr h => ?_)
  · obtain ⟨b, d, q, S, ws, ts, ps, rfl, _⟩ := h
    rfl
  · obtain ⟨b, d, q, S, ws, ts, ps, rfl, hb, hb64, hL, hne, hS, hP, few, ok, c⟩ := h
    refine ⟨_, (pss_cons (ps_set (i := 4) sc_firing_order.nd rfl (.inl rfl) (pe_lst pa_nil))
      (pss_cons (ps_for PassesOwn.never rfl (pi_list (pv 3)) (pg_tupK (K := K) (n := 2) rfl rfl (pgs_cons (pg_name (i := 5) sc_firing_order.nd rfl (.inl rfl)) (pgs_cons (pg_name (i := 6) sc_firing_order.nd rfl (.inl rfl)) pgs_nil)))
        (pss_one (ps_set (i := 4) sc_firing_order.nd rfl (.inl rfl) (pe_call G_with_timer (hr.mono (by decide)) (by rfl) m_with_timer k_with_timer b_with_timer v_with_timer pass0 (pa_cons (pv 4) (pa_cons (pv 5) (pa_cons (pe_call G_goes_in_front hr (by rfl) m_goes_in_front k_goes_in_front b_goes_in_front v_goes_in_front pass0 (pa_cons (pv 0) (pa_cons (pv 1) (pa_cons (pv 6) (pa_cons (pv 2) (pa_cons pe_int pa_nil)))))) pa_nil)))))))
      (pss_one (ps_ret (pv 4))))), ?_⟩
    refine ⟨by simp [sizeLine_eq], fun p0 hp0 => ?_⟩
    have s0 := same_upd (o := .lst []) hp0
    have e0 : (upd H p0 (.lst [])) p0 = some (.lst []) := upd_same
    generalize upd H p0 (.lst []) = H0 at s0 e0 ⊢
    have hS0 := s0 _ _ hS
    refine ⟨_, rfl, S, rfl, ⟨_, SqL.of hS0⟩, for_list (K := K) (a := S) (xs := ts.map V.ref) (fun i σ H' => ∃ (p : Addr) (y5 y6 : Option V), σ = [some (.int (b : Nat)), some (.ref q), some (.int (d : Nat)), some (.ref S), some (.ref p), y5, y6] ∧ Same H0 H' ∧ H p = none ∧ H' p = some (.lst ((orderP b ws d (ps.take i)).map fun x => V.int (x : Nat))))
      ⟨p0, none, none, rfl, Same.refl _, hp0, e0⟩ (fun i σ H' _ ⟨_, _, _, _, sm, _⟩ => SqL.of (sm _ _ hS0)) ?_ ?_⟩
    · rintro i x σ H' hx ⟨p, y5, y6, rfl, sm, hp, eP⟩
      have hP' := hP.frame (H' := H') (fun t xs e => sm _ _ (s0 _ _ e))
      obtain ⟨t, r, rfl, hr2, ht⟩ := hP'.item hx
      obtain ⟨hrd, hd⟩ := ok r (List.mem_of_getElem? hr2)
      refine ⟨t, _, rfl, .inl (.inl ht), rfl, _, _, rfl, _, _, rfl, rfl, ?_⟩
      have hfew : (orderP b ws d (ps.take i)).length ≤ 1000 := by
        rw [orderP_len, List.length_take]
        omega
      refine ⟨_, rfl, _, rfl, _, rfl, _, rfl, _, rfl, _, rfl, b, r.2, d, 0, q, ws, rfl, hb, hb64, hrd, hd, (s0.trans sm).seq hL, hne, fun k2 hk2 H2 s2 => ?_⟩
      have eP2 := s2 _ _ eP
      refine ⟨p, orderP b ws d (ps.take i), r.1, frontOf ws 0 (rowsOf b r.2 d k2), rfl, eP2, hfew, fun H3 p3 s3 hp3 eP3 => ?_⟩
      refine ⟨p3, _, _, rfl, (sm.trans s2).trans s3, ((s0.trans sm).trans s2).free hp3, ?_⟩
      rw [List.take_add_one, hr2]
      show _ = some (HO.lst ((orderP b ws d (ps.take i ++ [r])).map fun x => V.int (x : Nat)))
      rw [orderP_snoc, sideT_eq hk2]
      exact eP3
    · rintro σ H' ⟨p, y5, y6, rfl, sm, hp, eP⟩
      rw [List.length_map, hP.len, List.take_length] at eP
      exact ⟨_, rfl, c _ p (s0.trans sm) hp eP⟩
end
/-! ### what fires, what is left -/
section
variable {P : Program} {w : World} {K : PySem.W.Frag} {mg : Str → Option Value} {base : Heap}
def DuesOk (ms : List Tm) : Prop := ∀ m ∈ ms, m.since < m.due ∧ m.due < 2 ^ 250
def spOrder (K : PySem.W.Frag) : Sp := fun vs H Q _ => ∃ (b t : Nat) (q l : Addr) (ws : List Bool) (kvs : List (Key × V)) (ms : List Tm), vs = [.int (b : Nat), .ref q, .ref l, .int (t : Nat)] ∧ 2 ≤ b ∧ b ≤ 64 ∧ SqL K H q (ws.map lvV) ∧ ws ≠ [] ∧ H l = some (.dK kvs) ∧ LiveK H kvs ms ∧ ms.length ≤ 1000 ∧ DuesOk ms ∧
  ∀ H' p, Same H H' → H p = none → H' p = some (.lst ((orderAt b ws t ms).map fun x => V.int (x : Nat))) → Q (.ref p) H'
theorem order_few (b : Nat) (ws : List Bool) (t : Nat) (ms : List Tm) : (orderAt b ws t ms).length ≤ ms.length := by
  rw [order_len]
  exact List.length_filter_le _ _
theorem ok_order {f : Addr} {fd : FuncData} (F : Fun K "order_of_firing" "order_of_firing" s_order_of_firing f fd) (h1 : Has P w K mg base 4 "firing_order" ["base", "levels", "due", "settings"] [] (spFiringOrder K)) :
    FnOk P w K mg base CX0 5 f fd ["base", "levels", "live", "tick"] (spOrder K) := by
  obtain ⟨f_firing_order, fd_firing_order, ds_firing_order, G_firing_order, m_firing_order, k_firing_order, b_firing_order, v_firing_order⟩ := h1
  refine F.ok sc_order_of_firing (fun vs H Q E h => ?_) (fun cdv A outer s H vs Q E hr h => ?_)
  · obtain ⟨b, t, q, l, ws, kvs, ms, rfl, _⟩ := h
    rfl
  · obtain ⟨b, t, q, l, ws, kvs, ms, rfl, hb, hb64, hL, hne, hl, L, few, ok, c⟩ := h
    refine ⟨_, (pss_cons (ps_lock (ps_setLc (i := 4) (own := [("number", 5), ("due", 6), ("period", 7), ("since", 8)]) (g := _)  rfl sc_order_of_firing.nd rfl rfl (sw_true rfl rfl rfl (by decide +kernel)) (pi_items (pv 2)) (blkOk_by (own := [("number", 5), ("due", 6), ("period", 7), ("since", 8)]) (N := N_order_of_firing) (sc := defScope s_order_of_firing) (by decide +kernel)) (fun _ _ _ _ _ => (pg_tupK (K := K) (n := 2) rfl rfl (pgs_cons (pg_name (i := 5) sc_order_of_firing.nd rfl (.inl rfl)) (pgs_cons (pg_tupK (K := K) (n := 3) rfl rfl (pgs_cons (pg_name (i := 6) sc_order_of_firing.nd rfl (.inl rfl)) (pgs_cons (pg_name (i := 7) sc_order_of_firing.nd rfl (.inl rfl)) (pgs_cons (pg_name (i := 8) sc_order_of_firing.nd rfl (.inl rfl)) pgs_nil)))) pgs_nil)))) (fun _ _ _ _ _ => (pts_one (pt_cmpR op_eq (pv 6) (pv 3) (nomark _)))) (fun _ _ _ _ _ => (pe_tup (pa_cons (pv 5) (pa_cons (pv 8) pa_nil))))))
      (pss_one (ps_ret (pe_call G_firing_order hr (by rfl) m_firing_order k_firing_order b_firing_order v_firing_order pass0 (pa_cons (pv 0) (pa_cons (pv 1) (pa_cons (pv 3) (pa_cons (pv 4) pa_nil)))))))), ?_⟩
    refine ⟨l, _, hl, trivial, fun od => ?_⟩
    refine ⟨_, rfl, l, od, kvs, rfl, upd_same, fun D hD => lc_items (d := l) (o := od) (kvs := kvs) (fun i H' => Same (upd H l (.frz od (.dK kvs))) H' ∧ ∃ ts : List Addr, H' D = some (.lst (ts.map V.ref)) ∧ PrAt H' ts (setsOf t (ms.take i)))
      ⟨same_upd hD, [], upd_same, trivial⟩ (fun i H' ⟨sm, _⟩ => sm _ _ upd_same) ?_ ?_⟩
    · rintro i k v U H' hx ⟨sm, ts, eD, hP⟩ hU
      have L' := L.upd (o' := .frz od (.dK kvs)) hl (fun xs z => by cases z)
      obtain ⟨m, tt, hm, rfl, rfl, ht⟩ := L'.get hx
      have sU := same_upd (o := .tup [.int (m.num : Nat), .ref tt]) hU
      have ht' := sU _ _ (sm _ _ ht)
      have eD' := sU _ _ eD
      have hP' := hP.frame (H' := upd H' U (.tup [.int (m.num : Nat), .ref tt])) (fun t xs e => sU _ _ e)
      have hstep : setsOf t (ms.take (i + 1)) = setsOf t (ms.take i) ++ if m.due = t then [(m.num, m.since)] else [] := by
        rw [List.take_add_one, hm]
        show setsOf t (ms.take i ++ [m]) = _
        unfold setsOf
        rw [List.filter_append, List.map_append]
        by_cases e : m.due = t
        · rw [if_pos e, List.filter_cons_of_pos (by simpa using e)]
          rfl
        · rw [if_neg e, List.filter_cons_of_neg (by simpa using e)]
          rfl
      have hts : ts.length ≤ 1000 := by
        rw [hP.len]
        unfold setsOf
        rw [List.length_map]
        have z := List.length_filter_le (fun m : Tm => decide (m.due = t)) (ms.take i)
        rw [List.length_take] at z
        omega
      refine ⟨U, _, rfl, .inl (.inl upd_same), rfl, _, _, rfl, _, _, rfl, tt, _, rfl, .inl (.inl ht'), rfl, _, _, rfl, _, _, rfl, _, _, rfl, rfl, rfl, rfl, ?_⟩
      have sm1 := sm.trans sU
      by_cases e : m.due = t
      · refine ⟨_, rfl, _, rfl, rfl, true, dT (vE e), iteT ⟨_, rfl, _, rfl, by simp [sizeLine_eq], fun t3 ht3 => ?_⟩⟩
        have s3 := same_upd (o := .tup [.int (m.num : Nat), .int (m.since : Nat)]) ht3
        have eD3 := s3 _ _ eD'
        have n3 : t3 ≠ D := fun z => by
          rw [z] at ht3
          exact absurd (eD'.symm.trans ht3) (by intro y; cases y)
        refine ⟨_, eD3, ?_, fun c o e' => ?_, ts ++ [t3], ?_, ?_⟩
        · rw [List.length_map]
          exact sizeLine_ge (by omega)
        · rw [upd_ne (ne_of_none e' hD)]
          exact s3 _ _ (sm1 _ _ e')
        · rw [upd_same, List.map_append]
          rfl
        · rw [hstep, if_pos e]
          refine PrAt.app (r := (m.num, m.since)) (hP'.frame fun t' xs e' => ?_) ?_
          · rw [upd_ne (ne_of (s3 _ _ e') eD3 (by intro z; cases z))]
            exact s3 _ _ e'
          · rw [upd_ne n3]
            exact upd_same
      · refine ⟨_, rfl, _, rfl, rfl, false, dF (vN e), iteF ⟨sm1, ts, eD', ?_⟩⟩
        rw [hstep, if_neg e, List.append_nil]
        exact hP'
    · rintro H1 ⟨sm, ts, eD, hP⟩
      rw [L.len, List.take_length] at hP
      have nDl : D ≠ l := fun e => by
        rw [e, upd_same] at hD
        cases hD
      have s2 := unlock hl sm
      have hDn : H D = none := by
        rw [upd_ne nDl] at hD
        exact hD
      refine ⟨sm _ _ upd_same, ?_⟩
      have hP2 := hP.frame (H' := upd H1 l (.dK kvs)) (fun t' xs e' => by
        rw [upd_ne (ne_of e' (sm _ _ upd_same) (by intro z; cases z))]
        exact e')
      have eD2 : (upd H1 l (.dK kvs)) D = some (.lst (ts.map V.ref)) := by
        rw [upd_ne nDl]
        exact eD
      generalize upd H1 l (.dK kvs) = H2 at s2 hP2 eD2 ⊢
      refine ⟨_, rfl, _, rfl, _, rfl, _, rfl, b, t, q, D, ws, ts, setsOf t ms, rfl, hb, hb64, s2.seq hL, hne, eD2, hP2, ?_, ?_, fun H3 p s3 hp eP => ?_⟩
      · unfold setsOf
        rw [List.length_map]
        exact Nat.le_trans (List.length_filter_le _ _) few
      · intro r hr
        obtain ⟨m, hm, rfl⟩ := List.mem_map.mp hr
        have z := List.mem_filter.mp hm
        have e : m.due = t := by simpa using z.2
        rw [← e]
        exact ok m z.1
      · rw [← order_P] at eP
        exact c H3 p (s2.trans s3) (s2.free hp) eP
end
section
variable {P : Program} {w : World} {K : PySem.W.Frag} {mg : Str → Option Value} {base : Heap}
/-- the timers that fire stand in the list, each once -/
structure Firing (t : Nat) (ms : List Tm) (ns : List Nat) : Prop where
  nd : ns.Nodup
  mem : ∀ n ∈ ns, ∃ m ∈ ms, m.num = n
theorem drop_mem {n : Nat} {ms : List Tm} {m : Tm} (h : m ∈ ms) (hn : m.num ≠ n) : m ∈ dropT n ms := List.mem_filter.mpr ⟨h, by simpa using hn⟩
theorem drop_len_lt {n : Nat} {ms : List Tm} (h : ∃ m ∈ ms, m.num = n) : (dropT n ms).length < ms.length := by
  obtain ⟨m, hm, e⟩ := h
  unfold dropT
  exact List.length_filter_lt_length_iff_exists.mpr ⟨m, hm, by simp [e]⟩
def spAfter : Sp := fun vs H Q _ => ∃ (l a : Addr) (t : Nat) (ns : List Nat) (kvs : List (Key × V)) (ms : List Tm), vs = [.ref l, .ref a, .int (t : Nat)] ∧ H l = some (.dK kvs) ∧ LiveK H kvs ms ∧ ms.length ≤ 1000 ∧ (ms.map (·.num)).Nodup ∧ H a = some (.lst (ns.map fun x => V.int (x : Nat))) ∧ Firing t ms ns ∧
  ∀ H' p kvs', Same H H' → H p = none → H' p = some (.dK kvs') → LiveK H' kvs' (afterF t ms ns) → Q (.ref p) H'
theorem fire_some {t n : Nat} {ms : List Tm} {m : Tm} (h : ms.find? (fun x => decide (x.num = n)) = some m) : fireT t ms n = match m.per with
    | none => dropT n ms
    | some k => dropT n ms ++ [⟨n, t + k, some k, t⟩] := by
  unfold fireT
  rw [h]
  try rfl
theorem drop_nodup {n : Nat} {ms : List Tm} (nd : (ms.map (·.num)).Nodup) : ((dropT n ms).map (·.num)).Nodup := by
  unfold dropT
  exact nd.sublist (List.Sublist.map _ List.filter_sublist)
theorem drop_not {n : Nat} {ms : List Tm} : ∀ m ∈ dropT n ms, m.num ≠ n := fun m hm => by simpa using (List.mem_filter.mp hm).2
theorem fire_nodup {t n : Nat} {ms : List Tm} (nd : (ms.map (·.num)).Nodup) : ((fireT t ms n).map (·.num)).Nodup := by
  unfold fireT
  split
  · exact nd
  · split
    · exact drop_nodup nd
    · rw [List.map_append]
      refine nd_snoc (drop_nodup nd) fun h => ?_
      obtain ⟨m, hm, e⟩ := List.mem_map.mp h
      exact drop_not m hm e
theorem fire_num {t n x : Nat} {ms : List Tm} (hx : x ≠ n) (h : ∃ m ∈ ms, m.num = x) : ∃ m ∈ fireT t ms n, m.num = x := by
  obtain ⟨m, hm, e⟩ := h
  unfold fireT
  split
  · exact ⟨m, hm, e⟩
  · split
    · exact ⟨m, drop_mem hm (by omega), e⟩
    · exact ⟨m, List.mem_append_left _ (drop_mem hm (by omega)), e⟩
theorem fire_len {t n : Nat} {ms : List Tm} : (fireT t ms n).length ≤ ms.length := by
  unfold fireT
  split
  · exact Nat.le_refl _
  · rename_i m hf
    have hm := List.mem_of_find?_eq_some hf
    have e : m.num = n := by simpa using List.find?_some hf
    have z := drop_len_lt (n := n) ⟨m, hm, e⟩
    split
    · omega
    · rw [List.length_append]
      show (dropT n ms).length + 1 ≤ _
      omega
theorem ok_after {f : Addr} {fd : FuncData} (F : Fun K "after_firing" "after_firing" s_after_firing f fd) (T : Tx K mg) : FnOk P w K mg base CX0 1 f fd ["live", "numbers", "tick"] spAfter := by
  refine F.ok sc_after_firing (fun vs H Q E h => ?_) (fun cdv A outer s H vs Q E hr h => ?_)
  · obtain ⟨l, a, t, ns, kvs, ms, rfl, _⟩ := h
    rfl
  · obtain ⟨l, a, t, ns, kvs, ms, rfl, hl, L, few, nd, ha, fr, c⟩ := h
    have hu := hu_of hr
    refine ⟨_, (pss_cons (ps_set (i := 3) sc_after_firing.nd rfl (.inl rfl) (pe_callTy call_dictD (by rfl) T.b_dict (by decide +kernel) (pa_cons (pv 0) pa_nil)))
      (pss_cons (ps_for PassesOwn.never rfl (pi_list (pv 1)) (pg_name (i := 4) sc_after_firing.nd rfl (.inl rfl))
        (pss_cons (ps_asg (pe_dpop1 (pv 3) (pv 4) ⟨by rfl, by rfl, by rfl, by rfl⟩) (pg_tupK (K := K) (n := 3) rfl rfl (pgs_cons (pg_name (i := 5) sc_after_firing.nd rfl (.inl rfl)) (pgs_cons (pg_name (i := 6) sc_after_firing.nd rfl (.inl rfl)) (pgs_cons (pg_name (i := 7) sc_after_firing.nd rfl (.inl rfl)) pgs_nil)))))
        (pss_one (ps_if (pt_cmpR op_notN (pv 6) pe_non (nomark _))
          (pss_one (ps_dput hu (pv 3) (pv 4) (pe_tup (pa_cons (pe_op op_add (pv 2) (pv 6)) (pa_cons (pv 6) (pa_cons (pv 2) pa_nil)))) rfl))
          pss_nil))))
      (pss_one (ps_ret (pv 3))))), ?_⟩
    refine ⟨_, rfl, l, kvs, rfl, .inl hl, fun p hp => ?_⟩
    have s0 := same_upd (o := .dK kvs) hp
    have npa : p ≠ a := fun e => by
      rw [e, ha] at hp
      cases hp
    refine ⟨_, rfl, a, rfl, ⟨_, SqL.of (s0 _ _ ha)⟩, for_list (K := K) (a := a) (xs := ns.map fun x => V.int (x : Nat)) (fun i σ H' => ∃ (y4 y5 y6 y7 : Option V) (kvs' : List (Key × V)), σ = [some (.ref l), some (.ref a), some (.int (t : Nat)), some (.ref p), y4, y5, y6, y7] ∧ Same H H' ∧ H' p = some (.dK kvs') ∧ LiveK H' kvs' (afterF t ms (ns.take i)) ∧ ((afterF t ms (ns.take i)).map (·.num)).Nodup ∧ (afterF t ms (ns.take i)).length ≤ 1000 ∧ ∀ (x : Nat), (∃ j, i ≤ j ∧ ns[j]? = some x) → ∃ m ∈ afterF t ms (ns.take i), m.num = x)
      ⟨none, none, none, none, kvs, rfl, s0, upd_same, L.same s0, nd, few, fun x ⟨j, _, hj⟩ => fr.mem x (List.mem_of_getElem? hj)⟩ (fun i σ H' _ ⟨_, _, _, _, _, _, sm, _⟩ => SqL.of (sm _ _ ha)) ?_ ?_⟩
    · rintro i x σ H' hx ⟨y4, y5, y6, y7, kvs', rfl, sm, eP, L', nd', few', hin⟩
      rw [List.getElem?_map] at hx
      obtain ⟨n, hn, rfl⟩ : ∃ n, ns[i]? = some n ∧ x = V.int (n : Nat) := by
        cases e : ns[i]? with
        | none =>
          rw [e] at hx
          cases hx
        | some n =>
          rw [e] at hx
          exact ⟨n, rfl, (Option.some.inj hx).symm⟩
      obtain ⟨m, hm, en⟩ := hin n ⟨i, Nat.le_refl i, hn⟩
      have hfind := find_of nd' hm
      rw [en] at hfind
      obtain ⟨tt, hv, ht⟩ := L'.val_of nd' hm
      rw [en] at hv
      have estep : afterF t ms (ns.take (i + 1)) = fireT t (afterF t ms (ns.take i)) n := by
        unfold afterF
        rw [List.take_add_one, hn, List.foldl_append]
        rfl
      generalize hms : afterF t ms (ns.take i) = ms1 at L' nd' few' hin hm hfind estep
      have hnext : ∀ (x : Nat), (∃ j, i + 1 ≤ j ∧ ns[j]? = some x) → ∃ m ∈ fireT t ms1 n, m.num = x := fun x ⟨j, hj, ej⟩ => by
        refine fire_num (fun e => ?_) (hin x ⟨j, by omega, ej⟩)
        rw [e] at ej
        have hjl : j < ns.length := (List.getElem?_eq_some_iff.mp ej).1
        have := (List.getElem?_inj (i := i) (j := j) (List.getElem?_eq_some_iff.mp hn).1 fr.nd).mp (hn.trans ej.symm)
        omega
      refine ⟨_, rfl, p, rfl, .inl ⟨_, .inl eP⟩, _, rfl, kvs', Sum.inl (n : Int), _, eP, rfl, hv, ?_⟩
      have Ld := (L'.drop (n := n)).upd (o' := .dK (dropK kvs' (Sum.inl (n : Int)))) eP (fun xs z => by cases z)
      have ntp : tt ≠ p := ne_of ht eP (by intro z; cases z)
      have ht2 : (upd H' p (.dK (dropK kvs' (Sum.inl (n : Int))))) tt = some (.tup (tmV m)) := by
        rw [upd_ne ntp]
        exact ht
      have sd : Same H (upd H' p (.dK (dropK kvs' (Sum.inl (n : Int))))) := fun b o e => by
        rw [upd_ne (ne_of_none e hp)]
        exact sm _ _ e
      refine ⟨tt, _, rfl, .inl (.inl ht2), rfl, _, _, rfl, _, _, rfl, _, _, rfl, rfl, ?_⟩
      cases hper : m.per with
      | none =>
        have ef : fireT t ms1 n = dropT n ms1 := by rw [fire_some hfind, hper]
        refine ⟨perV none, rfl, rfl, false, ?_, iteF ?_⟩
        · rfl
        · refine ⟨_, _, _, _, _, rfl, sd, upd_same, ?_, ?_, ?_, ?_⟩
          · rw [estep, ef]
            exact Ld
          · rw [estep]
            exact fire_nodup nd'
          · rw [estep]
            exact Nat.le_trans fire_len few'
          · rw [estep]
            exact hnext
      | some k =>
        have ef : fireT t ms1 n = dropT n ms1 ++ [⟨n, t + k, some k, t⟩] := by rw [fire_some hfind, hper]
        refine ⟨perV (some k), rfl, rfl, true, ?_, iteT ?_⟩
        · rfl
        · have hvn := Ld.val_not (n := n) (fun m' hm' => drop_not m' hm')
          have hlen : (dropK kvs' (Sum.inl (n : Int))).length < sizeLine := by
            have z := dropK_le kvs' (Sum.inl (n : Int) : Key)
            rw [L'.len] at z
            exact sizeLine_ge (by omega)
          refine ⟨_, rfl, .int (k : Nat), rfl, _, _, rfl, rfl, .int (k : Nat), rfl, _, rfl, by simp [sizeLine_eq], fun u hu0 => ?_⟩
          have su := same_upd (o := .tup [.int ((t : Int) + (k : Int)), .int (k : Nat), .int (t : Nat)]) hu0
          have nup : p ≠ u := fun e => by
            rw [← e, upd_same] at hu0
            cases hu0
          refine ⟨_, rfl, _, rfl, p, _, rfl, DPut.k (k := Sum.inl (n : Int)) (su _ _ upd_same) hlen, ?_⟩
          rw [putK_new _ hvn]
          refine ⟨_, _, _, _, _, rfl, fun b o e => ?_, upd_same, ?_, ?_, ?_, ?_⟩
          · rw [upd_ne (ne_of_none e hp)]
            exact su _ _ (sd _ _ e)
          · rw [estep, ef]
            refine LiveK.upd (su _ _ upd_same) (fun xs z => by cases z) ?_
            exact (Ld.same su).snoc (m := ⟨n, t + k, some k, t⟩) rfl upd_same
          · rw [estep]
            exact fire_nodup nd'
          · rw [estep]
            exact Nat.le_trans fire_len few'
          · rw [estep]
            exact hnext
    · rintro σ H' ⟨y4, y5, y6, y7, kvs', rfl, sm, eP, L', _⟩
      rw [List.length_map, List.take_length] at L'
      exact ⟨_, rfl, c H' p kvs' sm hp eP L'⟩
end
/-! ### a wheel in the heap -/
def wfl (b : Nat) (q : Addr) (t f : Nat) (l : Addr) : List (Str × V) := [("base", .int (b : Nat)), ("words", .ref q), ("tick", .int (t : Nat)), ("following", .int (f : Nat)), ("live", .ref l)]
theorem ne_bw : ¬ (("base" : Str) = "words") := by decide +kernel
theorem ne_bt : ¬ (("base" : Str) = "tick") := by decide +kernel
theorem ne_bf : ¬ (("base" : Str) = "following") := by decide +kernel
theorem ne_bl : ¬ (("base" : Str) = "live") := by decide +kernel
theorem ne_wt : ¬ (("words" : Str) = "tick") := by decide +kernel
theorem ne_wf : ¬ (("words" : Str) = "following") := by decide +kernel
theorem ne_wl : ¬ (("words" : Str) = "live") := by decide +kernel
theorem ne_tf : ¬ (("tick" : Str) = "following") := by decide +kernel
theorem ne_tl : ¬ (("tick" : Str) = "live") := by decide +kernel
theorem ne_fl : ¬ (("following" : Str) = "live") := by decide +kernel
theorem lk_hit {k : Str} {v : V} {r : List (Str × V)} : List.lookup k ((k, v) :: r) = some v := by simp [List.lookup]
theorem lk_miss {k g : Str} {v : V} {r : List (Str × V)} (h : ¬ g = k) : List.lookup k ((g, v) :: r) = List.lookup k r := by
  have e : (k == g) = false := by simpa using fun z : k = g => h z.symm
  rw [List.lookup, e]
theorem pt_hit {k : Str} {v x : V} {r : List (Str × V)} : putF k v ((k, x) :: r) = (k, v) :: r := if_pos rfl
theorem pt_miss {k g : Str} {v x : V} {r : List (Str × V)} (h : ¬ g = k) : putF k v ((g, x) :: r) = (g, x) :: putF k v r := if_neg h
theorem pt_nil {k : Str} {v : V} : putF k v [] = [(k, v)] := rfl
section
variable {b : Nat} {q : Addr} {t f : Nat} {l : Addr}
theorem wf_b : (wfl b q t f l).lookup ("base" : Str) = some (.int (b : Nat)) := lk_hit
theorem wf_w : (wfl b q t f l).lookup ("words" : Str) = some (.ref q) := (lk_miss ne_bw).trans lk_hit
theorem wf_t : (wfl b q t f l).lookup ("tick" : Str) = some (.int (t : Nat)) := (lk_miss ne_bt).trans ((lk_miss ne_wt).trans lk_hit)
theorem wf_f : (wfl b q t f l).lookup ("following" : Str) = some (.int (f : Nat)) := (lk_miss ne_bf).trans ((lk_miss ne_wf).trans ((lk_miss ne_tf).trans lk_hit))
theorem wf_l : (wfl b q t f l).lookup ("live" : Str) = some (.ref l) := (lk_miss ne_bl).trans ((lk_miss ne_wl).trans ((lk_miss ne_tl).trans ((lk_miss ne_fl).trans lk_hit)))
theorem wf_no {m : Str} (h1 : ¬ ("base" : Str) = m) (h2 : ¬ ("words" : Str) = m) (h3 : ¬ ("tick" : Str) = m) (h4 : ¬ ("following" : Str) = m) (h5 : ¬ ("live" : Str) = m) : (wfl b q t f l).lookup m = none :=
  (lk_miss h1).trans ((lk_miss h2).trans ((lk_miss h3).trans ((lk_miss h4).trans ((lk_miss h5).trans rfl))))
theorem wf_pt {t' : Nat} : putF "tick" (.int (t' : Nat)) (wfl b q t f l) = wfl b q t' f l := by
  unfold wfl
  rw [pt_miss ne_bt, pt_miss ne_wt, pt_hit]
theorem wf_pf {f' : Nat} : putF "following" (.int (f' : Nat)) (wfl b q t f l) = wfl b q t f' l := by
  unfold wfl
  rw [pt_miss ne_bf, pt_miss ne_wf, pt_miss ne_tf, pt_hit]
theorem wf_pl {l' : Addr} : putF "live" (.ref l') (wfl b q t f l) = wfl b q t f l' := by
  unfold wfl
  rw [pt_miss ne_bl, pt_miss ne_wl, pt_miss ne_tl, pt_miss ne_fl, pt_hit]
end
structure WheelAt (C : Addr) (H : Hp) (p q l : Addr) (W : WS) : Prop where
  ins : ∃ dx, H p = some (.ins C dx (wfl W.b q W.tick W.fol l))
  words : H q = some (.lst (W.ws.map lvV))
  live : ∃ kvs, H l = some (.dK kvs) ∧ LiveK H kvs W.live
/-- all but the wheel (its object p, its dict l) stands as it was; its dict is the old one or a new one -/
structure Wk (p l : Addr) (H H' : Hp) (l' : Addr) : Prop where
  keep : ∀ c o, c ≠ p → c ≠ l → H c = some o → H' c = some o
  new : l' = l ∨ H l' = none
theorem WheelAt.same {C : Addr} {H H' : Hp} {p q l : Addr} {W : WS} (s : Same H H') (w : WheelAt C H p q l W) : WheelAt C H' p q l W := by
  obtain ⟨dx, h⟩ := w.ins
  obtain ⟨kvs, h2, L⟩ := w.live
  exact ⟨⟨dx, s _ _ h⟩, s _ _ w.words, ⟨kvs, s _ _ h2, L.same s⟩⟩
theorem WheelAt.frame {C : Addr} {H H' : Hp} {p q l a : Addr} {W : WS} {xs : List V} (w : WheelAt C H p q l W) (ha : H a = some (.lst xs)) (hq : a ≠ q) (s : ∀ c o, c ≠ a → H c = some o → H' c = some o) : WheelAt C H' p q l W := by
  obtain ⟨dx, h⟩ := w.ins
  obtain ⟨kvs, h2, L⟩ := w.live
  refine ⟨⟨dx, s _ _ (ne_of h ha (by intro z; cases z)) h⟩, s _ _ (Ne.symm hq) w.words, ⟨kvs, s _ _ (ne_of h2 ha (by intro z; cases z)) h2, L.frame fun t m e => s _ _ (ne_of e ha (by intro z; cases z)) e⟩⟩
structure TxW (K : PySem.W.Frag) (mg : Str → Option Value) (C : Addr) : Prop where
  cl : Cls K C
  nB : NoAttr K C "base"
  nW : NoAttr K C "words"
  nT : NoAttr K C "tick"
  nF : NoAttr K C "following"
  nL : NoAttr K C "live"
  mgC : mg "Wheel" = some (.ref C)
section
variable {P : Program} {w : World} {K : PySem.W.Frag} {mg : Str → Option Value} {base : Heap}
/-- a method that keeps its promise -/
def HasM (P : Program) (w : World) (K : PySem.W.Frag) (mg : Str → Option Value) (base : Heap) (k : Nat) (C : Addr) (m : Str) (ps : List Str) (dvs : List V) (sp : Sp) : Prop :=
  ∃ (f : Addr) (fd : FuncData) (ds : List Value), FnOk P w K mg base CX0 k f fd ps sp ∧ Meth K C m f ∧ Binds K fd ps ds ∧ Vals dvs ds
end
/-! ### a period, of an integer -/
section
variable {P : Program} {w : World} {K : PySem.W.Frag} {mg : Str → Option Value} {base : Heap}
def spIsPeriod : Sp := fun vs H Q _ => ∃ n : Int, vs = [.int n] ∧ 1 ≤ n ∧ Q (.bl true) H
theorem ok_is_period {f : Addr} {fd : FuncData} (F : Fun K "is_period" "is_period" s_is_period f fd) (h1 : Has P w K mg base 1 "is_integer" ["given"] [] spIsInt) : FnOk P w K mg base CX0 2 f fd ["given"] spIsPeriod := by
  obtain ⟨f_is_integer, fd_is_integer, ds_is_integer, G_is_integer, m_is_integer, k_is_integer, b_is_integer, v_is_integer⟩ := h1
  refine F.ok sc_is_period (fun vs H Q E h => ?_) (fun cdv A outer s H vs Q E hr h => ?_)
  · obtain ⟨n, rfl, _⟩ := h
    rfl
  · obtain ⟨n, rfl, l1, q⟩ := h
    refine ⟨_, (pss_one (ps_ret (pe_and (pe_call G_is_integer hr (by rfl) m_is_integer k_is_integer b_is_integer v_is_integer pass0 (pa_cons (pv 0) pa_nil)) (pe_one (pe_cmpR op_ge (pv 0) pe_int (nomark _)))))), ?_⟩
    refine ⟨.int n, rfl, n, rfl, true, rfl, iteT ?_⟩
    refine ⟨.int n, rfl, n, 1, rfl, rfl, ?_⟩
    have e : V.bl (decide (n ≥ 1)) = V.bl true := dT l1
    show Q (V.bl (decide (n ≥ 1))) H
    rw [e]
    exact q
end
section
variable {P : Program} {w : World} {K : PySem.W.Frag} {mg : Str → Option Value} {base : Heap}
def trimN (ws : List Bool) : Nat → Nat
  | 0 => 0
  | n + 1 => if 1 ≤ n ∧ ws[n]? = ws[n - 1]? then trimN ws n else n + 1
def trimW (ws : List Bool) : List Bool := ws.take (trimN ws ws.length)
theorem trimN_le (ws : List Bool) : ∀ n, trimN ws n ≤ n
  | 0 => Nat.le_refl _
  | n + 1 => by
    unfold trimN
    split
    · exact Nat.le_succ_of_le (trimN_le ws n)
    · exact Nat.le_refl _
theorem trimN_pos (ws : List Bool) : ∀ n, 1 ≤ n → 1 ≤ trimN ws n
  | 0, h => h
  | n + 1, _ => by
    unfold trimN
    split
    · rename_i h
      exact trimN_pos ws n h.1
    · omega
theorem trim_ne {ws : List Bool} (h : ws ≠ []) : trimW ws ≠ [] := by
  have hp : 0 < ws.length := List.length_pos_iff.mpr h
  have z := trimN_pos ws ws.length hp
  intro e
  have e2 := congrArg List.length e
  unfold trimW at e2
  rw [List.length_take] at e2
  have e3 : ([] : List Bool).length = 0 := rfl
  omega
theorem trim_len (ws : List Bool) : (trimW ws).length ≤ ws.length := by
  unfold trimW
  rw [List.length_take]
  omega
def spRepeats (K : PySem.W.Frag) : Sp := fun vs H Q _ => ∃ (q : Addr) (ws : List Bool), vs = [.ref q] ∧ SqL K H q (ws.map lvV) ∧ ws ≠ [] ∧ ws.length ≤ 60 ∧ ∀ H' p, Same H H' → H p = none → H' p = some (.lst ((trimW ws).map lvV)) → Q (.ref p) H'
theorem lv_inj {a b : Bool} : lvV a = lvV b ↔ a = b := by
  cases a <;> cases b <;> decide
theorem ok_repeats {f : Addr} {fd : FuncData} (F : Fun K "without_repeats" "without_repeats" s_without_repeats f fd) (T : Tx K mg) : FnOk P w K mg base CX0 1 f fd ["levels"] (spRepeats K) := by
  refine F.ok sc_without_repeats (fun vs H Q E h => ?_) (fun cdv A outer s H vs Q E hr h => ?_)
  · obtain ⟨q, ws, rfl, _⟩ := h
    rfl
  · obtain ⟨q, ws, rfl, hL, hne, h60, c⟩ := h
    refine ⟨_, (pss_cons (ps_set (i := 1) sc_without_repeats.nd rfl (.inl rfl) (pe_callB (lenK (K := K) rfl) (by rfl) T.b_len PySem.boot_len (pa_cons (pv 0) pa_nil)))
      (pss_cons (ps_while PassesOwn.never (PW.pt (pw_and (pt_cmpR op_gt (pv 1) pe_int (nomark _)) (pw_and1 (pt_cmpR op_eq (pe_ix (ix_listK (K := K) rfl) (pv 0) (pe_op op_subN (pv 1) pe_int) (fun _ _ => rfl)) (pe_ix (ix_listK (K := K) rfl) (pv 0) (pe_op op_subN (pv 1) pe_int) (fun _ _ => rfl)) (nomark _)))))
        (pss_one (ps_aug (i := 1) sc_without_repeats.nd rfl (.inl rfl) pe_int ip_sub)))
      (pss_one (ps_ret (pe_slice (sl_listK (K := K) rfl) (pv 0) po_none (po_some (pv 1))))))), ?_⟩
    refine ⟨.ref q, rfl, q, _, rfl, .inl hL, ?_⟩
    refine while_by (fun σ H' => ∃ n : Nat, σ = [some (.ref q), some (.int (n : Nat))] ∧ H' = H ∧ 1 ≤ n ∧ n ≤ ws.length ∧ trimN ws ws.length = trimN ws n) (fun σ _ => slotInt σ 1) ⟨ws.length, by rw [List.length_map]; rfl, rfl, List.length_pos_iff.mpr hne, Nat.le_refl _, rfl⟩ ?_ ?_
    · rintro σ H' ⟨n, rfl, rfl, h1, hn, et⟩
      have fin : n = trimN ws n → tRet (tSl (rSlL K) (tVar 0) tNoPart (tPart (tVar 1))) { nx := fun _ H' => Q .non H', rt := Q } [some (.ref q), some (.int (n : Nat))] H' := fun e => by
        refine ⟨_, rfl, _, rfl, _, rfl, q, _, rfl, hL, fun p hp => ?_⟩
        refine c _ p (same_upd hp) hp ?_
        rw [upd_same]
        have ec : cutV (ws.map lvV) none (some ((n : Nat) : Int)) = (trimW ws).map lvV := by
          unfold trimW cutV
          rw [HT.sIx_none, HT.sIx_nat, List.drop_zero, Nat.sub_zero, List.length_map, Nat.min_eq_left hn, List.map_take, et, ← e]
        rw [ec]
      obtain ⟨n, rfl⟩ : ∃ n', n = n' + 1 := ⟨n - 1, by omega⟩
      by_cases h2 : 1 < n + 1
      · have g1 : (ws.map lvV)[n]? = some (lvV (ws[n]'(by omega))) := by
          rw [List.getElem?_map, List.getElem?_eq_getElem]
          rfl
        have g2 : (ws.map lvV)[n - 1]? = some (lvV (ws[n - 1]'(by omega))) := by
          rw [List.getElem?_map, List.getElem?_eq_getElem]
          rfl
        refine ⟨_, rfl, _, _, rfl, rfl, true, dT (by omega), iteT ?_⟩
        refine ⟨_, rfl, _, rfl, n + 1, 1, rfl, rfl, Nat.le_add_left 1 n, q, _, _, _, rfl, rfl, hL, atI_nat (j := n) g1, _, rfl, _, rfl, n + 1, 2, rfl, rfl, (by show 2 ≤ n + 1; omega), q, _, _, _, rfl, rfl, hL, atI_nat (j := n - 1) g2, ?_, ?_⟩
        · cases ws[n]'(by omega) <;> cases ws[n - 1]'(by omega) <;> rfl
        · by_cases e : ws[n]'(by omega) = ws[n - 1]'(by omega)
          · have et2 : trimN ws (n + 1) = trimN ws n := by
              rw [trimN, if_pos]
              refine ⟨by omega, ?_⟩
              rw [List.getElem?_eq_getElem (by omega : n < ws.length), List.getElem?_eq_getElem (by omega : n - 1 < ws.length), e]
            refine ⟨true, dT (lv_inj.mpr e), iteT ⟨_, rfl, _, _, rfl, rfl, ⟨n, ?_, rfl, by omega, by omega, by rw [et, et2]⟩, ?_⟩⟩
            · show [some (V.ref q), some (V.int (((n + 1 : Nat) : Int) - 1))] = _
              rw [show ((n + 1 : Nat) : Int) - 1 = (n : Int) by omega]
            · show (((n + 1 : Nat) : Int) - 1).toNat < (((n + 1 : Nat) : Int)).toNat
              omega
          · refine ⟨false, dF (fun z => e (lv_inj.mp z)), iteF ?_⟩
            refine fin ?_
            rw [trimN, if_neg]
            rintro ⟨_, z⟩
            rw [List.getElem?_eq_getElem (by omega : n < ws.length), List.getElem?_eq_getElem (by omega : n - 1 < ws.length)] at z
            exact e (Option.some.inj z)
      · refine ⟨_, rfl, _, _, rfl, rfl, false, dF (by omega), iteF (iteF ?_)⟩
        refine fin ?_
        rw [trimN, if_neg]
        rintro ⟨z, _⟩
        omega
    · rintro σ H' Q1 Q2 h ⟨x, hx, i, j, e1, e2, k, e, z⟩
      refine ⟨x, hx, i, j, e1, e2, k, e, ?_⟩
      cases k with
      | false => exact iteF (h _ _ (by rw [if_neg Bool.false_ne_true] at z; exact z))
      | true =>
        rw [if_pos rfl] at z
        refine iteT ?_
        obtain ⟨x1, hx1, x2, hx2, a1, b1, e3, e4, c1, p1, i1, j1, v1, e5, e6, hs1, g1, y1, hy1, y2, hy2, a2, b2, e7, e8, c2, p2, i2, j2, v2, e9, e10, hs2, g2, hsc, k', ek, zz⟩ := z
        exact ⟨x1, hx1, x2, hx2, a1, b1, e3, e4, c1, p1, i1, j1, v1, e5, e6, hs1, g1, y1, hy1, y2, hy2, a2, b2, e7, e8, c2, p2, i2, j2, v2, e9, e10, hs2, g2, hsc, k', ek, h _ _ zz⟩
def spCheckPeriod : Sp := fun vs H Q _ => ∃ o : Option Nat, vs = [perV o] ∧ (∀ k, o = some k → 1 ≤ k) ∧ Q .non H
theorem ok_check_period {f : Addr} {fd : FuncData} (F : Fun K "check_period" "check_period" s_check_period f fd) (h1 : Has P w K mg base 2 "is_period" ["given"] [] spIsPeriod) : FnOk P w K mg base CX0 3 f fd ["period"] spCheckPeriod := by
  obtain ⟨f_is_period, fd_is_period, ds_is_period, G_is_period, m_is_period, k_is_period, b_is_period, v_is_period⟩ := h1
  refine F.ok sc_check_period (fun vs H Q E h => ?_) (fun cdv A outer s H vs Q E hr h => ?_)
  · obtain ⟨o, rfl, _⟩ := h
    rfl
  · obtain ⟨o, rfl, hp, q⟩ := h
    refine ⟨_, (pss_one (ps_if (PW.pt (pw_and (pt_cmpR op_notN (pv 0) pe_non (nomark _)) (pw_and1 (pt_not (pt_val (pe_call G_is_period hr (by rfl) m_is_period k_is_period b_is_period v_is_period pass0 (pa_cons (pv 0) pa_nil)))))))
        (pss_one ps_never)
        pss_nil)), ?_⟩
    cases o with
    | none => exact ⟨_, rfl, rfl, false, rfl, iteF (iteF q)⟩
    | some k =>
      have hk := hp k rfl
      refine ⟨_, rfl, rfl, true, rfl, iteT ?_⟩
      exact ⟨.int (k : Nat), rfl, (k : Nat), rfl, by omega, true, rfl, iteF q⟩
def spInit (C : Addr) (K : PySem.W.Frag) : Sp := fun vs H Q _ => ∃ (p dx q0 : Addr) (b t : Nat) (ws : List Bool), vs = [.ref p, .int (b : Nat), .ref q0, .int (t : Nat)] ∧ H p = some (.ins C dx []) ∧ SqL K H q0 (ws.map lvV) ∧ 2 ≤ b ∧ b ≤ 64 ∧ ws ≠ [] ∧ ws.length ≤ 60 ∧
  ∀ H' q l, (∀ c o, c ≠ p → H c = some o → H' c = some o) → H q = none → H l = none → WheelAt C H' p q l ⟨b, trimW ws, t, 0, []⟩ → Q .non H'
theorem ok_init {f C : Addr} {fd : FuncData} (F : FunD K "__init__" "Wheel.__init__" (defArgs s_Wheel___init__) (defBody s_Wheel___init__) (defScope s_Wheel___init__) [] [("start", .int 0)] f fd) (TW : TxW K mg C) (h1 : Has P w K mg base 3 "check_base" ["base"] [] spCheckBase)
    (h2 : Has P w K mg base 3 "check_tick" ["tick", "least"] [.int 0] spCheckTick) (h4 : Has P w K mg base 4 "check_levels" ["levels"] [] (spCheckLevels K)) (h5 : Has P w K mg base 1 "without_repeats" ["levels"] [] (spRepeats K)) :
    FnOk P w K mg base CX0 5 f fd ["self", "base", "levels", "start"] (spInit C K) := by
  obtain ⟨f_check_base, fd_check_base, ds_check_base, G_check_base, m_check_base, k_check_base, b_check_base, v_check_base⟩ := h1
  obtain ⟨f_check_tick1, fd_check_tick1, ds_check_tick1, G_check_tick1, m_check_tick1, k_check_tick1, b_check_tick1, v_check_tick1⟩ := h2
  obtain ⟨f_check_levels, fd_check_levels, ds_check_levels, G_check_levels, m_check_levels, k_check_levels, b_check_levels, v_check_levels⟩ := h4
  obtain ⟨f_without_repeats, fd_without_repeats, ds_without_repeats, G_without_repeats, m_without_repeats, k_without_repeats, b_without_repeats, v_without_repeats⟩ := h5
  refine F.ok sc_Wheel___init__ (fun vs H Q E h => ?_) (fun cdv A outer s H vs Q E hr h => ?_)
  · obtain ⟨p, dx, q0, b, t, ws, rfl, _⟩ := h
    rfl
  · obtain ⟨p, dx, q0, b, t, ws, rfl, hp, hL, hb, hb64, hne, h60, c⟩ := h
    refine ⟨_, PSs.nox (pss_cons (ps_expr (pe_call G_check_base (hr.mono (by decide)) (by rfl) m_check_base k_check_base b_check_base v_check_base pass0 (pa_cons (pv 1) pa_nil)))
      (pss_cons (ps_expr (pe_call G_check_levels hr (by rfl) m_check_levels k_check_levels b_check_levels v_check_levels pass0 (pa_cons (pv 2) pa_nil)))
      (pss_cons (ps_expr (pe_call G_check_tick1 (hr.mono (by decide)) (by rfl) m_check_tick1 k_check_tick1 b_check_tick1 v_check_tick1 pass0 (pa_cons (pv 3) pa_nil)))
      (pss_cons (ps_fld (pv 0) (pv 1) rfl)
      (pss_cons (ps_fld (pv 0) (pe_call G_without_repeats (hr.mono (by decide)) (by rfl) m_without_repeats k_without_repeats b_without_repeats v_without_repeats pass0 (pa_cons (pv 2) pa_nil)) rfl)
      (pss_cons (ps_fld (pv 0) (pv 3) rfl)
      (pss_cons (ps_fld (pv 0) pe_int rfl)
      (pss_one (ps_fld (pv 0) pe_dnewK rfl))))))))), ?_⟩
    refine ⟨_, rfl, b, rfl, by omega, by omega, ?_⟩
    refine ⟨_, rfl, q0, ws, rfl, hL, hne, h60, fun H1 s1 => ?_⟩
    refine ⟨_, rfl, t, 0, rfl, by omega, ?_⟩
    have hp1 := s1 _ _ hp
    refine ⟨_, rfl, _, rfl, p, C, dx, [], rfl, hp1, TW.cl, TW.nB, by simp, ?_⟩
    have k2 : ∀ c o, c ≠ p → H c = some o → (upd H1 p (.ins C dx (putF "base" (.int (b : Nat)) []))) c = some o := fun c o n e => by
      rw [upd_ne n]
      exact s1 _ _ e
    have hL2 : SqL K (upd H1 p (.ins C dx (putF "base" (.int (b : Nat)) []))) q0 (ws.map lvV) := by
      rcases s1.seq hL with (e | ⟨o, e⟩) | e
      · exact .inl (.inl (by rw [upd_ne (ne_of e hp1 (by intro z; cases z))]; exact e))
      · exact .inl (.inr ⟨o, by rw [upd_ne (ne_of e hp1 (by intro z; cases z))]; exact e⟩)
      · exact .inr e
    refine ⟨_, rfl, q0, ws, rfl, hL2, hne, h60, fun H3 q s3 hq0 hq3 => ?_⟩
    have hp3 := s3 _ _ (upd_same (H := H1) (a := p))
    have nqp : q ≠ p := fun e => by
      rw [e, upd_same] at hq0
      cases hq0
    have k3 : ∀ c o, c ≠ p → H c = some o → H3 c = some o := fun c o n e => s3 _ _ (k2 c o n e)
    have hqn : H q = none := by
      cases e : H q with
      | none => rfl
      | some o =>
        rw [k2 q o nqp e] at hq0
        cases hq0
    refine ⟨_, rfl, p, C, dx, _, rfl, hp3, TW.cl, TW.nW, by rw [pt_nil]; simp, ?_⟩
    refine ⟨_, rfl, _, rfl, p, C, dx, _, rfl, upd_same, TW.cl, TW.nT, by rw [pt_nil, pt_miss ne_bw, pt_nil]; simp, ?_⟩
    refine ⟨_, rfl, p, C, dx, _, rfl, upd_same, TW.cl, TW.nF, by rw [pt_nil, pt_miss ne_bw, pt_nil, pt_miss ne_bt, pt_miss ne_wt, pt_nil]; simp, ?_⟩
    refine fun l hl => ⟨_, rfl, p, C, dx, putF "following" (.int 0) (putF "tick" (.int (t : Nat)) (putF "words" (.ref q) (putF "base" (.int (b : Nat)) []))), rfl, ?_, TW.cl, TW.nL, by rw [pt_nil, pt_miss ne_bw, pt_nil, pt_miss ne_bt, pt_miss ne_wt, pt_nil, pt_miss ne_bf, pt_miss ne_wf, pt_miss ne_tf, pt_nil]; simp, ?_⟩
    · have nlp : p ≠ l := fun e => by
        rw [← e, upd_same] at hl
        cases hl
      rw [upd_ne nlp, upd_same]
    have nlp : l ≠ p := fun e => by
      rw [e, upd_same] at hl
      cases hl
    rw [upd_ne nlp, upd_ne nlp, upd_ne nlp] at hl
    have nlq : l ≠ q := fun e => by
      rw [e, hq3] at hl
      cases hl
    have hln : H l = none := by
      cases e : H l with
      | none => rfl
      | some o =>
        rw [k3 l o nlp e] at hl
        cases hl
    refine c _ q l (fun c o n e => ?_) hqn hln ⟨⟨dx, ?_⟩, ?_, ⟨[], ?_, trivial⟩⟩
    · rw [upd_ne n, upd_ne (fun z => by rw [z, hln] at e; cases e), upd_ne n, upd_ne n, upd_ne n]
      exact k3 c o n e
    · rw [upd_same, pt_nil, pt_miss ne_bw, pt_nil, pt_miss ne_bt, pt_miss ne_wt, pt_nil, pt_miss ne_bf, pt_miss ne_wf, pt_miss ne_tf, pt_nil, pt_miss ne_bl, pt_miss ne_wl, pt_miss ne_tl, pt_miss ne_fl, pt_nil]
      rfl
    · rw [upd_ne nqp, upd_ne (Ne.symm nlq), upd_ne nqp, upd_ne nqp, upd_ne nqp]
      exact hq3
    · rw [upd_ne nlp, upd_same]
end
section
variable {P : Program} {w : World} {K : PySem.W.Frag} {mg : Str → Option Value} {base : Heap}
theorem no_ct {b : Nat} {q : Addr} {t f : Nat} {l : Addr} : (wfl b q t f l).lookup ("check_timer" : Str) = none := wf_no (by decide +kernel) (by decide +kernel) (by decide +kernel) (by decide +kernel) (by decide +kernel)
def spCheckTimer (C : Addr) : Sp := fun vs H Q _ => ∃ (p q l : Addr) (W : WS) (n : Nat), vs = [.ref p, .int (n : Nat)] ∧ WheelAt C H p q l W ∧ (W.live.map (·.num)).Nodup ∧ (∃ m ∈ W.live, m.num = n) ∧ Q .non H
theorem ok_check_timer {f C : Addr} {fd : FuncData} (F : Fun K "check_timer" "Wheel.check_timer" s_Wheel_check_timer f fd) (TW : TxW K mg C) (h1 : Has P w K mg base 1 "is_integer" ["given"] [] spIsInt) : FnOk P w K mg base CX0 2 f fd ["self", "timer"] (spCheckTimer C) := by
  obtain ⟨f_is_integer, fd_is_integer, ds_is_integer, G_is_integer, m_is_integer, k_is_integer, b_is_integer, v_is_integer⟩ := h1
  refine F.ok sc_Wheel_check_timer (fun vs H Q E h => ?_) (fun cdv A outer s H vs Q E hr h => ?_)
  · obtain ⟨p, q, l, W, n, rfl, _⟩ := h
    rfl
  · obtain ⟨p, q, l, W, n, rfl, hw, nd, ⟨m, hm, en⟩, c⟩ := h
    have hu := hu_of hr
    obtain ⟨dx, hp⟩ := hw.ins
    obtain ⟨kvs, hl, L⟩ := hw.live
    obtain ⟨tt, hv, ht⟩ := L.val_of nd hm
    rw [en] at hv
    refine ⟨_, (pss_one (ps_if (PW.pt (pw_or (pt_not (pt_val (pe_call G_is_integer hr (by rfl) m_is_integer k_is_integer b_is_integer v_is_integer pass0 (pa_cons (pv 1) pa_nil)))) (pw_or1 (pt_cmp (pc_dnotin hu (pv 1) (pe_fld (pv 0) rfl))))))
        (pss_one ps_never)
        pss_nil)), ?_⟩
    refine ⟨_, rfl, (n : Nat), rfl, true, rfl, iteF ?_⟩
    refine ⟨_, rfl, _, rfl, p, C, dx, _, _, rfl, hp, TW.cl, TW.nL, wf_l, l, some (.ref tt), rfl, ?_, false, rfl, iteF c⟩
    rw [← hv]
    exact DGet.k (k := Sum.inl (n : Int)) hl
def spNow (C : Addr) : Sp := fun vs H Q _ => ∃ (p q l : Addr) (W : WS), vs = [.ref p] ∧ WheelAt C H p q l W ∧ Q (.int (W.tick : Nat)) H
theorem ok_now {f C : Addr} {fd : FuncData} (F : Fun K "now" "Wheel.now" s_Wheel_now f fd) (TW : TxW K mg C) : FnOk P w K mg base CX0 1 f fd ["self"] (spNow C) := by
  refine F.ok sc_Wheel_now (fun vs H Q E h => ?_) (fun cdv A outer s H vs Q E hr h => ?_)
  · obtain ⟨p, q, l, W, rfl, _⟩ := h
    rfl
  · obtain ⟨p, q, l, W, rfl, hw, c⟩ := h
    obtain ⟨dx, hp⟩ := hw.ins
    refine ⟨_, (pss_one (ps_ret (pe_fld (pv 0) rfl))), ?_⟩
    exact ⟨_, rfl, p, C, dx, _, _, rfl, hp, TW.cl, TW.nT, wf_t, c⟩
def spPut (C : Addr) : Sp := fun vs H Q _ => ∃ (p q l : Addr) (W : WS) (d : Nat) (o : Option Nat), vs = [.ref p, .int (d : Nat), perV o] ∧ WheelAt C H p q l W ∧ WOk W ∧ W.live.length < 1000 ∧ W.tick < d ∧ (∀ k, o = some k → 1 ≤ k) ∧
  ∀ H', Wk p l H H' l → WheelAt C H' p q l { W with fol := W.fol + 1, live := W.live ++ [⟨W.fol, d, o, W.tick⟩] } → Q (.int (W.fol : Nat)) H'
theorem ok_put {f C : Addr} {fd : FuncData} (F : FunD K "put" "Wheel.put" (defArgs s_Wheel_put) (defBody s_Wheel_put) (defScope s_Wheel_put) [] [("period", .non)] f fd) (TW : TxW K mg C) (h1 : Has P w K mg base 3 "check_tick" ["tick", "least"] [] spCheckTick)
    (h2 : Has P w K mg base 3 "check_period" ["period"] [] spCheckPeriod) : FnOk P w K mg base CX0 4 f fd ["self", "due", "period"] (spPut C) := by
  obtain ⟨f_check_tick, fd_check_tick, ds_check_tick, G_check_tick, m_check_tick, k_check_tick, b_check_tick, v_check_tick⟩ := h1
  obtain ⟨f_check_period, fd_check_period, ds_check_period, G_check_period, m_check_period, k_check_period, b_check_period, v_check_period⟩ := h2
  refine F.ok sc_Wheel_put (fun vs H Q E h => ?_) (fun cdv A outer s H vs Q E hr h => ?_)
  · obtain ⟨p, q, l, W, d, o, rfl, _⟩ := h
    rfl
  · obtain ⟨p, q, l, W, d, o, rfl, hw, ok, few, htd, hper, c⟩ := h
    have hu := hu_of hr
    obtain ⟨dx, hp⟩ := hw.ins
    obtain ⟨kvs, hl, L⟩ := hw.live
    refine ⟨_, PSs.nox (pss_cons (ps_expr (pe_call G_check_tick hr (by rfl) m_check_tick k_check_tick b_check_tick v_check_tick pass0 (pa_cons (pv 1) (pa_cons (pe_op op_add (pe_fld (pv 0) rfl) pe_int) pa_nil))))
      (pss_cons (ps_expr (pe_call G_check_period hr (by rfl) m_check_period k_check_period b_check_period v_check_period pass0 (pa_cons (pv 2) pa_nil)))
      (pss_cons (ps_set (i := 3) sc_Wheel_put.nd rfl (.inl rfl) (pe_fld (pv 0) rfl))
      (pss_cons (ps_fldaug (pv 0) pe_int in_add)
      (pss_cons (ps_dput hu (pe_fld (pv 0) rfl) (pv 3) (pe_tup (pa_cons (pv 1) (pa_cons (pv 2) (pa_cons (pe_fld (pv 0) rfl) pa_nil)))) rfl)
      (pss_one (ps_ret (pv 3)))))))), ?_⟩
    refine ⟨_, rfl, _, rfl, p, C, dx, _, _, rfl, hp, TW.cl, TW.nT, wf_t, _, 1, rfl, rfl, (d : Nat), _, rfl, by omega, ?_⟩
    refine ⟨_, rfl, o, rfl, hper, ?_⟩
    refine ⟨_, rfl, p, C, dx, _, _, rfl, hp, TW.cl, TW.nF, wf_f, ?_⟩
    refine ⟨_, rfl, p, C, dx, _, _, rfl, hp, TW.cl, TW.nF, wf_f, (W.fol : Nat), 1, rfl, rfl, dx, _, hp, by simp [wfl], ?_⟩
    have e1 : putF "following" (.int ((W.fol : Int) + 1)) (wfl W.b q W.tick W.fol l) = wfl W.b q W.tick (W.fol + 1) l := wf_pf (f' := W.fol + 1)
    have npl : l ≠ p := ne_of hl hp (by intro z; cases z)
    have hp2 : (upd H p (.ins C dx (putF "following" (.int ((W.fol : Int) + 1)) (wfl W.b q W.tick W.fol l)))) p = some (.ins C dx (wfl W.b q W.tick (W.fol + 1) l)) := by rw [upd_same, e1]
    refine ⟨_, rfl, _, rfl, _, rfl, p, C, dx, _, _, rfl, hp2, TW.cl, TW.nT, wf_t, by simp [sizeLine_eq], fun u hu0 => ?_⟩
    have nup : u ≠ p := fun e => by
      rw [e, upd_same] at hu0
      cases hu0
    rw [upd_ne nup] at hu0
    have nul : u ≠ l := fun e => by
      rw [e, hl] at hu0
      cases hu0
    generalize hH2 : upd (upd H p (.ins C dx (putF "following" (.int ((W.fol : Int) + 1)) (wfl W.b q W.tick W.fol l)))) u (.tup [.int (d : Nat), perV o, .int (W.tick : Nat)]) = H2
    have a1 : H2 p = some (.ins C dx (wfl W.b q W.tick (W.fol + 1) l)) := by rw [← hH2, upd_ne (Ne.symm nup)]; exact hp2
    have a2 : H2 u = some (.tup (tmV ⟨W.fol, d, o, W.tick⟩)) := by rw [← hH2, upd_same]; rfl
    have a3 : ∀ c o, c ≠ p → H c = some o → H2 c = some o := fun c o n e => by
      rw [← hH2, upd_ne (ne_of_none e hu0), upd_ne n]
      exact e
    have a4 := a3 _ _ npl hl
    have L2' : LiveK H2 kvs W.live := L.frame fun t m e => a3 _ _ (ne_of e hp (by intro z; cases z)) e
    have hvn := L2'.val_not (n := W.fol) fun m hm => Nat.ne_of_lt (ok.tms m hm).num
    refine ⟨_, rfl, p, C, dx, _, _, rfl, a1, TW.cl, TW.nL, wf_l, _, rfl, l, _, rfl, DPut.k (k := Sum.inl (W.fol : Int)) a4 (by rw [L.len]; exact sizeLine_ge (by omega)), ?_⟩
    rw [putK_new _ hvn]
    refine ⟨_, rfl, c _ ⟨fun c o n1 n2 e => ?_, .inl rfl⟩ ⟨⟨dx, ?_⟩, ?_, ⟨_, upd_same, ?_⟩⟩⟩
    · rw [upd_ne n2]
      exact a3 c o n1 e
    · rw [upd_ne (Ne.symm npl)]
      exact a1
    · rw [upd_ne (ne_of hw.words hl (by intro z; cases z))]
      exact a3 _ _ (ne_of hw.words hp (by intro z; cases z)) hw.words
    · exact LiveK.upd a4 (fun xs z => by cases z) (L2'.snoc (m := ⟨W.fol, d, o, W.tick⟩) rfl a2)
def spDue (C : Addr) : Sp := fun vs H Q _ => ∃ (p q l : Addr) (W : WS) (m : Tm), vs = [.ref p, .int (m.num : Nat)] ∧ WheelAt C H p q l W ∧ (W.live.map (·.num)).Nodup ∧ m ∈ W.live ∧ Q (.int (m.due : Nat)) H
theorem ok_due {f C : Addr} {fd : FuncData} (F : Fun K "due" "Wheel.due" s_Wheel_due f fd) (TW : TxW K mg C) (h1 : HasM P w K mg base 2 C "check_timer" ["self", "timer"] [] (spCheckTimer C)) : FnOk P w K mg base CX0 3 f fd ["self", "timer"] (spDue C) := by
  obtain ⟨f_ct, fd_ct, ds_ct, G_Wheel_check_timer, M_Wheel_check_timer, b_Wheel_check_timer, v_Wheel_check_timer⟩ := h1
  have cl_Wheel := TW.cl
  refine F.ok sc_Wheel_due (fun vs H Q E h => ?_) (fun cdv A outer s H vs Q E hr h => ?_)
  · obtain ⟨p, q, l, W, m, rfl, _⟩ := h
    rfl
  · obtain ⟨p, q, l, W, m, rfl, hw, nd, hm, c⟩ := h
    have hu := hu_of hr
    obtain ⟨dx, hp⟩ := hw.ins
    obtain ⟨kvs, hl, L⟩ := hw.live
    obtain ⟨tt, hv, ht⟩ := L.val_of nd hm
    refine ⟨_, (pss_cons (ps_expr (pe_meth (pv 0) cl_Wheel M_Wheel_check_timer G_Wheel_check_timer hr b_Wheel_check_timer v_Wheel_check_timer pass0 (pa_cons (pv 1) pa_nil)))
      (pss_one (ps_ret (pe_ix (ix_tupK (K := K) rfl) (pe_dget hu (pe_fld (pv 0) rfl) (pv 1) (fun _ _ => rfl)) pe_int (fun _ _ => rfl))))), ?_⟩
    refine ⟨_, rfl, p, dx, _, rfl, hp, no_ct, _, rfl, p, q, l, W, m.num, rfl, hw, nd, ⟨m, hm, rfl⟩, ?_⟩
    refine ⟨_, rfl, p, C, dx, _, _, rfl, hp, TW.cl, TW.nL, wf_l, _, rfl, l, .ref tt, rfl, ?_, tt, _, 0, _, rfl, rfl, SqT.of ht, atI_nat (j := 0) rfl, c⟩
    rw [← hv]
    exact DGet.k (k := Sum.inl (m.num : Int)) hl
def spTimers (C : Addr) : Sp := fun vs H Q _ => ∃ (p q l : Addr) (W : WS), vs = [.ref p] ∧ WheelAt C H p q l W ∧ W.live.length < 64 ∧
  ∀ H' r (ns : List Nat), Same H H' → H r = none → H' r = some (.lst (ns.map fun x => V.int (x : Nat))) → ns.Perm (W.live.map (·.num)) → ns.Pairwise (· ≤ ·) → Q (.ref r) H'
theorem nats_of : ∀ {ys : List Int} {ns : List Nat}, (∀ y ∈ ys, 0 ≤ y) → (ys.map Int.toNat).map (fun n : Nat => (n : Int)) = ys
  | [], _, _ => rfl
  | y :: ys, _, h => by
    rw [List.map_cons, List.map_cons, nats_of (ns := []) fun z hz => h z (List.mem_cons_of_mem _ hz), Int.toNat_of_nonneg (h y (List.mem_cons_self ..))]
theorem ok_timers {f C : Addr} {fd : FuncData} (F : Fun K "timers" "Wheel.timers" s_Wheel_timers f fd) (T : Tx K mg) (TW : TxW K mg C) : FnOk P w K mg base CX0 1 f fd ["self"] (spTimers C) := by
  refine F.ok sc_Wheel_timers (fun vs H Q E h => ?_) (fun cdv A outer s H vs Q E hr h => ?_)
  · obtain ⟨p, q, l, W, rfl, _⟩ := h
    rfl
  · obtain ⟨p, q, l, W, rfl, hw, h64, c⟩ := h
    obtain ⟨dx, hp⟩ := hw.ins
    obtain ⟨kvs, hl, L⟩ := hw.live
    refine ⟨_, (pss_one (ps_ret (pe_callB (call_sortedDI rfl) (by rfl) T.b_sorted (by decide +kernel) (pa_cons (pe_fld (pv 0) rfl) pa_nil)))), ?_⟩
    refine ⟨_, rfl, p, C, dx, _, _, rfl, hp, TW.cl, TW.nL, wf_l, l, kvs, W.live.map fun m => (m.num : Int), rfl, .inl hl, ?_, by rw [List.length_map]; exact h64, fun ys r hperm hsort hr0 => ?_⟩
    · rw [L.keys, List.map_map]
      rfl
    · have hnn : ∀ y ∈ ys, 0 ≤ y := fun y hy => by
        obtain ⟨m, _, e⟩ := List.mem_map.mp (hperm.mem_iff.mp hy)
        rw [← e]
        omega
      have e := nats_of (ns := []) hnn
      refine c _ r (ys.map Int.toNat) (same_upd hr0) hr0 ?_ ?_ ?_
      · rw [upd_same]
        have e2 : (ys.map Int.toNat).map (fun x : Nat => V.int (x : Nat)) = ys.map V.int := by
          have z := congrArg (List.map V.int) e
          rw [List.map_map] at z
          exact z
        rw [e2]
      · have z := hperm.map Int.toNat
        rw [List.map_map] at z
        have e3 : (W.live.map (Int.toNat ∘ fun m => (m.num : Int))) = W.live.map (·.num) := List.map_congr_left fun m _ => Int.toNat_natCast m.num
        rw [e3] at z
        exact z
      · rw [List.pairwise_map]
        exact hsort.imp fun h => Int.toNat_le_toNat h
end
section
variable {P : Program} {w : World} {K : PySem.W.Frag} {mg : Str → Option Value} {base : Heap}
def spCancel (C : Addr) : Sp := fun vs H Q _ => ∃ (p q l : Addr) (W : WS) (n : Nat), vs = [.ref p, .int (n : Nat)] ∧ WheelAt C H p q l W ∧ (W.live.map (·.num)).Nodup ∧ (∃ m ∈ W.live, m.num = n) ∧
  ∀ H', Wk p l H H' l → WheelAt C H' p q l { W with live := dropT n W.live } → Q .non H'
theorem ok_cancel {f C : Addr} {fd : FuncData} (F : Fun K "cancel" "Wheel.cancel" s_Wheel_cancel f fd) (TW : TxW K mg C) (h1 : HasM P w K mg base 2 C "check_timer" ["self", "timer"] [] (spCheckTimer C)) : FnOk P w K mg base CX0 3 f fd ["self", "timer"] (spCancel C) := by
  obtain ⟨f_ct, fd_ct, ds_ct, G_Wheel_check_timer, M_Wheel_check_timer, b_Wheel_check_timer, v_Wheel_check_timer⟩ := h1
  have cl_Wheel := TW.cl
  refine F.ok sc_Wheel_cancel (fun vs H Q E h => ?_) (fun cdv A outer s H vs Q E hr h => ?_)
  · obtain ⟨p, q, l, W, n, rfl, _⟩ := h
    rfl
  · obtain ⟨p, q, l, W, n, rfl, hw, nd, hin, c⟩ := h
    obtain ⟨dx, hp⟩ := hw.ins
    obtain ⟨kvs, hl, L⟩ := hw.live
    refine ⟨_, (pss_cons (ps_expr (pe_meth (pv 0) cl_Wheel M_Wheel_check_timer G_Wheel_check_timer hr b_Wheel_check_timer v_Wheel_check_timer pass0 (pa_cons (pv 1) pa_nil)))
      (pss_one (ps_ddel (pe_fld (pv 0) rfl) (pv 1)))), ?_⟩
    refine ⟨_, rfl, p, dx, _, rfl, hp, no_ct, _, rfl, p, q, l, W, n, rfl, hw, nd, hin, ?_⟩
    obtain ⟨m, hm, en⟩ := hin
    obtain ⟨tt, hv, ht⟩ := L.val_of nd hm
    rw [en] at hv
    have npl : l ≠ p := ne_of hl hp (by intro z; cases z)
    refine ⟨_, rfl, p, C, dx, _, _, rfl, hp, TW.cl, TW.nL, wf_l, _, rfl, l, kvs, Sum.inl (n : Int), rfl, hl, rfl, by rw [hv]; rfl, ?_⟩
    refine c _ ⟨fun c o n1 n2 e => ?_, .inl rfl⟩ ⟨⟨dx, ?_⟩, ?_, ⟨_, upd_same, ?_⟩⟩
    · rw [upd_ne n2]
      exact e
    · rw [upd_ne (Ne.symm npl)]
      exact hp
    · rw [upd_ne (ne_of hw.words hl (by intro z; cases z))]
      exact hw.words
    · exact LiveK.upd hl (fun xs z => by cases z) L.drop
def spReset (C : Addr) : Sp := fun vs H Q _ => ∃ (p q l : Addr) (W : WS) (m : Tm) (d : Nat), vs = [.ref p, .int (m.num : Nat), .int (d : Nat)] ∧ WheelAt C H p q l W ∧ (W.live.map (·.num)).Nodup ∧ W.live.length ≤ 1000 ∧ m ∈ W.live ∧ W.tick < d ∧
  ∀ H', Wk p l H H' l → WheelAt C H' p q l { W with live := dropT m.num W.live ++ [⟨m.num, d, m.per, W.tick⟩] } → Q .non H'
theorem ok_reset {f C : Addr} {fd : FuncData} (F : Fun K "reset" "Wheel.reset" s_Wheel_reset f fd) (TW : TxW K mg C) (h1 : HasM P w K mg base 2 C "check_timer" ["self", "timer"] [] (spCheckTimer C)) (h2 : Has P w K mg base 3 "check_tick" ["tick", "least"] [] spCheckTick) :
    FnOk P w K mg base CX0 4 f fd ["self", "timer", "due"] (spReset C) := by
  obtain ⟨f_ct, fd_ct, ds_ct, G_Wheel_check_timer, M_Wheel_check_timer, b_Wheel_check_timer, v_Wheel_check_timer⟩ := h1
  obtain ⟨f_check_tick, fd_check_tick, ds_check_tick, G_check_tick, m_check_tick, k_check_tick, b_check_tick, v_check_tick⟩ := h2
  have cl_Wheel := TW.cl
  refine F.ok sc_Wheel_reset (fun vs H Q E h => ?_) (fun cdv A outer s H vs Q E hr h => ?_)
  · obtain ⟨p, q, l, W, m, d, rfl, _⟩ := h
    rfl
  · obtain ⟨p, q, l, W, m, d, rfl, hw, nd, few, hm, htd, c⟩ := h
    have hu := hu_of hr
    obtain ⟨dx, hp⟩ := hw.ins
    obtain ⟨kvs, hl, L⟩ := hw.live
    obtain ⟨tt, hv, ht⟩ := L.val_of nd hm
    have npl : l ≠ p := ne_of hl hp (by intro z; cases z)
    refine ⟨_, (pss_cons (ps_expr (pe_meth (pv 0) cl_Wheel M_Wheel_check_timer G_Wheel_check_timer (hr.mono (by decide)) b_Wheel_check_timer v_Wheel_check_timer pass0 (pa_cons (pv 1) pa_nil)))
      (pss_cons (ps_expr (pe_call G_check_tick hr (by rfl) m_check_tick k_check_tick b_check_tick v_check_tick pass0 (pa_cons (pv 2) (pa_cons (pe_op op_add (pe_fld (pv 0) rfl) pe_int) pa_nil))))
      (pss_cons (ps_asg (pe_dpop1 (pe_fld (pv 0) rfl) (pv 1) ⟨by rfl, by rfl, by rfl, by rfl⟩) (pg_tupK (K := K) (n := 3) rfl rfl (pgs_cons (pg_name (i := 3) sc_Wheel_reset.nd rfl (.inl rfl)) (pgs_cons (pg_name (i := 4) sc_Wheel_reset.nd rfl (.inl rfl)) (pgs_cons (pg_name (i := 5) sc_Wheel_reset.nd rfl (.inl rfl)) pgs_nil)))))
      (pss_one (ps_dput hu (pe_fld (pv 0) rfl) (pv 1) (pe_tup (pa_cons (pv 2) (pa_cons (pv 4) (pa_cons (pe_fld (pv 0) rfl) pa_nil)))) rfl))))), ?_⟩
    refine ⟨_, rfl, p, dx, _, rfl, hp, no_ct, _, rfl, p, q, l, W, m.num, rfl, hw, nd, ⟨m, hm, rfl⟩, ?_⟩
    refine ⟨_, rfl, _, rfl, p, C, dx, _, _, rfl, hp, TW.cl, TW.nT, wf_t, _, 1, rfl, rfl, (d : Nat), _, rfl, by omega, ?_⟩
    refine ⟨_, rfl, p, C, dx, _, _, rfl, hp, TW.cl, TW.nL, wf_l, l, rfl, .inl ⟨_, .inl hl⟩, _, rfl, kvs, Sum.inl (m.num : Int), _, hl, rfl, hv, ?_⟩
    have hl1 : (upd H l (.dK (dropK kvs (Sum.inl (m.num : Int))))) l = some (.dK (dropK kvs (Sum.inl (m.num : Int)))) := upd_same
    have hp1 : (upd H l (.dK (dropK kvs (Sum.inl (m.num : Int))))) p = some (.ins C dx (wfl W.b q W.tick W.fol l)) := by rw [upd_ne (Ne.symm npl)]; exact hp
    have ht1 : (upd H l (.dK (dropK kvs (Sum.inl (m.num : Int))))) tt = some (.tup (tmV m)) := by rw [upd_ne (ne_of ht hl (by intro z; cases z))]; exact ht
    have Ld := (L.drop (n := m.num)).upd (o' := .dK (dropK kvs (Sum.inl (m.num : Int)))) hl (fun xs z => by cases z)
    refine ⟨tt, _, rfl, .inl (.inl ht1), rfl, _, _, rfl, _, _, rfl, _, _, rfl, rfl, ?_⟩
    refine ⟨_, rfl, _, rfl, _, rfl, p, C, dx, _, _, rfl, hp1, TW.cl, TW.nT, wf_t, by simp [sizeLine_eq], fun u hu0 => ?_⟩
    have su := same_upd (o := .tup (tmV ⟨m.num, d, m.per, W.tick⟩)) hu0
    have hvn := Ld.val_not (n := m.num) (fun m' hm' => drop_not m' hm')
    have hlen : (dropK kvs (Sum.inl (m.num : Int))).length < sizeLine := by
      have z := dropK_le kvs (Sum.inl (m.num : Int) : Key)
      rw [L.len] at z
      exact sizeLine_ge (by omega)
    refine ⟨_, rfl, p, C, dx, _, _, rfl, su _ _ hp1, TW.cl, TW.nL, wf_l, _, rfl, l, _, rfl, DPut.k (k := Sum.inl (m.num : Int)) (su _ _ hl1) hlen, ?_⟩
    rw [putK_new _ hvn]
    refine c _ ⟨fun c o n1 n2 e => ?_, .inl rfl⟩ ⟨⟨dx, ?_⟩, ?_, ⟨_, upd_same, ?_⟩⟩
    · rw [upd_ne n2]
      exact su _ _ (by rw [upd_ne n2]; exact e)
    · rw [upd_ne (Ne.symm npl)]
      exact su _ _ hp1
    · have n := ne_of hw.words hl (by intro z; cases z)
      rw [upd_ne n]
      exact su _ _ (by rw [upd_ne n]; exact hw.words)
    · exact LiveK.upd (su _ _ hl1) (fun xs z => by cases z) ((Ld.same su).snoc (m := ⟨m.num, d, m.per, W.tick⟩) rfl upd_same)
end
/-! ### advance, next_event -/
/-- the list of what fired: tuples of the tick and a list of numbers -/
def FiredAt (r : Addr) (H : Hp) : List Addr → List (Nat × List Nat) → Prop
  | [], [] => True
  | t :: ts, f :: fs => (∃ u, H t = some (.tup [.int (f.1 : Nat), .ref u]) ∧ u ≠ r ∧ H u = some (.lst (f.2.map fun x => V.int (x : Nat)))) ∧ FiredAt r H ts fs
  | _, _ => False
theorem FiredAt.frame {r : Addr} {H H' : Hp} (s : ∀ t a u, H t = some (.tup [a, .ref u]) → H' t = some (.tup [a, .ref u])) (s2 : ∀ u (xs : List Nat), u ≠ r → H u = some (.lst (xs.map fun x => V.int (x : Nat))) → H' u = some (.lst (xs.map fun x => V.int (x : Nat)))) : ∀ {ts : List Addr} {fs : List (Nat × List Nat)}, FiredAt r H ts fs → FiredAt r H' ts fs
  | [], [], _ => trivial
  | _ :: _, _ :: _, ⟨⟨u, h1, hn, h2⟩, h3⟩ => ⟨⟨u, s _ _ _ h1, hn, s2 _ _ hn h2⟩, h3.frame s s2⟩
  | [], _ :: _, h => h.elim
  | _ :: _, [], h => h.elim
theorem FiredAt.same {r : Addr} {H H' : Hp} (s : Same H H') {ts : List Addr} {fs : List (Nat × List Nat)} (h : FiredAt r H ts fs) : FiredAt r H' ts fs := h.frame (fun _ _ _ e => s _ _ e) fun _ _ _ e => s _ _ e
theorem FiredAt.app {r : Addr} {H : Hp} {t : Addr} {f : Nat × List Nat} : ∀ {ts : List Addr} {fs : List (Nat × List Nat)}, FiredAt r H ts fs → (∃ u, H t = some (.tup [.int (f.1 : Nat), .ref u]) ∧ u ≠ r ∧ H u = some (.lst (f.2.map fun x => V.int (x : Nat)))) → FiredAt r H (ts ++ [t]) (fs ++ [f])
  | [], [], _, h => ⟨h, trivial⟩
  | _ :: _, _ :: _, h, h2 => ⟨h.1, h.2.app h2⟩
  | [], _ :: _, h, _ => h.elim
  | _ :: _, [], h, _ => h.elim
theorem FiredAt.len {r : Addr} {H : Hp} : ∀ {ts : List Addr} {fs : List (Nat × List Nat)}, FiredAt r H ts fs → ts.length = fs.length
  | [], [], _ => rfl
  | _ :: _, _ :: _, h => congrArg Nat.succ h.2.len
  | [], _ :: _, h => h.elim
  | _ :: _, [], h => h.elim
section
variable {P : Program} {w : World} {K : PySem.W.Frag} {mg : Str → Option Value} {base : Heap}
def spAdvance (C : Addr) : Sp := fun vs H Q _ => ∃ (p q l : Addr) (W : WS) (t : Nat) (fired : List (Nat × List Nat)) (ms' : List Tm), vs = [.ref p, .int (t : Nat)] ∧ WheelAt C H p q l W ∧ 2 ≤ W.b ∧ W.b ≤ 64 ∧ W.ws ≠ [] ∧ W.live.length ≤ 1000 ∧ W.tick ≤ t ∧ AdvTo W.b W.ws t W.live fired ms' ∧ total fired ≤ 2000 ∧
  ∀ H' r l' ts, Wk p l H H' l' → H r = none → H' r = some (.lst (ts.map V.ref)) → FiredAt r H' ts fired → WheelAt C H' p q l' { W with tick := t, live := ms' } → Q (.ref r) H'
theorem fire_tick (t : Nat) (ms : List Tm) (ns : List Nat) : (afterF t ms ns).length ≤ ms.length := by
  unfold afterF
  induction ns generalizing ms with
  | nil => exact Nat.le_refl _
  | cons n ns ih => exact Nat.le_trans (ih (fireT t ms n)) fire_len
theorem ok_advance {f C : Addr} {fd : FuncData} (F : Fun K "advance" "Wheel.advance" s_Wheel_advance f fd) (T : Tx K mg) (TW : TxW K mg C) (hM : ∃ t, mg "MOST_FIRINGS" = some (.int 2000 t)) (h1 : Has P w K mg base 3 "check_tick" ["tick", "least"] [] spCheckTick)
    (h2 : Has P w K mg base 1 "least_due" ["live"] [] spLeast) (h3 : Has P w K mg base 5 "order_of_firing" ["base", "levels", "live", "tick"] [] (spOrder K)) (h4 : Has P w K mg base 1 "after_firing" ["live", "numbers", "tick"] [] spAfter) :
    FnOk P w K mg base CX0 6 f fd ["self", "tick"] (spAdvance C) := by
  obtain ⟨f_check_tick, fd_check_tick, ds_check_tick, G_check_tick, m_check_tick, k_check_tick, b_check_tick, v_check_tick⟩ := h1
  obtain ⟨f_least_due, fd_least_due, ds_least_due, G_least_due, m_least_due, k_least_due, b_least_due, v_least_due⟩ := h2
  obtain ⟨f_order_of_firing, fd_order_of_firing, ds_order_of_firing, G_order_of_firing, m_order_of_firing, k_order_of_firing, b_order_of_firing, v_order_of_firing⟩ := h3
  obtain ⟨f_after_firing, fd_after_firing, ds_after_firing, G_after_firing, m_after_firing, k_after_firing, b_after_firing, v_after_firing⟩ := h4
  obtain ⟨tM, g_MOST_FIRINGS⟩ := hM
  refine F.ok sc_Wheel_advance (fun vs H Q E h => ?_) (fun cdv A outer s H vs Q E hr h => ?_)
  · obtain ⟨p, q, l, W, t, fired, ms', rfl, _⟩ := h
    rfl
  · obtain ⟨p, q, l, W, t, fired, ms', rfl, hw, hb, hb64, hne, few, htt, adv, tot, c⟩ := h
    obtain ⟨dx, hp⟩ := hw.ins
    obtain ⟨kvs, hl, L⟩ := hw.live
    refine ⟨_, (pss_cons (ps_expr (pe_call G_check_tick (hr.mono (by decide)) (by rfl) m_check_tick k_check_tick b_check_tick v_check_tick pass0 (pa_cons (pv 1) (pa_cons (pe_fld (pv 0) rfl) pa_nil))))
      (pss_cons (ps_set (i := 2) sc_Wheel_advance.nd rfl (.inl rfl) (pe_lst pa_nil))
      (pss_cons (ps_set (i := 3) sc_Wheel_advance.nd rfl (.inl rfl) pe_int)
      (pss_cons (ps_set (i := 4) sc_Wheel_advance.nd rfl (.inl rfl) (pe_fld (pv 0) rfl))
      (pss_cons (ps_set (i := 5) sc_Wheel_advance.nd rfl (.inl rfl) (pe_call G_least_due (hr.mono (by decide)) (by rfl) m_least_due k_least_due b_least_due v_least_due pass0 (pa_cons (pv 4) pa_nil)))
      (pss_cons (ps_while PassesOwn.never (PW.pt (pw_and (pt_cmpR op_notN (pv 5) pe_non (nomark _)) (pw_and1 (pt_cmpR op_le (pv 5) (pv 1) (nomark _)))))
        (pss_cons (ps_set (i := 6) sc_Wheel_advance.nd rfl (.inl rfl) (pe_call G_order_of_firing hr (by rfl) m_order_of_firing k_order_of_firing b_order_of_firing v_order_of_firing pass0 (pa_cons (pe_fld (pv 0) rfl) (pa_cons (pe_fld (pv 0) rfl) (pa_cons (pv 4) (pa_cons (pv 5) pa_nil))))))
        (pss_cons (ps_aug (i := 3) sc_Wheel_advance.nd rfl (.inl rfl) (pe_callB (lenK (K := K) rfl) (by rfl) T.b_len PySem.boot_len (pa_cons (pv 6) pa_nil)) ip_add)
        (pss_cons (ps_if (pt_cmpR op_gt (pv 3) (pe_glob (v := .int 2000) rfl g_MOST_FIRINGS ⟨_, rfl⟩) (nomark _))
          (pss_one ps_never)
          pss_nil)
        (pss_cons (ps_expr (pe_bm PySem.F.plainAttrs_list PySem.F.slot_list_append PySem.F.type_list_append mt_append (pv 2) (pa_cons (pe_tup (pa_cons (pv 5) (pa_cons (pv 6) pa_nil))) pa_nil)))
        (pss_cons (ps_set (i := 4) sc_Wheel_advance.nd rfl (.inl rfl) (pe_call G_after_firing (hr.mono (by decide)) (by rfl) m_after_firing k_after_firing b_after_firing v_after_firing pass0 (pa_cons (pv 4) (pa_cons (pv 6) (pa_cons (pv 5) pa_nil)))))
        (pss_one (ps_set (i := 5) sc_Wheel_advance.nd rfl (.inl rfl) (pe_call G_least_due (hr.mono (by decide)) (by rfl) m_least_due k_least_due b_least_due v_least_due pass0 (pa_cons (pv 4) pa_nil))))))))))
      (pss_cons (ps_fld (pv 0) (pv 4) rfl)
      (pss_cons (ps_fld (pv 0) (pv 1) rfl)
      (pss_one (ps_ret (pv 2))))))))))), ?_⟩
    refine ⟨_, rfl, _, rfl, p, C, dx, _, _, rfl, hp, TW.cl, TW.nT, wf_t, (t : Nat), _, rfl, by omega, ?_⟩
    refine ⟨by simp [sizeLine_eq], fun r hr0 => ?_⟩
    have s1 := same_upd (o := .lst []) hr0
    refine ⟨_, rfl, p, C, dx, _, _, rfl, s1 _ _ hp, TW.cl, TW.nL, wf_l, ?_⟩
    refine ⟨_, rfl, l, kvs, W.live, rfl, s1 _ _ hl, L.same s1, few, fun H2 s2 => ?_⟩
    have s12 := s1.trans s2
    refine while_by (fun σ H' => ∃ (lc : Addr) (kvc : List (Key × V)) (ms : List Tm) (rest done : List (Nat × List Nat)) (ts : List Addr) (many : Nat) (y6 : Option V), σ = [some (.ref p), some (.int (t : Nat)), some (.ref r), some (.int (many : Nat)), some (.ref lc), some (perV (leastD ms)), y6] ∧ Same H H' ∧ H' lc = some (.dK kvc) ∧ LiveK H' kvc ms ∧ ms.length ≤ 1000 ∧ AdvTo W.b W.ws t ms rest ms' ∧ many + total rest ≤ 2000 ∧ ts.length ≤ many ∧ fired = done ++ rest ∧ H' r = some (.lst (ts.map V.ref)) ∧ FiredAt r H' ts done ∧ (lc = l ∨ H lc = none))
      (fun σ _ => 3000 - slotInt σ 3) ⟨l, kvs, W.live, fired, [], [], 0, none, rfl, s12, s12 _ _ hl, L.same s12, few, adv, by omega, Nat.le_refl _, rfl, s2 _ _ upd_same, trivial, .inl rfl⟩ ?_ ?_
    · rintro σ H' ⟨lc, kvc, ms, rest, done, ts, many, y6, rfl, sm, elc, Lc, fewc, advc, totc, htsm, efd, er, FA, hlc⟩
      have hp' := sm _ _ hp
      have hw' := sm _ _ hw.words
      -- the end of it
      have fin : rest = [] → ms = ms' → tSeq (sFld K (tVar 0) (tVar 4) "live") (tSeq (sFld K (tVar 0) (tVar 1) "tick") (tRet (tVar 2))) { nx := fun _ H' => Q .non H', rt := Q } [some (.ref p), some (.int (t : Nat)), some (.ref r), some (.int (many : Nat)), some (.ref lc), some (perV (leastD ms)), y6] H' := by
        rintro rfl rfl
        rw [List.append_nil] at efd
        have npr : p ≠ r := fun e => by
          rw [e, hr0] at hp
          cases hp
        have npl : lc ≠ p := ne_of elc hp' (by intro z; cases z)
        have nqp : q ≠ p := ne_of hw' hp' (by intro z; cases z)
        refine ⟨_, rfl, _, rfl, p, C, dx, _, rfl, hp', TW.cl, TW.nL, by simp [wfl], ?_⟩
        rw [wf_pl]
        refine ⟨_, rfl, _, rfl, p, C, dx, _, rfl, upd_same, TW.cl, TW.nT, by simp [wfl], ?_⟩
        rw [wf_pt]
        have k' : ∀ c o, c ≠ p → H' c = some o → (upd (upd H' p (.ins C dx (wfl W.b q W.tick W.fol lc))) p (.ins C dx (wfl W.b q t W.fol lc))) c = some o := fun c o n e => by
          rw [upd_ne n, upd_ne n]
          exact e
        refine ⟨_, rfl, c _ r lc ts ⟨fun c o n1 n2 e => k' c o n1 (sm _ _ e), hlc⟩ hr0 (k' _ _ (Ne.symm npr) er) ?_ ⟨⟨dx, upd_same⟩, k' _ _ nqp hw', ⟨kvc, k' _ _ npl elc, ?_⟩⟩⟩
        · rw [efd]
          exact FA.frame (fun t a u e => k' _ _ (ne_of e hp' (by intro z; cases z)) e) fun u xs _ e => k' _ _ (ne_of e hp' (by intro z; cases z)) e
        · exact Lc.frame fun t m e => k' _ _ (ne_of e hp' (by intro z; cases z)) e
      cases advc with
      | done hdone =>
        cases hle : leastD ms' with
        | none => exact ⟨_, rfl, rfl, false, rfl, iteF (iteF (by rw [← hle]; exact fin rfl rfl))⟩
        | some v =>
          obtain ⟨m, hm, em⟩ := List.mem_map.mp (least_some.mp hle).1
          have hmt := hdone m hm
          have hvt : ¬ ((v : Int) ≤ (t : Int)) := by omega
          refine ⟨_, rfl, rfl, true, rfl, iteT ⟨_, rfl, _, rfl, (v : Nat), (t : Nat), rfl, rfl, false, dF hvt, iteF ?_⟩⟩
          rw [show perV (some v) = perV (leastD ms') from by rw [hle]]
          exact fin rfl rfl
      | @step _ _ at_ rest' hle hat okm ndm fewm radv =>
        rw [hle]
        have hat' : ((at_ : Int) ≤ (t : Int)) := by omega
        have etot : total ((at_, orderAt W.b W.ws at_ ms) :: rest') = (orderAt W.b W.ws at_ ms).length + total rest' := by
          unfold total
          rw [List.map_cons, List.sum_cons]
        rw [etot] at totc
        have hpos := order_pos (b := W.b) (ws := W.ws) hle
        refine ⟨_, rfl, rfl, true, rfl, iteT ⟨_, rfl, _, rfl, (at_ : Nat), (t : Nat), rfl, rfl, true, dT hat', iteT ?_⟩⟩
        refine ⟨_, rfl, p, C, dx, _, _, rfl, hp', TW.cl, TW.nB, wf_b, _, rfl, p, C, dx, _, _, rfl, hp', TW.cl, TW.nW, wf_w, _, rfl, _, rfl, W.b, at_, q, lc, W.ws, kvc, ms, rfl, hb, hb64, SqL.of hw', hne, elc, Lc, fewc, okm, fun H3 pn s3 hpn0 epn => ?_⟩
        refine ⟨_, rfl, _, rfl, pn, _, rfl, .inl (SqL.of epn), (many : Nat), ((orderAt W.b W.ws at_ ms).length : Nat), rfl, congrArg (fun k : Nat => V.int (k : Nat)) (List.length_map ..), ?_⟩
        refine ⟨_, rfl, _, _, rfl, rfl, false, dF (by show ¬ ((2000 : Int) < (many : Int) + ((orderAt W.b W.ws at_ ms).length : Nat)); omega), iteF ?_⟩
        have er3 := s3 _ _ er
        have nrp : r ≠ pn := fun e => by
          rw [← e, er] at hpn0
          cases hpn0
        refine ⟨_, rfl, .inl ⟨rfl, _, .inl (.inl er3)⟩, _, rfl, _, rfl, by simp [sizeLine_eq], fun u hu0 => ?_⟩
        have su := same_upd (o := .tup [perV (some at_), .ref pn]) hu0
        have eru := su _ _ er3
        refine ⟨r, _, _, rfl, rfl, eru, by rw [List.length_map]; exact sizeLine_ge (by omega), ?_⟩
        generalize hH4 : upd (upd H3 u (.tup [perV (some at_), .ref pn])) r (.lst (ts.map V.ref ++ [.ref u])) = H4
        have k4 : ∀ c o, c ≠ r → H3 c = some o → H4 c = some o := fun c o n e => by
          rw [← hH4, upd_ne n]
          exact su _ _ e
        have nur : u ≠ r := fun e => by
          rw [e, er3] at hu0
          cases hu0
        have eu4 : H4 u = some (.tup [.int (at_ : Nat), .ref pn]) := by
          rw [← hH4, upd_ne nur]
          exact upd_same
        have er4 : H4 r = some (.lst ((ts ++ [u]).map V.ref)) := by
          rw [← hH4, upd_same, List.map_append]
          rfl
        have epn4 := k4 _ _ (Ne.symm nrp) epn
        have sm4 : Same H H4 := fun c o e => k4 c o (ne_of_none e hr0) (s3 _ _ (sm _ _ e))
        have nlr : lc ≠ r := ne_of elc er (by intro z; cases z)
        have elc4 := k4 _ _ nlr (s3 _ _ elc)
        have Lc4 : LiveK H4 kvc ms := Lc.frame fun t m e => k4 _ _ (ne_of e er (by intro z; cases z)) (s3 _ _ e)
        have FA4 : FiredAt r H4 ts done := by
          exact FA.frame (fun t a u e => k4 _ _ (ne_of e er (by intro z; cases z)) (s3 _ _ e)) fun u xs hn e => k4 _ _ hn (s3 _ _ e)
        refine ⟨_, rfl, _, rfl, _, rfl, lc, pn, at_, orderAt W.b W.ws at_ ms, kvc, ms, rfl, elc4, Lc4, fewc, ndm, epn4, ⟨order_nodup ndm, fun n hn => by
          obtain ⟨m, h1, _, h3⟩ := order_mem.mp hn
          exact ⟨m, h1, h3⟩⟩, fun H5 lc5 kvc5 s5 hlc5 elc5 Lc5 => ?_⟩
        have few5 : (afterF at_ ms (orderAt W.b W.ws at_ ms)).length ≤ 1000 := Nat.le_trans (fire_tick _ _ _) fewc
        refine ⟨_, rfl, lc5, kvc5, _, rfl, elc5, Lc5, few5, fun H6 s6 => ?_⟩
        have s56 := s5.trans s6
        refine ⟨⟨lc5, kvc5, afterF at_ ms (orderAt W.b W.ws at_ ms), rest', done ++ [(at_, orderAt W.b W.ws at_ ms)], ts ++ [u], (many + (orderAt W.b W.ws at_ ms).length), _, rfl, sm4.trans s56, s6 _ _ elc5, Lc5.same s6, few5, radv, by omega, ?_, by rw [efd, List.append_assoc]; rfl, s56 _ _ er4, (FA4.app ⟨pn, eu4, Ne.symm nrp, epn4⟩).same s56, .inr (sm4.free hlc5)⟩, ?_⟩
        · rw [List.length_append, List.length_singleton]
          omega
        · show 3000 - (((many + (orderAt W.b W.ws at_ ms).length) : Int)).toNat < 3000 - ((many : Int)).toNat
          omega
    · rintro σ H' Q1 Q2 h ⟨x, hx, e1, k, e, z⟩
      refine ⟨x, hx, e1, k, e, ?_⟩
      cases k with
      | false => exact iteF (h _ _ (by rw [if_neg Bool.false_ne_true] at z; exact z))
      | true =>
        rw [if_pos rfl] at z
        refine iteT ?_
        obtain ⟨x1, hx1, x2, hx2, i, j, e2, e3, k', e4, zz⟩ := z
        exact ⟨x1, hx1, x2, hx2, i, j, e2, e3, k', e4, h _ _ zz⟩
end
section
variable {P : Program} {w : World} {K : PySem.W.Frag} {mg : Str → Option Value} {base : Heap}
theorem min_gen {l : List Nat} {Q : V → Prop} (q : Q (perV l.min?)) : (l.map (fun n : Nat => (n : Int)) = [] → Q .non) ∧ ∀ v ∈ l.map (fun n : Nat => (n : Int)), (∀ x ∈ l.map (fun n : Nat => (n : Int)), v ≤ x) → Q (.int v) := by
  refine ⟨fun e => ?_, fun v hv hx => ?_⟩
  · rw [List.map_eq_nil_iff.mp e] at q
    exact q
  · obtain ⟨m, hm, rfl⟩ := List.mem_map.mp hv
    have e : l.min? = some m := List.min?_eq_some_iff.mpr ⟨hm, fun x h => Int.ofNat_le.mp (hx _ (List.mem_map_of_mem h))⟩
    rw [e] at q
    exact q
def spNextFiring (C : Addr) : Sp := fun vs H Q _ => ∃ (p q l : Addr) (W : WS), vs = [.ref p] ∧ WheelAt C H p q l W ∧ W.live.length ≤ 1000 ∧ ∀ H', Same H H' → Q (perV (leastD W.live)) H'
theorem ok_next_firing {f C : Addr} {fd : FuncData} (F : Fun K "next_firing" "Wheel.next_firing" s_Wheel_next_firing f fd) (TW : TxW K mg C) (h1 : Has P w K mg base 1 "least_due" ["live"] [] spLeast) : FnOk P w K mg base CX0 2 f fd ["self"] (spNextFiring C) := by
  obtain ⟨f_least_due, fd_least_due, ds_least_due, G_least_due, m_least_due, k_least_due, b_least_due, v_least_due⟩ := h1
  refine F.ok sc_Wheel_next_firing (fun vs H Q E h => ?_) (fun cdv A outer s H vs Q E hr h => ?_)
  · obtain ⟨p, q, l, W, rfl, _⟩ := h
    rfl
  · obtain ⟨p, q, l, W, rfl, hw, few, c⟩ := h
    obtain ⟨dx, hp⟩ := hw.ins
    obtain ⟨kvs, hl, L⟩ := hw.live
    refine ⟨_, (pss_one (ps_ret (pe_call G_least_due hr (by rfl) m_least_due k_least_due b_least_due v_least_due pass0 (pa_cons (pe_fld (pv 0) rfl) pa_nil)))), ?_⟩
    exact ⟨_, rfl, p, C, dx, _, _, rfl, hp, TW.cl, TW.nL, wf_l, l, kvs, W.live, rfl, hl, L, few, c⟩
def spNextEvent (C : Addr) : Sp := fun vs H Q _ => ∃ (p q l : Addr) (W : WS), vs = [.ref p] ∧ WheelAt C H p q l W ∧ 2 ≤ W.b ∧ W.b ≤ 64 ∧ W.live.length ≤ 1000 ∧ (∀ m ∈ W.live, W.tick < m.due ∧ m.due < 2 ^ 250) ∧ ∀ H', Same H H' → Q (perV (nextE W.b W.tick W.live)) H'
theorem ok_next_event {f C : Addr} {fd : FuncData} (F : Fun K "next_event" "Wheel.next_event" s_Wheel_next_event f fd) (T : Tx K mg) (TW : TxW K mg C) (h1 : Has P w K mg base 1 "level_and_size" ["base", "now", "due"] [] spLevel) : FnOk P w K mg base CX0 2 f fd ["self"] (spNextEvent C) := by
  obtain ⟨f_level_and_size, fd_level_and_size, ds_level_and_size, G_level_and_size, m_level_and_size, k_level_and_size, b_level_and_size, v_level_and_size⟩ := h1
  refine F.ok sc_Wheel_next_event (fun vs H Q E h => ?_) (fun cdv A outer s H vs Q E hr h => ?_)
  · obtain ⟨p, q, l, W, rfl, _⟩ := h
    rfl
  · obtain ⟨p, q, l, W, rfl, hw, hb, hb64, few, ok, c⟩ := h
    obtain ⟨dx, hp⟩ := hw.ins
    obtain ⟨kvs, hl, L⟩ := hw.live
    refine ⟨_, (pss_cons (ps_set (i := 1) sc_Wheel_next_event.nd rfl (.inl rfl) (pe_lst pa_nil))
      (pss_cons (ps_lock (ps_for PassesOwn.never rfl (pi_values (pe_fld (pv 0) rfl)) (pg_tupK (K := K) (n := 3) rfl rfl (pgs_cons (pg_name (i := 2) sc_Wheel_next_event.nd rfl (.inl rfl)) (pgs_cons (pg_name (i := 3) sc_Wheel_next_event.nd rfl (.inl rfl)) (pgs_cons (pg_name (i := 4) sc_Wheel_next_event.nd rfl (.inl rfl)) pgs_nil))))
        (pss_cons (ps_asg (pe_call G_level_and_size hr (by rfl) m_level_and_size k_level_and_size b_level_and_size v_level_and_size pass0 (pa_cons (pe_fld (pv 0) rfl) (pa_cons (pe_fld (pv 0) rfl) (pa_cons (pv 2) pa_nil)))) (pg_tupK (K := K) (n := 2) rfl rfl (pgs_cons (pg_name (i := 5) sc_Wheel_next_event.nd rfl (.inl rfl)) (pgs_cons (pg_name (i := 6) sc_Wheel_next_event.nd rfl (.inl rfl)) pgs_nil))))
        (pss_one (ps_expr (pe_bm PySem.F.plainAttrs_list PySem.F.slot_list_append PySem.F.type_list_append mt_append (pv 1) (pa_cons (pe_op op_mulN (pe_op op_divN (pv 2) (pv 6)) (pv 6)) pa_nil)))))))
      (pss_one (ps_ret (pe_callBK (minDef (K := K) rfl rfl hr.units) (by rfl) T.b_min (by decide +kernel) (pa_cons (pv 1) pa_nil) (pk_cons pe_non pk_nil)))))), ?_⟩
    refine ⟨by simp [sizeLine_eq], fun r hr0 => ?_⟩
    have s1 := same_upd (o := .lst []) hr0
    have hl1 := s1 _ _ hl
    have nrl : r ≠ l := fun e => by
      rw [e, hl] at hr0
      cases hr0
    refine ⟨l, _, hl1, trivial, fun od => ?_⟩
    have lk : ∀ c o, c ≠ l → H c = some o → (upd (upd H r (.lst [])) l (.frz od (.dK kvs))) c = some o := fun c o n e => by
      rw [upd_ne n]
      exact s1 _ _ e
    have npl : p ≠ l := ne_of hp hl (by intro z; cases z)
    refine ⟨_, rfl, p, C, dx, _, _, rfl, lk _ _ npl hp, TW.cl, TW.nL, wf_l, l, od, kvs, rfl, upd_same, for_values (d := l) (o := od) (kvs := kvs) (fun i σ H' => ∃ (y2 y3 y4 y5 y6 : Option V), σ = [some (.ref p), some (.ref r), y2, y3, y4, y5, y6] ∧ (∀ c o, c ≠ r → (upd (upd H r (.lst [])) l (.frz od (.dK kvs))) c = some o → H' c = some o) ∧ H' r = some (.lst (((W.live.take i).map fun m => evT W.b W.tick m.due).map fun n => V.int (n : Nat))))
      ⟨none, none, none, none, none, rfl, fun _ _ _ e => e, by rw [upd_ne nrl, upd_same]; rfl⟩ (fun i σ H' ⟨_, _, _, _, _, _, k, _⟩ => k _ _ (Ne.symm nrl) upd_same) ?_ ?_⟩
    · rintro i k v σ H' hx ⟨y2, y3, y4, y5, y6, rfl, kp, er⟩
      obtain ⟨m, tt, hm, rfl, rfl, ht⟩ := L.get hx
      have okm := ok m (List.mem_of_getElem? hm)
      have ntr : tt ≠ r := fun e => by
        rw [e, hr0] at ht
        cases ht
      have npr : p ≠ r := fun e => by
        rw [e, hr0] at hp
        cases hp
      have ht' := kp _ _ ntr (lk _ _ (ne_of ht hl (by intro z; cases z)) ht)
      have hp' := kp _ _ npr (lk _ _ npl hp)
      refine ⟨tt, _, rfl, .inl (.inl ht'), rfl, _, _, rfl, _, _, rfl, _, _, rfl, rfl, ?_⟩
      refine ⟨_, rfl, p, C, dx, _, _, rfl, hp', TW.cl, TW.nB, wf_b, _, rfl, p, C, dx, _, _, rfl, hp', TW.cl, TW.nT, wf_t, _, rfl, W.b, W.tick, m.due, rfl, hb, hb64, okm.1, okm.2, fun k hk H2 t0 s2 ht0 eT0 => ?_⟩
      refine ⟨t0, _, rfl, .inl (.inl eT0), rfl, _, _, rfl, _, _, rfl, rfl, ?_⟩
      have er2 := s2 _ _ er
      have hsz : W.b ^ k < 2 ^ 250 := Nat.lt_of_le_of_lt (hk.size hb okm.1) okm.2
      refine ⟨_, rfl, .inl ⟨rfl, _, .inl (.inl er2)⟩, _, rfl, _, rfl, m.due, W.b ^ k, rfl, rfl, ndiv 250 (pow_pos' hb k) hsz, _, rfl, _, _, rfl, rfl, nmul_w 250 250 (Nat.lt_of_le_of_lt (Nat.div_le_self _ _) okm.2) hsz, r, _, _, rfl, rfl, er2, ?_, ?_⟩
      · rw [List.length_map, List.length_map, List.length_take]
        exact sizeLine_ge (by omega)
      · refine ⟨_, _, _, _, _, rfl, fun c o n e => ?_, ?_⟩
        · rw [upd_ne n]
          exact s2 _ _ (kp _ _ n e)
        · rw [upd_same, List.take_add_one, hm]
          show some (HO.lst _) = some (HO.lst (((W.live.take i ++ [m]).map fun m => evT W.b W.tick m.due).map fun n => V.int (n : Nat)))
          rw [List.map_append, List.map_append]
          show _ = some (HO.lst (_ ++ [V.int ((evT W.b W.tick m.due : Nat) : Int)]))
          rw [evT_eq hk]
    · rintro σ H' ⟨y2, y3, y4, y5, y6, rfl, kp, er⟩
      rw [L.len, List.take_length] at er
      have el := kp l _ (Ne.symm nrl) upd_same
      refine ⟨el, ?_⟩
      have er2 : (upd H' l (.dK kvs)) r = some (.lst (((W.live.map fun m => evT W.b W.tick m.due).map fun n : Nat => (n : Int)).map V.int)) := by
        rw [upd_ne nrl, er, List.map_map, List.map_map, List.map_map]
        rfl
      have sAll : Same H (upd H' l (.dK kvs)) := fun c o e => by
        by_cases n : c = l
        · rw [n] at e ⊢
          rw [upd_same]
          exact hl.symm.trans e
        · rw [upd_ne n]
          exact kp _ _ (ne_of_none e hr0) (lk _ _ n e)
      refine ⟨_, rfl, r, _, rfl, rfl, SqL.of er2, ?_⟩
      exact min_gen (Q := fun v => Q v (upd H' l (.dK kvs))) (c _ sAll)
end
/-! ### data equal to itself -/
theorem neq_refl {d : PyData} (h : d.canLay0 = true) : V.bl (!PyData.eqv d d) = V.bl false := by
  rw [SeqAt.eqv_refl d h]
  rfl
theorem eq_refl {d : PyData} (h : d.canLay0 = true) : V.bl (PyData.eqv d d) = V.bl true := by
  rw [SeqAt.eqv_refl d h]
/-! ### rows as data, walks with numbers -/
def rowD (r : Row3) : PyData := .tuple [.int (r.1 : Nat), .int (r.2.1 : Nat), .int (r.2.2 : Nat)]
theorem rows_dp {K : PySem.W.Frag} {H : Hp} : ∀ {ts : List Addr} {rs : List Row3}, RowsAt H ts rs → DpAll K H (ts.map V.ref) (rs.map rowD)
  | [], [], _ => .nil
  | _ :: _, _ :: _, h => .cons (.tup (.inl (.inl h.1)) (.cons (.int _) (.cons (.int _) (.cons (.int _) .nil)))) (rows_dp h.2)
  | [], _ :: _, h => h.elim
  | _ :: _, [], h => h.elim
theorem rowD_lay (r : Row3) : (rowD r).canLay0 = true := rfl
theorem rows_lay : ∀ rs : List Row3, PyData.canLayAll0 (rs.map rowD) = true
  | [] => rfl
  | r :: rs => by
    show ((rowD r).canLay0 && PyData.canLayAll0 (rs.map rowD)) = true
    rw [rowD_lay, rows_lay rs]
    rfl
theorem rows_depth : ∀ rs : List Row3, PyData.depthAll (rs.map rowD) ≤ 1
  | [] => Nat.zero_le _
  | r :: rs => by
    have ih := rows_depth rs
    show max (rowD r).depth (PyData.depthAll (rs.map rowD)) ≤ 1
    have e : (rowD r).depth = 1 := rfl
    rw [e]
    omega
theorem rows_shaped (rs : List Row3) : SeqAt.shaped (.list (rs.map rowD)) = true := by
  have h1 : (PyData.list (rs.map rowD)).canLay0 = true := by
    show PyData.canLayAll0 (rs.map rowD) = true
    exact rows_lay rs
  have h2 : (PyData.list (rs.map rowD)).depth ≤ 64 := by
    show PyData.depthAll (rs.map rowD) + 1 ≤ 64
    have := rows_depth rs
    omega
  unfold SeqAt.shaped
  rw [h1, decide_eq_true h2]
  rfl
theorem dp_nats {K : PySem.W.Frag} {H : Hp} : ∀ ns : List Nat, DpAll K H (ns.map fun x => V.int (x : Nat)) (ns.map fun x => PyData.int (x : Nat))
  | [] => .nil
  | _ :: r => .cons (.int _) (dp_nats r)
theorem nats_lay : ∀ ns : List Nat, PyData.canLayAll0 (ns.map fun x => PyData.int (x : Nat)) = true
  | [] => rfl
  | _ :: r => by
    show (PyData.canLay0 _ && PyData.canLayAll0 (r.map fun x => PyData.int (x : Nat))) = true
    rw [nats_lay r]
    rfl
theorem nats_depth : ∀ ns : List Nat, PyData.depthAll (ns.map fun x => PyData.int (x : Nat)) = 0
  | [] => rfl
  | _ :: r => by
    show max (PyData.depth _) (PyData.depthAll (r.map fun x => PyData.int (x : Nat))) = 0
    rw [nats_depth r]
    rfl
theorem nats_shaped (ns : List Nat) : SeqAt.shaped (.list (ns.map fun x => PyData.int (x : Nat))) = true := by
  have h1 : (PyData.list (ns.map fun x => PyData.int (x : Nat))).canLay0 = true := by
    show PyData.canLayAll0 _ = true
    exact nats_lay ns
  have h2 : (PyData.list (ns.map fun x => PyData.int (x : Nat))).depth ≤ 64 := by
    show PyData.depthAll _ + 1 ≤ 64
    rw [nats_depth ns]
    decide
  unfold SeqAt.shaped
  rw [h1, decide_eq_true h2]
  rfl
theorem cut1 (xs : List V) : cutV xs (some 1) none = xs.drop 1 := by
  unfold cutV
  rw [show HT.sIx xs.length 0 (some 1) = min 1 xs.length from HT.sIx_nat xs.length 0 1, HT.sIx_none]
  cases xs with
  | nil => rfl
  | cons x r =>
    rw [show min 1 (x :: r).length = 1 by
      rw [List.length_cons]
      omega]
    show (List.take ((x :: r).length - 1) r) = r
    rw [List.length_cons, Nat.add_sub_cancel]
    exact List.take_length
theorem cutTo {xs : List V} {k : Nat} : cutV xs none (some (k : Int)) = xs.take k := by
  unfold cutV
  rw [HT.sIx_none, HT.sIx_nat, List.drop_zero, Nat.sub_zero]
  by_cases h : k ≤ xs.length
  · rw [Nat.min_eq_left h]
  · rw [Nat.min_eq_right (by omega), List.take_length, List.take_of_length_le (by omega)]
theorem cutFrom {xs : List V} {k : Nat} : cutV xs (some (k : Int)) none = xs.drop k := by
  unfold cutV
  rw [HT.sIx_none, HT.sIx_nat]
  by_cases h : k ≤ xs.length
  · rw [Nat.min_eq_left h]
    exact List.take_of_length_le (by rw [List.length_drop]; exact Nat.le_refl _)
  · rw [Nat.min_eq_right (by omega), List.drop_length, List.drop_of_length_le (by omega)]
    simp
theorem cutLast {xs : List V} (h : xs ≠ []) : cutV xs (some (-1)) none = [xs.getLast h] := by
  have hp : 0 < xs.length := List.length_pos_iff.mpr h
  have e : HT.sIx xs.length 0 (some (-1)) = xs.length - 1 := by
    show (if (-1 : Int) < 0 then ((-1 : Int) + (xs.length : Int)).toNat else min (-1 : Int).toNat xs.length) = _
    rw [if_pos (by decide)]
    omega
  unfold cutV
  rw [e, HT.sIx_none, List.drop_eq_getElem_cons (show xs.length - 1 < xs.length by omega), List.getLast_eq_getElem]
  rw [show xs.length - 1 + 1 = xs.length by omega, List.drop_length]
  rw [show xs.length - (xs.length - 1) = 1 by omega]
  rfl
theorem RowsAt.frame {H H' : Hp} : ∀ {ts : List Addr} {rs : List Row3}, RowsAt H ts rs → (∀ t r, H t = some (.tup (rowV r)) → H' t = some (.tup (rowV r))) → RowsAt H' ts rs
  | [], [], _, _ => trivial
  | _ :: _, _ :: _, h, s => ⟨s _ _ h.1, h.2.frame s⟩
  | [], _ :: _, h, _ => h.elim
  | _ :: _, [], h, _ => h.elim
/-- the tick behind the first station -/
theorem behind_first (b d : Nat) : ∀ k, ((tailOf b d k).map (fun r => r.2.2) ++ [d])[0]? = some (d / b ^ k * b ^ k)
  | 0 => by
    show some d = some (d / b ^ 0 * b ^ 0)
    rw [Nat.pow_zero, Nat.div_one, Nat.mul_one]
  | k + 1 => by
    have e := cut_step b d k
    unfold tailOf
    split
    · rfl
    · rename_i h
      have h0 : d / b ^ k % b = 0 := Classical.byContradiction h
      rw [h0, Nat.zero_mul, Nat.add_zero] at e
      rw [behind_first b d k, e]
/-- a loop over enumerate(a list) -/
theorem for_enum {K : PySem.W.Frag} {a : Addr} {xs : List V} {g : TG} {tb : TS} {D : Ends} {σ : L2.St} {H : Hp} (Pv : Nat → L2.St → Hp → Prop) (h0 : Pv 0 σ H) (hq : ∀ i σ H, Pv i σ H → SqL K H a xs)
    (hs : ∀ (i : Nat) (x : V) (T : Addr) (σ : L2.St) (H : Hp), xs[i]? = some x → Pv i σ H → H T = none → g (.ref T) σ (upd H T (.tup [.int (i : Nat), x])) fun σ2 H2 => tb { D with nx := Pv (i + 1), ct := Pv (i + 1), bk := D.nx } σ2 H2) (hd : ∀ σ H, Pv xs.length σ H → D.nx σ H) :
    ∃ W : Nat → Nat → L2.St → Hp → Prop, (∃ m, W 0 m σ H) ∧ ∀ i m σ H, W i m σ H →
      ((Ite K a).stop i H ∧ D.nx σ H) ∨ ((Ite K a).go i H ∧ ∃ N : L2.St → Hp → Prop, (∀ σ' H', N σ' H' → ∃ m', m' < m ∧ W (i + 1) m' σ' H') ∧ ∀ v H', (Ite K a).yld i H v H' → g v σ H' fun σ2 H2 => tb { D with nx := N, ct := N, bk := D.nx } σ2 H2) := by
  refine ⟨fun i m σ H => m = xs.length - i ∧ i ≤ xs.length ∧ Pv i σ H, ⟨xs.length, rfl, Nat.zero_le _, h0⟩, ?_⟩
  rintro i m σ H ⟨rfl, hi, p⟩
  have qx := hq i σ H p
  by_cases hlt : i < xs.length
  · have hx : xs[i]? = some xs[i] := List.getElem?_eq_getElem hlt
    refine .inr ⟨⟨xs, xs[i], qx, hx⟩, Pv (i + 1), fun σ' H' p' => ⟨xs.length - (i + 1), by omega, rfl, hlt, p'⟩, fun v H' y => ?_⟩
    obtain ⟨T, x, rfl, nT, rfl, f⟩ := y
    have ex : x = xs[i] := Option.some.inj ((f xs qx).symm.trans hx)
    subst ex
    exact hs i _ T σ H hx p nT
  · have e : i = xs.length := by omega
    subst e
    exact .inl ⟨⟨xs, qx, Nat.le_refl _⟩, hd σ H p⟩
/-- a loop over zip(a list, a list), of any two lengths -/
theorem for_zip2 {K : PySem.W.Frag} {a b : Addr} {xs ys : List V} {g : TG} {tb : TS} {D : Ends} {σ : L2.St} {H : Hp} (Pv : Nat → L2.St → Hp → Prop) (h0 : Pv 0 σ H) (hq : ∀ i σ H, Pv i σ H → SqL K H a xs ∧ SqL K H b ys)
    (hs : ∀ (i : Nat) (x y : V) (T : Addr) (σ : L2.St) (H : Hp), xs[i]? = some x → ys[i]? = some y → Pv i σ H → H T = none → g (.ref T) σ (upd H T (.tup [x, y])) fun σ2 H2 => tb { D with nx := Pv (i + 1), ct := Pv (i + 1), bk := D.nx } σ2 H2) (hd : ∀ i σ H, Pv i σ H → D.nx σ H) :
    ∃ W : Nat → Nat → L2.St → Hp → Prop, (∃ m, W 0 m σ H) ∧ ∀ i m σ H, W i m σ H →
      ((Itz K a b).stop i H ∧ D.nx σ H) ∨ ((Itz K a b).go i H ∧ ∃ N : L2.St → Hp → Prop, (∀ σ' H', N σ' H' → ∃ m', m' < m ∧ W (i + 1) m' σ' H') ∧ ∀ v H', (Itz K a b).yld i H v H' → g v σ H' fun σ2 H2 => tb { D with nx := N, ct := N, bk := D.nx } σ2 H2) := by
  refine ⟨fun i m σ H => m = xs.length - i ∧ i ≤ xs.length ∧ Pv i σ H, ⟨xs.length, rfl, Nat.zero_le _, h0⟩, ?_⟩
  rintro i m σ H ⟨rfl, hi, p⟩
  obtain ⟨qx, qy⟩ := hq i σ H p
  by_cases hlt : i < xs.length ∧ i < ys.length
  · have hx : xs[i]? = some xs[i] := List.getElem?_eq_getElem hlt.1
    have hy : ys[i]? = some ys[i] := List.getElem?_eq_getElem hlt.2
    refine .inr ⟨⟨xs, ys, _, _, qx, qy, hx, hy⟩, Pv (i + 1), fun σ' H' p' => ⟨xs.length - (i + 1), by omega, rfl, hlt.1, p'⟩, fun v H' e => ?_⟩
    obtain ⟨T, x, y, rfl, nT, rfl, f, f2⟩ := e
    have ex : x = xs[i] := Option.some.inj ((f xs qx).symm.trans hx)
    have ey : y = ys[i] := Option.some.inj ((f2 ys qy).symm.trans hy)
    subst ex
    subst ey
    exact hs i _ _ T σ H hx hy p nT
  · refine .inl ⟨⟨xs, ys, qx, qy, ?_⟩, hd i σ H p⟩
    by_cases h1 : i < xs.length
    · right
      by_cases h2 : i < ys.length
      · exact absurd ⟨h1, h2⟩ hlt
      · omega
    · left
      omega
/-- the last item of a list that has one -/
theorem atI_neg1 {xs : List V} {x : V} (h : xs[xs.length - 1]? = some x) : atI xs (-1) = some x := by
  have hne : xs ≠ [] := fun e => by
    rw [e] at h
    simp at h
  have e : xs = xs.dropLast ++ [xs.getLast hne] := (List.dropLast_concat_getLast hne).symm
  have ex : x = xs.getLast hne := by
    have z := List.getLast?_eq_getElem? (l := xs)
    rw [h, List.getLast?_eq_some_getLast hne] at z
    exact (Option.some.inj z).symm
  rw [e, ex]
  exact atI_last _ _
/-! ### the stations behind the first one -/
open Classical in
noncomputable def stT (b n d : Nat) : List Nat := if h : ∃ k, IsLev b n d k then (tailOf b d (Classical.choose h)).map fun r => r.2.2 else []
theorem stT_eq {b n d k : Nat} (h : IsLev b n d k) : stT b n d = (tailOf b d k).map fun r => r.2.2 := by
  have e : ∃ k, IsLev b n d k := ⟨k, h⟩
  unfold stT
  rw [dif_pos e, (Classical.choose_spec e).uniq h]
def cntLe (t : Nat) (l : List Nat) : Nat := (l.filter fun x => decide (x ≤ t)).length
noncomputable def movesT (b n t : Nat) (ms : List Tm) : Nat := (ms.map fun m => cntLe t (stT b n m.due)).sum
theorem moves_snoc (b n t : Nat) (ms : List Tm) (m : Tm) : movesT b n t (ms ++ [m]) = movesT b n t ms + cntLe t (stT b n m.due) := by
  unfold movesT
  rw [List.map_append, List.sum_append]
  rfl
theorem cnt_le_len (t : Nat) (l : List Nat) : cntLe t l ≤ l.length := List.length_filter_le _ _
theorem cnt_app (t : Nat) (l m : List Nat) : cntLe t (l ++ m) = cntLe t l + cntLe t m := by
  unfold cntLe
  rw [List.filter_append, List.length_append]
theorem cnt_mono {s t : Nat} (h : s ≤ t) (l : List Nat) : cntLe s l ≤ cntLe t l := by
  induction l with
  | nil => exact Nat.le_refl _
  | cons a r ih =>
    have z : ∀ u, cntLe u (a :: r) = cntLe u [a] + cntLe u r := fun u => cnt_app u [a] r
    rw [z s, z t]
    have y : ∀ u, cntLe u [a] = if a ≤ u then 1 else 0 := fun u => by
      unfold cntLe
      by_cases c : a ≤ u
      · rw [if_pos c, List.filter_cons_of_pos (by simpa using c)]
        rfl
      · rw [if_neg c, List.filter_cons_of_neg (by simpa using c)]
        rfl
    rw [y s, y t]
    split <;> split <;> omega
theorem cnt_all {t : Nat} {l : List Nat} (h : ∀ x ∈ l, x ≤ t) : cntLe t l = l.length := by
  unfold cntLe
  rw [List.filter_eq_self.mpr fun x hx => by simpa using h x hx]
theorem tail_le (b d : Nat) : ∀ k, ∀ r ∈ tailOf b d k, r.2.2 ≤ d
  | 0, r, h => by cases h
  | k + 1, r, h => by
    unfold tailOf at h
    split at h
    · rcases List.mem_cons.mp h with e | h
      · rw [e]
        exact Nat.div_mul_le_self _ _
      · exact tail_le b d k r h
    · exact tail_le b d k r h
theorem stT_le {b n d : Nat} : ∀ x ∈ stT b n d, x ≤ d := fun x h => by
  unfold stT at h
  split at h
  · obtain ⟨r, hr, e⟩ := List.mem_map.mp h
    rw [← e]
    exact tail_le b d _ r hr
  · cases h
theorem stT_len {b n d : Nat} (hb : 2 ≤ b) (hnd : n < d) (hd : d < 2 ^ 250) : (stT b n d).length ≤ 250 := by
  unfold stT
  split
  · rename_i h
    rw [List.length_map]
    exact Nat.le_trans (tail_len b d _) (Nat.le_of_lt (lev_small (Classical.choose_spec h) hb hnd hd))
  · exact Nat.zero_le _
theorem sum_perm {l m : List Nat} (h : l.Perm m) : l.sum = m.sum := by
  induction h with
  | nil => rfl
  | cons a _ ih => rw [List.sum_cons, List.sum_cons, ih]
  | swap a b l =>
    rw [List.sum_cons, List.sum_cons, List.sum_cons, List.sum_cons]
    omega
  | trans _ _ h1 h2 => exact h1.trans h2
theorem moves_perm {b n t : Nat} {ms : List Tm} {l : List Nat} (h : l.Perm (ms.map (·.due))) : (l.map fun d => cntLe t (stT b n d)).sum = movesT b n t ms := by
  have z := sum_perm (h.map fun d => cntLe t (stT b n d))
  rw [List.map_map] at z
  exact z
theorem cnt_flat (t : Nat) (f : Nat → List Nat) : ∀ l : List Nat, cntLe t (l.flatMap f) = (l.map fun d => cntLe t (f d)).sum
  | [] => rfl
  | d :: r => by
    rw [List.flatMap_cons, cnt_app, cnt_flat t f r, List.map_cons, List.sum_cons]
theorem moves_mono {b n s t : Nat} (h : s ≤ t) : ∀ ms : List Tm, movesT b n s ms ≤ movesT b n t ms
  | [] => Nat.le_refl _
  | m :: r => by
    have ih := moves_mono (b := b) (n := n) h r
    have z : ∀ u, movesT b n u (m :: r) = cntLe u (stT b n m.due) + movesT b n u r := fun u => by
      unfold movesT
      rw [List.map_cons, List.sum_cons]
    rw [z s, z t]
    have := cnt_mono h (stT b n m.due)
    omega
section
variable {P : Program} {w : World} {K : PySem.W.Frag} {mg : Str → Option Value} {base : Heap}
def spMovesX (K : PySem.W.Frag) (C CN : Addr) : Sp := fun vs H Q E => ∃ (p q l : Addr) (W : WS) (x : V), vs = [.ref p, x] ∧ WheelAt C H p q l W ∧ 2 ≤ W.b ∧ W.b ≤ 64 ∧ W.live.length ≤ 1000 ∧ (∀ m ∈ W.live, W.tick < m.due ∧ m.due < 2 ^ 250) ∧
  ((∃ t : Nat, x = .int (t : Nat) ∧ W.tick ≤ t ∧ ∀ H', Same H H' → Q (.int ((movesT W.b W.tick t W.live : Nat) : Int)) H') ∨ (BadTick K H x (W.tick : Nat) ∧ E (.ref CN) none H))
theorem okX_moves_until {f C CN : Addr} {fd : FuncData} (F : Fun K "moves_until" "Wheel.moves_until" s_Wheel_moves_until f fd) (T : Tx K mg) (TW : TxW K mg C) (h1 : HasX P w K mg base 3 "check_tick" ["tick", "least"] [] (spCheckTickX K CN)) (h2 : Has P w K mg base 2 "path" ["base", "now", "due"] [] spPath) : FnOk P w K mg base (L2.CX P w) 4 f fd ["self", "tick"] (spMovesX K C CN) := by
  obtain ⟨f_check_tick, fd_check_tick, ds_check_tick, G_check_tick, m_check_tick, k_check_tick, b_check_tick, v_check_tick⟩ := h1
  obtain ⟨f_path, fd_path, ds_path, G_path, m_path, k_path, b_path, v_path⟩ := h2
  refine F.okX sc_Wheel_moves_until (fun vs H Q E h => ?_) (fun cdv A outer s H vs Q E hr h => ?_)
  · obtain ⟨p, q, l, W, x, rfl, _⟩ := h
    rfl
  · obtain ⟨p, q, l, W, x, rfl, hw, hb, hb64, few, ok, hx⟩ := h
    obtain ⟨dx, hp⟩ := hw.ins
    obtain ⟨kvs, hl, L⟩ := hw.live
    refine ⟨_, (pss_cons (ps_expr (pe_call G_check_tick hr (by rfl) m_check_tick k_check_tick b_check_tick v_check_tick (passes_call (takes_of rfl rfl rfl rfl) (fun _ _ _ _ h => h)) (pa_cons (pv 1) (pa_cons (pe_fld (pv 0) rfl) pa_nil))))
      (pss_cons (ps_set (i := 2) sc_Wheel_moves_until.nd rfl (.inl rfl) pe_int)
      (pss_cons (ps_lock (ps_for (passes_of rfl) rfl (pi_values (pe_fld (pv 0) rfl)) (pg_tupK (K := K) (n := 3) rfl rfl (pgs_cons (pg_name (i := 3) sc_Wheel_moves_until.nd rfl (.inl rfl)) (pgs_cons (pg_name (i := 4) sc_Wheel_moves_until.nd rfl (.inl rfl)) (pgs_cons (pg_name (i := 5) sc_Wheel_moves_until.nd rfl (.inl rfl)) pgs_nil))))
        (pss_cons (ps_set (i := 6) sc_Wheel_moves_until.nd rfl (.inl rfl) (pe_slice (sl_listK (K := K) rfl) (pe_call G_path (hr.mono (by decide)) (by rfl) m_path k_path b_path v_path pass0 (pa_cons (pe_fld (pv 0) rfl) (pa_cons (pe_fld (pv 0) rfl) (pa_cons (pv 3) pa_nil)))) (po_some pe_int) po_none))
        (pss_one (ps_aug (i := 2) sc_Wheel_moves_until.nd rfl (.inl rfl) (pe_callB (lenK (K := K) rfl) (by rfl) T.b_len PySem.boot_len (pa_cons (pe_lc (own := [("level", 7), ("digit", 8), ("at", 9)]) (g := _)  rfl sc_Wheel_moves_until.nd (pi_list (pv 6)) (blkOk_by (own := [("level", 7), ("digit", 8), ("at", 9)]) (N := N_Wheel_moves_until) (sc := defScope s_Wheel_moves_until) (by decide +kernel)) (fun _ _ _ _ _ => (pg_tupK (K := K) (n := 3) rfl rfl (pgs_cons (pg_name (i := 7) sc_Wheel_moves_until.nd rfl (.inl rfl)) (pgs_cons (pg_name (i := 8) sc_Wheel_moves_until.nd rfl (.inl rfl)) (pgs_cons (pg_name (i := 9) sc_Wheel_moves_until.nd rfl (.inl rfl)) pgs_nil))))) (fun _ _ _ _ _ => (pts_one (pt_cmpR op_le (pv 9) (pv 1) (nomark _)))) (fun _ _ _ _ _ => (pv 9))) pa_nil)) ip_add)))))
      (pss_one (ps_ret (pv 2)))))), ?_⟩
    refine ⟨x, rfl, _, rfl, p, C, dx, _, _, rfl, hp, TW.cl, TW.nT, wf_t, x, _, rfl, ?_⟩
    rcases hx with ⟨t, rfl, ht, c⟩ | hx
    case inr => exact .inr hx
    refine .inl ⟨(t : Nat), rfl, by omega, ?_⟩
    refine ⟨l, _, hl, trivial, fun od => ?_⟩
    have lk : ∀ c o, c ≠ l → H c = some o → (upd H l (.frz od (.dK kvs))) c = some o := fun c o n e => by
      rw [upd_ne n]
      exact e
    have npl : p ≠ l := ne_of hp hl (by intro z; cases z)
    refine ⟨_, rfl, p, C, dx, _, _, rfl, lk _ _ npl hp, TW.cl, TW.nL, wf_l, l, od, kvs, rfl, upd_same, for_values (d := l) (o := od) (kvs := kvs) (fun i σ H' => ∃ (y3 y4 y5 y6 y7 y8 y9 : Option V), σ = [some (.ref p), some (.int (t : Nat)), some (.int ((movesT W.b W.tick t (W.live.take i) : Nat) : Int)), y3, y4, y5, y6, y7, y8, y9] ∧ Same (upd H l (.frz od (.dK kvs))) H')
      ⟨none, none, none, none, none, none, none, rfl, fun _ _ e => e⟩ (fun i σ H' ⟨_, _, _, _, _, _, _, _, k⟩ => k _ _ upd_same) ?_ ?_⟩
    · rintro i k v σ H' hx ⟨y3, y4, y5, y6, y7, y8, y9, rfl, kp⟩
      obtain ⟨m, tt, hm, rfl, rfl, htt⟩ := L.get hx
      have okm := ok m (List.mem_of_getElem? hm)
      have ht' := kp _ _ (lk _ _ (ne_of htt hl (by intro z; cases z)) htt)
      have hp' := kp _ _ (lk _ _ npl hp)
      refine ⟨tt, _, rfl, .inl (.inl ht'), rfl, _, _, rfl, _, _, rfl, _, _, rfl, rfl, ?_⟩
      refine ⟨_, rfl, p, C, dx, _, _, rfl, hp', TW.cl, TW.nB, wf_b, _, rfl, p, C, dx, _, _, rfl, hp', TW.cl, TW.nT, wf_t, _, rfl, W.b, W.tick, m.due, rfl, hb, hb64, okm.1, okm.2, fun k hk H2 pl ts s2 hp0 hpl R => ?_⟩
      refine ⟨1, rfl, pl, _, rfl, SqL.of hpl, fun c3 hc3 => ?_⟩
      have hlen : (tailOf W.b m.due k).length ≤ 250 := Nat.le_trans (tail_len W.b m.due k) (Nat.le_of_lt (lev_small hk hb okm.1 okm.2))
      have eT : ∃ ts', cutV (ts.map V.ref) (some 1) none = ts'.map V.ref ∧ RowsAt H2 ts' (tailOf W.b m.due k) := by
        rw [cut1]
        cases ts with
        | nil => exact R.elim
        | cons t0 tr => exact ⟨tr, rfl, R.2⟩
      obtain ⟨ts', ects, R'⟩ := eT
      rw [ects]
      have s3 := same_upd (o := .lst (ts'.map V.ref)) hc3
      have ec3 : (upd H2 c3 (.lst (ts'.map V.ref))) c3 = some (.lst (ts'.map V.ref)) := upd_same
      have R3 := R'.same s3
      generalize upd H2 c3 (.lst (ts'.map V.ref)) = H3 at s3 ec3 R3 ⊢
      refine ⟨_, rfl, _, rfl, c3, rfl, ⟨_, SqL.of ec3⟩, fun D hD => lc_list (K := K) (a := c3) (xs := ts'.map V.ref) (fun i H' => Same H3 H' ∧ H' D = some (.lst ((((tailOf W.b m.due k).take i).map fun r => r.2.2).filter (fun x => decide (x ≤ t)) |>.map fun x : Nat => V.int (x : Nat))))
        ⟨same_upd hD, upd_same⟩ (fun i H' _ ⟨sm, _⟩ => SqL.of (sm _ _ ec3)) ?_ ?_⟩
      · rintro i x H' hx ⟨sm, eD⟩
        obtain ⟨ti, r, rfl, hti, hr, er⟩ := R3.item hx
        refine ⟨ti, _, rfl, .inl (.inl (sm _ _ er)), rfl, _, _, rfl, _, _, rfl, _, _, rfl, rfl, rfl, ?_⟩
        have hstep : ((((tailOf W.b m.due k).take (i + 1)).map fun r => r.2.2).filter fun x => decide (x ≤ t)) = ((((tailOf W.b m.due k).take i).map fun r => r.2.2).filter fun x => decide (x ≤ t)) ++ ([r.2.2].filter fun x => decide (x ≤ t)) := by
          rw [List.take_add_one, hr, List.map_append, List.filter_append]
          rfl
        have hsize : ((((((tailOf W.b m.due k).take i).map fun r => r.2.2).filter fun x => decide (x ≤ t))).map fun x : Nat => V.int (x : Nat)).length < sizeLine := by
          rw [List.length_map]
          refine sizeLine_ge ?_
          have z1 := List.length_filter_le (fun x => decide (x ≤ t)) (((tailOf W.b m.due k).take i).map fun r => r.2.2)
          rw [List.length_map, List.length_take] at z1
          omega
        by_cases c1 : r.2.2 ≤ t
        · refine ⟨_, rfl, _, rfl, (r.2.2 : Nat), (t : Nat), rfl, rfl, true, dT (Int.ofNat_le.mpr c1), iteT ?_⟩
          refine ⟨_, rfl, _, eD, hsize, fun c o e => ?_, ?_⟩
          · rw [upd_ne (ne_of_none e hD)]
            exact sm _ _ e
          · rw [upd_same, hstep, List.filter_cons_of_pos (by simpa using c1), List.map_append]
            rfl
        · refine ⟨_, rfl, _, rfl, (r.2.2 : Nat), (t : Nat), rfl, rfl, false, dF (fun z => c1 (Int.ofNat_le.mp z)), iteF ?_⟩
          refine ⟨sm, ?_⟩
          rw [hstep, List.filter_cons_of_neg (by simpa using c1), List.filter_nil, List.append_nil]
          exact eD
      · rintro H4 ⟨s4, eD⟩
        have etake : (tailOf W.b m.due k).take (ts'.map V.ref).length = tailOf W.b m.due k := by
          refine List.take_of_length_le ?_
          rw [List.length_map, R3.len]
          exact Nat.le_refl _
        rw [etake, ← stT_eq hk] at eD
        refine ⟨D, _, rfl, .inl (SqL.of eD), _, _, rfl, rfl, ?_⟩
        have ev : ((movesT W.b W.tick t (W.live.take i) : Nat) : Int) + (((((stT W.b W.tick m.due).filter fun x => decide (x ≤ t)).map fun x : Nat => V.int (x : Nat)).length : Nat) : Int) = ((movesT W.b W.tick t (W.live.take (i + 1)) : Nat) : Int) := by
          rw [List.take_add_one, hm, List.length_map]
          show _ = ((movesT W.b W.tick t (W.live.take i ++ [m]) : Nat) : Int)
          rw [moves_snoc]
          rfl
        exact ⟨some (V.int m.due), some (perV m.per), some (V.int m.since), some (.ref c3), y7, y8, y9, congrArg (fun x : Int => [some (V.ref p), some (V.int t), some (V.int x), some (V.int m.due), some (perV m.per), some (V.int m.since), some (V.ref c3), y7, y8, y9]) ev, fun c o e => s4 _ _ (s3 _ _ (s2 _ _ (kp _ _ e)))⟩
    · rintro σ H' ⟨y3, y4, y5, y6, y7, y8, y9, rfl, kp⟩
      rw [L.len, List.take_length]
      refine ⟨kp _ _ upd_same, ?_⟩
      exact ⟨_, rfl, c _ (unlock hl kp)⟩
end
/-! ### sorted of a dict whose keys are pairs of whole numbers -/
def pairAt (H : Hp) : Value → Int × Int
  | .ref b => match H b with
    | some (.tup [.int i, .int j]) => (i, j)
    | _ => (0, 0)
  | _ => (0, 0)
theorem pairAt_of {H : Hp} {b : Addr} {i j : Int} (h : H b = some (.tup [.int i, .int j])) : pairAt H (.ref b) = (i, j) := by
  show (match H b with | some (.tup [.int i, .int j]) => (i, j) | _ => (0, 0)) = (i, j)
  rw [h]
def unRef : Value → Addr
  | .ref b => b
  | _ => 0
section
variable {X : Cx}
theorem call_sortedDT (hc : X.calm = true) : CallR X (.builtin "sorted") (fun xs H Q => ∃ (d : Addr) (kvs : List (List Key × V)) (ps : List (Int × Int)), xs = [V.ref d] ∧ Rd H d (.dT kvs) ∧ kvs.map (·.1) = ps.map (fun p => [Sum.inl p.1, Sum.inl p.2]) ∧
    ∀ (p : Addr) (bs : List Addr), H p = none → (bs.map fun b => pairAt H (.ref b)).Perm ps → (bs.map fun b => pairAt H (.ref b)).Pairwise (fun a b => SrtO.lexB b a = false) → (∀ b ∈ bs, H b = some (.tup [.int (pairAt H (.ref b)).1, .int (pairAt H (.ref b)).2])) → Q (.ref p) (upd H p (.lst (bs.map V.ref)))) := by
  intro pins s σ H xs us Q I r h
  obtain ⟨d, kvs, ps, rfl, hd, hps, q⟩ := h
  obtain ⟨u, rfl, rx⟩ := r.one
  cases rx
  obtain ⟨z, hs, ks, pr, o, es, ep, ho, hx, hdt, he, hn⟩ := (show ObjOk X.prog X.w H s.heap d (.dT kvs) from hd.ok I.hok)
  have l1 : es.size = ks.length := size_of_entries he
  have l2 : kvs.length = ks.length := Paired.length pr
  have ik : IsKeys H kvs (ks.map fun x => x.2.1) := isKeys_of pr
  -- what stands at the keys
  have keys : ∀ (kvs : List (List Key × V)) (ps : List (Int × Int)) (bs : List Addr), kvs.map (·.1) = ps.map (fun p => [Sum.inl p.1, Sum.inl p.2]) → IsKeys H kvs bs → bs.map (fun b => pairAt H (.ref b)) = ps ∧ ∀ b ∈ bs, H b = some (.tup [.int (pairAt H (.ref b)).1, .int (pairAt H (.ref b)).2]) := by
    intro kvs ps bs e1 e2
    induction e2 generalizing ps with
    | nil =>
      cases ps with
      | nil => exact ⟨rfl, fun b h => by cases h⟩
      | cons p ps => cases e1
    | cons h t ih =>
      cases ps with
      | nil => cases e1
      | cons p ps =>
        rw [List.map_cons, List.map_cons] at e1
        obtain ⟨e3, e4⟩ := List.cons.inj e1
        obtain ⟨i1, i2⟩ := ih ps e4
        rw [e3] at h
        have h' : H _ = some (.tup [.int p.1, .int p.2]) := h
        have hp := pairAt_of h'
        refine ⟨?_, fun b hb => ?_⟩
        · rw [List.map_cons, i1, hp]
        · rcases List.mem_cons.mp hb with e | hb
          · rw [e, hp]
            exact h'
          · exact i2 b hb
  obtain ⟨kp1, kp2⟩ := keys kvs ps _ hps ik
  refine Calls.call_function_entry PyProof.Rows.kind_sorted PyProof.Rows.plain_sorted PyProof.Rows.entry_sorted (PyProof.Rows.args_sorted1 _) ?_
  unfold Builtin.«sorted»
  refine wpAny_bind (m := checkCount "sorted" 1 1 _) (wpAny_pure ?_)
  refine wpAny_bind (PySem.W.kdu_collect (A := X.A.in1) (kdl_raw hs hx hdt) (I.ok.hd hc) ho (by omega) fun h' tk acc hk it => ?_)
  have ea : acc.toList = ks.map fun x => Value.ref x.2.1 := by
    have hl : acc.toList.length = ks.length := by rw [Array.length_toList, it.1]; exact l1
    apply List.ext_getElem?
    intro j
    rw [List.getElem?_map]
    cases hj : acc.toList[j]? with
    | none =>
      have h1 := List.getElem?_eq_none_iff.mp hj
      rw [List.getElem?_eq_none (by omega)]
      all_goals rfl
    | some v =>
      obtain ⟨en, hen, hv⟩ := it.2 j v (by rw [← Array.getElem?_toList]; exact hj)
      have qe := entry_at he j
      rw [hen] at qe
      cases hb : ks[j]? with
      | none =>
        rw [hb] at qe
        exact nomatch (show some en = none from qe)
      | some b =>
        rw [hb] at qe
        have e2 : en = entryOfKey (tupleKind (mixKind X.prog X.w)) b := Option.some.inj qe
        rw [hv, e2]
        all_goals rfl
  have I1 : Inv X pins σ H { s with heap := h', toks := tk } := I.kept hk
  have hal : acc.toList.length ≤ sizeLine := by
    rw [ea, List.length_map]
    omega
  refine wpAny_bind (wpAny_newList ?_ hal)
  have hoL : (h'.push (seqObj "list" acc.toList.toArray 0)).get? h'.objs.size = some (seqObj "list" acc.toList.toArray 0) := Heap.get?_push_size _ rfl
  show wpAny _ _ _ _ _ { s with heap := h'.push (seqObj "list" acc.toList.toArray 0), toks := tk }
  have hp : ∀ v ∈ acc.toList, Srt.IsPair (h'.push (seqObj "list" acc.toList.toArray 0)) v (pairAt H v).1 (pairAt H v).2 := fun v hv => by
    rw [ea] at hv
    obtain ⟨x, hxm, rfl⟩ := List.mem_map.mp hv
    have ht := kp2 x.2.1 (List.mem_map.mpr ⟨x, hxm, rfl⟩)
    obtain ⟨_, its2, r2, o2, ho2, hc2, n2, hd2⟩ := I1.hok _ _ ht
    obtain ⟨u1, u2, rfl, ri, rj⟩ := vals2 r2
    obtain ⟨t1, rfl⟩ := ri
    obtain ⟨t2, rfl⟩ := rj
    exact ⟨x.2.1, o2, t1, t2, n2, rfl, Heap.get?_push_of_some _ ho2, hc2, hd2⟩
  refine wpAny_bind (wpAny_holding (wpAny_call_entry PyProof.Rows.slot_list_sort ⟨_, hoL, rfl⟩ PyProof.Rows.entry_list_sort
    (SrtO.list_sort_ord (s := { s with heap := h'.push (seqObj "list" acc.toList.toArray 0), toks := tk }) (SrtO.swo_lex (pairAt H)) hoL hal (fun h2 => SrtO.pairs_sortableO (by omega) hp fun o e => ?_) fun out h1 h2 => ⟨_, rfl, ?_⟩) (PyProof.Rows.args_list_sort _)))
  · have e' : some o = some (seqObj "list" acc.toList.toArray 0) := e.symm.trans hoL
    cases e'
    intro c
    exact absurd (Value.type.inj c) (by decide)
  · obtain ⟨e', he'⟩ := PyProof.Rows.sortedHeap_at (vs := acc.toList) (out := out.toArray) hoL
    obtain ⟨bs, rfl, hbs⟩ : ∃ bs : List Addr, out = bs.map Value.ref ∧ bs.Perm (ks.map fun x => x.2.1) := by
      have hperm := h2.perm
      rw [ea] at hperm
      have e9 : (ks.map fun x => Value.ref x.2.1) = (ks.map fun x => x.2.1).map Value.ref := by rw [List.map_map]; rfl
      rw [e9] at hperm
      refine ⟨out.map unRef, ?_, ?_⟩
      · rw [List.map_map]
        have e11 : out.map (Value.ref ∘ unRef) = out.map id := List.map_congr_left fun v hv => by
          obtain ⟨b, _, rfl⟩ := List.mem_map.mp (hperm.mem_iff.mp hv)
          rfl
        rw [e11, List.map_id]
      · have z := hperm.map unRef
        rw [List.map_map] at z
        have e10 : ∀ l : List Addr, l.map (unRef ∘ Value.ref) = l := fun l => by
          induction l with
          | nil => rfl
          | cons a l ih => rw [List.map_cons, ih]; rfl
        rw [e10] at z
        exact z
    have hlen : (bs.map V.ref).length ≤ sizeLine := by
      rw [List.length_map, hbs.length_eq, List.length_map]
      omega
    have hkeys : (bs.map fun b => pairAt H (.ref b)).Perm ps := by
      have z := hbs.map fun b => pairAt H (.ref b)
      rw [kp1] at z
      exact z
    have hsort : (bs.map fun b => pairAt H (.ref b)).Pairwise (fun a b => SrtO.lexB b a = false) := by
      rw [List.pairwise_map]
      exact List.pairwise_map.mp h1
    refine wpAny_pure ⟨_, rfl, .ref h'.objs.size, upd H h'.objs.size (.lst (bs.map V.ref)), I1.laid (t' := tk) (fun b u e => ?_) (Nat.le_refl _)
      (show ObjOk X.prog X.w _ _ _ (.lst (bs.map V.ref)) from ⟨hlen, bs.map Value.ref, e', vals_refs bs, he'⟩), rfl, q _ bs (I1.hok.fresh (Nat.le_refl _)) hkeys hsort fun b hb => kp2 b (hbs.mem_iff.mp hb)⟩
    have hb : b < h'.objs.size := Heap.lt_size e
    rw [PyProof.Rows.sortedHeap_old (Nat.ne_of_lt hb) (by rw [size_push']; exact Nat.lt_succ_of_lt hb)]
    exact Heap.get?_push_of_some _ e
end
/-! ### the lists of a wheel -/
abbrev Cell := (Nat × Nat) × List Nat
def keyC (p : Nat × Nat) : List Key := [Sum.inl (p.1 : Int), Sum.inl (p.2 : Int)]
theorem keyC_inj {p q : Nat × Nat} : keyC p = keyC q ↔ p = q := by
  constructor
  · intro h
    unfold keyC at h
    obtain ⟨h1, h2⟩ := List.cons.inj h
    have a := Int.ofNat.inj (Sum.inl.inj h1)
    have b := Int.ofNat.inj (Sum.inl.inj (List.cons.inj h2).1)
    exact Prod.ext a b
  · intro h
    rw [h]
def cellV : List Cell → Nat × Nat → List Nat
  | [], _ => []
  | c :: cs, p => if c.1 = p then c.2 else cellV cs p
def cellPut (rs : List Cell) (p : Nat × Nat) (ns : List Nat) : List Cell := if (rs.any fun c => decide (c.1 = p)) = true then rs.map (fun c => if c.1 = p then (c.1, ns) else c) else rs ++ [(p, ns)]
theorem cellV_map {p q : Nat × Nat} {ns : List Nat} : ∀ rs : List Cell, cellV (rs.map fun c => if c.1 = p then (c.1, ns) else c) q = if p = q ∧ (rs.any fun c => decide (c.1 = p)) = true then ns else cellV rs q
  | [] => by simp [cellV]
  | c :: cs => by
    have ih := cellV_map (p := p) (q := q) (ns := ns) cs
    rw [List.map_cons]
    by_cases h : c.1 = p
    · rw [if_pos h]
      by_cases h2 : p = q
      · have e : c.1 = q := h.trans h2
        rw [if_pos ⟨h2, by rw [List.any_cons, decide_eq_true h]; rfl⟩]
        show (if c.1 = q then ns else _) = ns
        rw [if_pos e]
      · have e : ¬ c.1 = q := fun z => h2 (h.symm.trans z)
        rw [if_neg (fun z => h2 z.1)]
        rw [if_neg (fun z => h2 z.1)] at ih
        show (if c.1 = q then ns else _) = if c.1 = q then c.2 else cellV cs q
        rw [if_neg e, if_neg e]
        exact ih
    · rw [if_neg h, List.any_cons, decide_eq_false h, Bool.false_or]
      show (if c.1 = q then c.2 else _) = _
      by_cases h2 : c.1 = q
      · have e : ¬ p = q := fun z => h (h2.trans z.symm)
        rw [if_pos h2, if_neg (fun z => e z.1)]
        show c.2 = if c.1 = q then c.2 else cellV cs q
        rw [if_pos h2]
      · rw [if_neg h2, ih]
        show _ = if _ then ns else (if c.1 = q then c.2 else cellV cs q)
        rw [if_neg h2]
theorem cellV_snoc {p q : Nat × Nat} {ns : List Nat} : ∀ rs : List Cell, (rs.any fun c => decide (c.1 = p)) = false → cellV (rs ++ [(p, ns)]) q = if p = q then ns else cellV rs q
  | [], _ => rfl
  | c :: cs, h => by
    rw [List.any_cons, Bool.or_eq_false_iff] at h
    have ih := cellV_snoc (q := q) (ns := ns) cs h.2
    have hc : ¬ c.1 = p := of_decide_eq_false h.1
    show (if c.1 = q then c.2 else cellV (cs ++ [(p, ns)]) q) = if p = q then ns else (if c.1 = q then c.2 else cellV cs q)
    rw [ih]
    by_cases h2 : p = q
    · rw [if_pos h2, if_pos h2, if_neg fun z => hc (z.trans h2.symm)]
    · rw [if_neg h2, if_neg h2]
theorem cellV_put {rs : List Cell} {p q : Nat × Nat} {ns : List Nat} : cellV (cellPut rs p ns) q = if p = q then ns else cellV rs q := by
  unfold cellPut
  by_cases h : (rs.any fun c => decide (c.1 = p)) = true
  · rw [if_pos h, cellV_map]
    by_cases h2 : p = q
    · rw [if_pos ⟨h2, h⟩, if_pos h2]
    · rw [if_neg (fun z => h2 z.1), if_neg h2]
  · rw [if_neg h]
    exact cellV_snoc rs (Bool.eq_false_iff.mpr h)
theorem cellPut_len (rs : List Cell) (p : Nat × Nat) (ns : List Nat) : (cellPut rs p ns).length ≤ rs.length + 1 := by
  unfold cellPut
  split
  · rw [List.length_map]
    omega
  · rw [List.length_append]
    exact Nat.le_refl _
theorem cellPut_keys {rs : List Cell} {p : Nat × Nat} {ns : List Nat} (nd : (rs.map (·.1)).Nodup) : ((cellPut rs p ns).map (·.1)).Nodup := by
  unfold cellPut
  by_cases h : (rs.any fun c => decide (c.1 = p)) = true
  · rw [if_pos h, List.map_map]
    have e : rs.map ((fun c : Cell => c.1) ∘ fun c => if c.1 = p then (c.1, ns) else c) = rs.map (·.1) := List.map_congr_left fun c _ => by
      show (if c.1 = p then (c.1, ns) else c).1 = c.1
      split <;> rfl
    rw [e]
    exact nd
  · rw [if_neg h, List.map_append]
    refine L2.nd_snoc nd fun hm => h ?_
    obtain ⟨c, hc, e⟩ := List.mem_map.mp hm
    exact List.any_eq_true.mpr ⟨c, hc, decide_eq_true e⟩
open Classical in
noncomputable def levT (b n d : Nat) : Nat := if h : ∃ k, IsLev b n d k then Classical.choose h else 0
theorem levT_eq {b n d k : Nat} (h : IsLev b n d k) : levT b n d = k := by
  have e : ∃ k, IsLev b n d k := ⟨k, h⟩
  unfold levT
  rw [dif_pos e]
  exact (Classical.choose_spec e).uniq h
noncomputable def placeT (b t d : Nat) : Nat × Nat := (levT b t d, d / b ^ levT b t d % b)
noncomputable def standStep (b : Nat) (ws : List Bool) (t : Nat) (rs : List Cell) (m : Tm) : List Cell :=
  if t < m.due then cellPut rs (placeT b t m.due) (insT (sideT b ws m.since m.due (levT b t m.due)) m.num (cellV rs (placeT b t m.due))) else rs
noncomputable def standD (b : Nat) (ws : List Bool) (t : Nat) (ms : List Tm) : List Cell := ms.foldl (standStep b ws t) []
theorem stand_snoc (b : Nat) (ws : List Bool) (t : Nat) (ms : List Tm) (m : Tm) : standD b ws t (ms ++ [m]) = standStep b ws t (standD b ws t ms) m := by
  unfold standD
  rw [List.foldl_append]
  rfl
theorem stand_bounds (b : Nat) (ws : List Bool) (t : Nat) (ms : List Tm) : ∀ n : Nat, n ≤ ms.length → (standD b ws t (ms.take n)).length ≤ n ∧ (∀ p, (cellV (standD b ws t (ms.take n)) p).length ≤ n) ∧ ((standD b ws t (ms.take n)).map (·.1)).Nodup := by
  intro n
  induction n with
  | zero => exact fun _ => ⟨Nat.le_refl _, fun p => Nat.le_refl _, List.nodup_nil⟩
  | succ n ih =>
    intro hn
    obtain ⟨h1, h2, h3⟩ := ih (by omega)
    have e : ms[n]? = some ms[n] := List.getElem?_eq_getElem (by omega)
    rw [List.take_add_one, e]
    show (standD b ws t (ms.take n ++ [ms[n]])).length ≤ _ ∧ (∀ p, (cellV (standD b ws t (ms.take n ++ [ms[n]])) p).length ≤ _) ∧ ((standD b ws t (ms.take n ++ [ms[n]])).map _).Nodup
    rw [stand_snoc]
    unfold standStep
    split
    · refine ⟨Nat.le_trans (cellPut_len _ _ _) (by omega), fun p => ?_, cellPut_keys h3⟩
      rw [cellV_put]
      split
      · rw [insT_len]
        have z := h2 (placeT b t (ms[n]).due)
        omega
      · have z := h2 p
        omega
    · exact ⟨by omega, fun p => by have z := h2 p; omega, h3⟩
/-- the cells of a dict on the heap -/
def CellsAt (H : Hp) : List (List Key × V) → List Cell → Prop
  | [], [] => True
  | kv :: kvs, c :: cs => kv.1 = keyC c.1 ∧ (∃ a, kv.2 = .ref a ∧ H a = some (.lst (c.2.map fun x => V.int (x : Nat)))) ∧ CellsAt H kvs cs
  | _, _ => False
theorem CellsAt.frame {H H' : Hp} (s : ∀ a xs, H a = some (.lst xs) → H' a = some (.lst xs)) : ∀ {kvs : List (List Key × V)} {rs : List Cell}, CellsAt H kvs rs → CellsAt H' kvs rs
  | [], [], _ => trivial
  | _ :: _, _ :: _, ⟨h1, ⟨a, h2, h3⟩, h4⟩ => ⟨h1, ⟨a, h2, s _ _ h3⟩, h4.frame s⟩
  | [], _ :: _, h => h.elim
  | _ :: _, [], h => h.elim
theorem CellsAt.len {H : Hp} : ∀ {kvs : List (List Key × V)} {rs : List Cell}, CellsAt H kvs rs → kvs.length = rs.length
  | [], [], _ => rfl
  | _ :: _, _ :: _, h => congrArg Nat.succ h.2.2.len
  | [], _ :: _, h => h.elim
  | _ :: _, [], h => h.elim
theorem CellsAt.keys {H : Hp} : ∀ {kvs : List (List Key × V)} {rs : List Cell}, CellsAt H kvs rs → kvs.map (·.1) = (rs.map fun c => ((c.1.1 : Int), (c.1.2 : Int))).map fun p => [Sum.inl p.1, Sum.inl p.2]
  | [], [], _ => rfl
  | kv :: kvs, c :: cs, h => by
    rw [List.map_cons, List.map_cons, List.map_cons, h.1, h.2.2.keys]
    rfl
  | [], _ :: _, h => h.elim
  | _ :: _, [], h => h.elim
theorem CellsAt.val {H : Hp} {p : Nat × Nat} : ∀ {kvs : List (List Key × V)} {rs : List Cell}, CellsAt H kvs rs → (valV kvs (keyC p) = none ∧ cellV rs p = []) ∨ ∃ a, valV kvs (keyC p) = some (.ref a) ∧ H a = some (.lst ((cellV rs p).map fun x => V.int (x : Nat)))
  | [], [], _ => .inl ⟨rfl, rfl⟩
  | kv :: kvs, c :: cs, h => by
    obtain ⟨h1, ⟨a, h2, h3⟩, h4⟩ := h
    by_cases e : c.1 = p
    · refine .inr ⟨a, ?_, ?_⟩
      · rw [valV_pos (h1.trans (keyC_inj.mpr e)), h2]
      · show H a = some (.lst ((if c.1 = p then c.2 else cellV cs p).map _))
        rw [if_pos e]
        exact h3
    · have e1 : ¬ kv.1 = keyC p := fun z => e (keyC_inj.mp (h1.symm.trans z))
      rw [valV_neg e1]
      show _ ∧ (if c.1 = p then c.2 else cellV cs p) = [] ∨ ∃ a, _ ∧ H a = some (.lst ((if c.1 = p then c.2 else cellV cs p).map _))
      rw [if_neg e]
      exact h4.val
  | [], _ :: _, h => h.elim
  | _ :: _, [], h => h.elim
theorem CellsAt.val_mem {H : Hp} {p : Nat × Nat} : ∀ {kvs : List (List Key × V)} {rs : List Cell}, CellsAt H kvs rs → p ∈ rs.map (·.1) → ∃ a, valV kvs (keyC p) = some (.ref a) ∧ H a = some (.lst ((cellV rs p).map fun x => V.int (x : Nat)))
  | [], [], _, h => by cases h
  | kv :: kvs, c :: cs, h, hm => by
    obtain ⟨h1, ⟨a, h2, h3⟩, h4⟩ := h
    by_cases e : c.1 = p
    · refine ⟨a, ?_, ?_⟩
      · rw [valV_pos (h1.trans (keyC_inj.mpr e)), h2]
      · show H a = some (.lst ((if c.1 = p then c.2 else cellV cs p).map _))
        rw [if_pos e]
        exact h3
    · have e1 : ¬ kv.1 = keyC p := fun z => e (keyC_inj.mp (h1.symm.trans z))
      rw [valV_neg e1]
      show ∃ a, _ ∧ H a = some (.lst ((if c.1 = p then c.2 else cellV cs p).map _))
      rw [if_neg e]
      refine h4.val_mem ?_
      rw [List.map_cons] at hm
      rcases List.mem_cons.mp hm with z | z
      · exact absurd z.symm e
      · exact z
  | [], _ :: _, h, _ => h.elim
  | _ :: _, [], h, _ => h.elim
theorem CellsAt.any {H : Hp} {p : Nat × Nat} : ∀ {kvs : List (List Key × V)} {rs : List Cell}, CellsAt H kvs rs → (kvs.any fun kv => decide (kv.1 = keyC p)) = rs.any fun c => decide (c.1 = p)
  | [], [], _ => rfl
  | kv :: kvs, c :: cs, h => by
    rw [List.any_cons, List.any_cons, h.2.2.any]
    have e : (decide (kv.1 = keyC p)) = decide (c.1 = p) := decide_eq_decide.mpr (by rw [h.1]; exact keyC_inj)
    rw [e]
  | [], _ :: _, h => h.elim
  | _ :: _, [], h => h.elim
theorem CellsAt.mapd {H : Hp} {p : Nat × Nat} {a : Addr} {ns : List Nat} (ha : H a = some (.lst (ns.map fun x => V.int (x : Nat)))) : ∀ {kvs : List (List Key × V)} {rs : List Cell}, CellsAt H kvs rs → CellsAt H (kvs.map fun kv => if kv.1 = keyC p then (kv.1, .ref a) else kv) (rs.map fun c => if c.1 = p then (c.1, ns) else c)
  | [], [], _ => trivial
  | kv :: kvs, c :: cs, h => by
    obtain ⟨h1, h2, h4⟩ := h
    rw [List.map_cons, List.map_cons]
    by_cases e : c.1 = p
    · rw [if_pos e, if_pos (h1.trans (keyC_inj.mpr e))]
      exact ⟨h1, ⟨a, rfl, ha⟩, h4.mapd ha⟩
    · rw [if_neg e, if_neg fun z => e (keyC_inj.mp (h1.symm.trans z))]
      exact ⟨h1, h2, h4.mapd ha⟩
  | [], _ :: _, h => h.elim
  | _ :: _, [], h => h.elim
theorem CellsAt.snoc {H : Hp} {p : Nat × Nat} {a : Addr} {ns : List Nat} (ha : H a = some (.lst (ns.map fun x => V.int (x : Nat)))) : ∀ {kvs : List (List Key × V)} {rs : List Cell}, CellsAt H kvs rs → CellsAt H (kvs ++ [(keyC p, .ref a)]) (rs ++ [(p, ns)])
  | [], [], _ => ⟨rfl, ⟨a, rfl, ha⟩, trivial⟩
  | _ :: _, _ :: _, h => ⟨h.1, h.2.1, h.2.2.snoc ha⟩
  | [], _ :: _, h => h.elim
  | _ :: _, [], h => h.elim
theorem CellsAt.put {H : Hp} {p : Nat × Nat} {a : Addr} {ns : List Nat} (ha : H a = some (.lst (ns.map fun x => V.int (x : Nat)))) {kvs : List (List Key × V)} {rs : List Cell} (h : CellsAt H kvs rs) : CellsAt H (putK kvs (keyC p) (.ref a)) (cellPut rs p ns) := by
  unfold putK cellPut
  rw [h.any]
  split
  · exact h.mapd ha
  · exact h.snoc ha
/-- the rows that tell the lists: the rows in H, what they hold in H0 -/
def CRows (H0 H : Hp) : List Addr → List Cell → Prop
  | [], [] => True
  | t :: ts, c :: cs => (∃ a, H t = some (.tup [.int (c.1.1 : Nat), .int (c.1.2 : Nat), .ref a]) ∧ H0 a = some (.lst (c.2.map fun x => V.int (x : Nat)))) ∧ CRows H0 H ts cs
  | _, _ => False
theorem CRows.frame {H0 H0' H H' : Hp} (s0 : ∀ a xs, H0 a = some (.lst xs) → H0' a = some (.lst xs)) (s : ∀ t xs, H t = some (.tup xs) → H' t = some (.tup xs)) : ∀ {ts : List Addr} {cs : List Cell}, CRows H0 H ts cs → CRows H0' H' ts cs
  | [], [], _ => trivial
  | _ :: _, _ :: _, ⟨⟨a, h1, h2⟩, h3⟩ => ⟨⟨a, s _ _ h1, s0 _ _ h2⟩, h3.frame s0 s⟩
  | [], _ :: _, h => h.elim
  | _ :: _, [], h => h.elim
theorem CRows.snoc {H0 H : Hp} {t a : Addr} {c : Cell} (h1 : H t = some (.tup [.int (c.1.1 : Nat), .int (c.1.2 : Nat), .ref a])) (h2 : H0 a = some (.lst (c.2.map fun x => V.int (x : Nat)))) : ∀ {ts : List Addr} {cs : List Cell}, CRows H0 H ts cs → CRows H0 H (ts ++ [t]) (cs ++ [c])
  | [], [], _ => ⟨⟨a, h1, h2⟩, trivial⟩
  | _ :: _, _ :: _, h => ⟨h.1, h.2.snoc h1 h2⟩
  | [], _ :: _, h => h.elim
  | _ :: _, [], h => h.elim
/-- what tells the lists, and nothing else does -/
structure IsLists (b : Nat) (ws : List Bool) (t : Nat) (ms : List Tm) (cs : List Cell) : Prop where
  perm : (cs.map (·.1)).Perm ((standD b ws t ms).map (·.1))
  sorted : (cs.map fun c => ((c.1.1 : Int), (c.1.2 : Int))).Pairwise (fun a b => SrtO.lexB b a = false)
  val : ∀ c ∈ cs, c.2 = cellV (standD b ws t ms) c.1
section
variable {P : Program} {w : World} {K : PySem.W.Frag} {mg : Str → Option Value} {base : Heap}
def spStanding (K : PySem.W.Frag) : Sp := fun vs H Q _ => ∃ (b t : Nat) (q l : Addr) (ws : List Bool) (kvs : List (Key × V)) (ms : List Tm), vs = [.int (b : Nat), .ref q, .ref l, .int (t : Nat)] ∧ 2 ≤ b ∧ b ≤ 64 ∧ SqL K H q (ws.map lvV) ∧ ws ≠ [] ∧ H l = some (.dK kvs) ∧ LiveK H kvs ms ∧ ms.length ≤ 1000 ∧ DuesOk ms ∧
  ∀ H' p ts cs, Same H H' → H p = none → H' p = some (.lst (ts.map V.ref)) → CRows H' H' ts cs → IsLists b ws t ms cs → Q (.ref p) H'
theorem ok_standing {f : Addr} {fd : FuncData} (F : Fun K "standing" "standing" s_standing f fd) (T : Tx K mg) (h0 : Has P w K mg base 1 "level_and_size" ["base", "now", "due"] [] spLevel) (h1 : Has P w K mg base 1 "with_timer" ["numbers", "number", "front"] [] spWithTimer)
    (h2 : Has P w K mg base 3 "goes_in_front" ["base", "levels", "now", "due", "lowest"] [] (spFront K)) : FnOk P w K mg base CX0 4 f fd ["base", "levels", "live", "tick"] (spStanding K) := by
  obtain ⟨f_level_and_size, fd_level_and_size, ds_level_and_size, G_level_and_size, m_level_and_size, k_level_and_size, b_level_and_size, v_level_and_size⟩ := h0
  obtain ⟨f_with_timer, fd_with_timer, ds_with_timer, G_with_timer, m_with_timer, k_with_timer, b_with_timer, v_with_timer⟩ := h1
  obtain ⟨f_goes_in_front, fd_goes_in_front, ds_goes_in_front, G_goes_in_front, m_goes_in_front, k_goes_in_front, b_goes_in_front, v_goes_in_front⟩ := h2
  refine F.ok sc_standing (fun vs H Q E h => ?_) (fun cdv A outer s H vs Q E hr h => ?_)
  · obtain ⟨b, t, q, l, ws, kvs, ms, rfl, _⟩ := h
    rfl
  · obtain ⟨b, t, q, l, ws, kvs, ms, rfl, hb, hb64, hL, hne, hl, L, few, ok, c⟩ := h
    have hu := hu_of hr
    have hb0 : 0 < b := by omega
    refine ⟨_, (pss_cons (ps_set (i := 4) sc_standing.nd rfl (.inr rfl) pe_dnewT)
      (pss_cons (ps_lock (ps_for PassesOwn.never rfl (pi_items (pv 2)) (pg_tupK (K := K) (n := 2) rfl rfl (pgs_cons (pg_name (i := 5) sc_standing.nd rfl (.inl rfl)) (pgs_cons (pg_tupK (K := K) (n := 3) rfl rfl (pgs_cons (pg_name (i := 6) sc_standing.nd rfl (.inl rfl)) (pgs_cons (pg_name (i := 7) sc_standing.nd rfl (.inl rfl)) (pgs_cons (pg_name (i := 8) sc_standing.nd rfl (.inl rfl)) pgs_nil)))) pgs_nil)))
        (pss_one (ps_if (pt_cmpR op_gt (pv 6) (pv 3) (nomark _))
          (pss_cons (ps_asg (pe_call G_level_and_size (hr.mono (by decide)) (by rfl) m_level_and_size k_level_and_size b_level_and_size v_level_and_size pass0 (pa_cons (pv 0) (pa_cons (pv 3) (pa_cons (pv 6) pa_nil)))) (pg_tupK (K := K) (n := 2) rfl rfl (pgs_cons (pg_name (i := 9) sc_standing.nd rfl (.inl rfl)) (pgs_cons (pg_name (i := 10) sc_standing.nd rfl (.inl rfl)) pgs_nil))))
          (pss_cons (ps_set (i := 11) sc_standing.nd rfl (.inl rfl) (pe_tup (pa_cons (pv 9) (pa_cons (pe_op op_remN (pe_op op_divN (pv 6) (pv 10)) (pv 0)) pa_nil))))
          (pss_cons (ps_set (i := 12) sc_standing.nd rfl (.inl rfl) (pe_call G_goes_in_front hr (by rfl) m_goes_in_front k_goes_in_front b_goes_in_front v_goes_in_front pass0 (pa_cons (pv 0) (pa_cons (pv 1) (pa_cons (pv 8) (pa_cons (pv 6) (pa_cons (pv 9) pa_nil)))))))
          (pss_one (ps_asg (pe_call G_with_timer (hr.mono (by decide)) (by rfl) m_with_timer k_with_timer b_with_timer v_with_timer pass0 (pa_cons (pe_dget2 hu (pv 4) (pv 11) (pe_lst pa_nil) ⟨by rfl, by rfl, by rfl, by rfl⟩) (pa_cons (pv 5) (pa_cons (pv 12) pa_nil)))) (pg_sub (pv 4) (pv 11) (set_dict hu)))))))
          pss_nil))))
      (pss_one (ps_ret (pe_lc (own := [("level", 9), ("digit", 13)]) (g := _) (tt := tYes) rfl sc_standing.nd (pi_list (pe_callB (call_sortedDT rfl) (by rfl) T.b_sorted (by decide +kernel) (pa_cons (pv 4) pa_nil))) (blkOk_by (own := [("level", 9), ("digit", 13)]) (N := N_standing) (sc := defScope s_standing) (by decide +kernel)) (fun _ _ _ _ _ => (pg_tupK (K := K) (n := 2) rfl rfl (pgs_cons (pg_name (i := 9) sc_standing.nd rfl (.inl rfl)) (pgs_cons (pg_name (i := 13) sc_standing.nd rfl (.inl rfl)) pgs_nil)))) (fun _ _ _ _ _ => pts_nil) (fun _ _ _ _ _ => (pe_tup (pa_cons (pv 9) (pa_cons (pv 13) (pa_cons (pe_dget hu (pv 4) (pe_tup (pa_cons (pv 9) (pa_cons (pv 13) pa_nil))) (fun _ _ => rfl)) pa_nil)))))))))), ?_⟩
    refine fun R hR0 => ?_
    have s0 := same_upd (o := .dT []) hR0
    have hl0 := s0 _ _ hl
    refine ⟨l, _, hl0, trivial, fun od => ?_⟩
    have nR : R ≠ l := fun e => by
      rw [e, hl] at hR0
      cases hR0
    refine ⟨_, rfl, l, od, kvs, rfl, upd_same, for_items (d := l) (o := od) (kvs := kvs) (fun i σ H' => ∃ (kvd : List (List Key × V)) (y5 y6 y7 y8 y9 y10 y11 y12 y13 : Option V), σ = [some (.int (b : Nat)), some (.ref q), some (.ref l), some (.int (t : Nat)), some (.ref R), y5, y6, y7, y8, y9, y10, y11, y12, y13] ∧ (∀ c o, c ≠ R → (upd (upd H R (.dT [])) l (.frz od (.dK kvs))) c = some o → H' c = some o) ∧ H' R = some (.dT kvd) ∧ CellsAt H' kvd (standD b ws t (ms.take i)))
      ⟨[], none, none, none, none, none, none, none, none, none, rfl, fun _ _ _ e => e, by rw [upd_ne nR, upd_same], trivial⟩ (fun i σ H' ⟨_, _, _, _, _, _, _, _, _, _, _, kp, _, _⟩ => kp _ _ (Ne.symm nR) upd_same) ?_ ?_⟩
    · rintro i k v U σ H' hx ⟨kvd, y5, y6, y7, y8, y9, y10, y11, y12, y13, rfl, kp, eR, CA⟩ hU
      have L' := (L.same s0).upd (o' := .frz od (.dK kvs)) hl0 (fun xs z => by cases z)
      obtain ⟨m, tt, hm, rfl, rfl, ht⟩ := L'.get hx
      have sU := same_upd (o := .tup [.int (m.num : Nat), .ref tt]) hU
      have ntR : tt ≠ R := fun e => by
        rw [e, upd_ne nR, upd_same] at ht
        cases ht
      have ht' := sU _ _ (kp _ _ ntR ht)
      have eRU := sU _ _ eR
      have CAU := CA.frame (H' := upd H' U (.tup [.int (m.num : Nat), .ref tt])) fun a xs e => sU _ _ e
      have okm := ok m (List.mem_of_getElem? hm)
      have hi : i < ms.length := (List.getElem?_eq_some_iff.mp hm).1
      obtain ⟨bd1, bd2, bd3⟩ := stand_bounds b ws t ms i (by omega)
      have hstep : standD b ws t (ms.take (i + 1)) = standStep b ws t (standD b ws t (ms.take i)) m := by
        rw [List.take_add_one, hm]
        exact stand_snoc b ws t _ m
      refine ⟨U, _, rfl, .inl (.inl upd_same), rfl, _, _, rfl, _, _, rfl, tt, _, rfl, .inl (.inl ht'), rfl, _, _, rfl, _, _, rfl, _, _, rfl, rfl, rfl, ?_⟩
      by_cases e : t < m.due
      · refine ⟨_, rfl, _, rfl, (m.due : Nat), (t : Nat), rfl, rfl, true, dT (Int.ofNat_lt.mpr e), iteT ?_⟩
        refine ⟨_, rfl, _, rfl, _, rfl, b, t, m.due, rfl, hb, hb64, e, okm.2, fun k hk H2 t0 s2 ht0 eT0 => ?_⟩
        refine ⟨t0, _, rfl, .inl (.inl eT0), rfl, _, _, rfl, _, _, rfl, rfl, ?_⟩
        have hsz : b ^ k < 2 ^ 250 := Nat.lt_of_le_of_lt (hk.size hb e) okm.2
        refine ⟨_, rfl, _, rfl, _, rfl, m.due, b ^ k, rfl, rfl, ndiv 250 (pow_pos' hb k) hsz, _, rfl, _, _, rfl, rfl, hb0, by simp [sizeLine_eq], fun pl hpl => ?_⟩
        have s3 := same_upd (o := .tup [.int (k : Nat), .int ((m.due / b ^ k % b : Nat) : Int)]) hpl
        have epl : (upd H2 pl (.tup [.int (k : Nat), .int ((m.due / b ^ k % b : Nat) : Int)])) pl = some (.tup ((keyC (placeT b t m.due)).map kV)) := by
          rw [upd_same]
          unfold placeT
          rw [levT_eq hk]
          rfl
        have s13 := (sU.trans s2).trans s3
        generalize upd H2 pl (.tup [.int (k : Nat), .int ((m.due / b ^ k % b : Nat) : Int)]) = H3 at s3 epl s13 ⊢
        have hq3 : SqL K H3 q (ws.map lvV) := by
          have hq0 := sq_lock (o' := .frz od (.dK kvs)) hl0 (s0.seq hL)
          rcases hq0 with (e1 | ⟨o1, e1⟩) | e1
          · exact .inl (.inl (s13 _ _ (kp _ _ (fun z => by rw [z, upd_ne nR, upd_same] at e1; cases e1) e1)))
          · exact .inl (.inr ⟨o1, s13 _ _ (kp _ _ (fun z => by rw [z, upd_ne nR, upd_same] at e1; cases e1) e1)⟩)
          · exact .inr e1
        refine ⟨_, rfl, _, rfl, _, rfl, _, rfl, _, rfl, b, m.since, m.due, k, q, ws, rfl, hb, hb64, okm.1, okm.2, hq3, hne, fun k2 hk2 H4 s4 => ?_⟩
        have s14 := s13.trans s4
        have eR4 := s14 _ _ eR
        have CA4 := CA.frame (H' := H4) fun a xs e => s14 _ _ e
        have epl4 := s4 _ _ epl
        refine ⟨_, rfl, R, rfl, .inr ⟨_, .inl eR4⟩, _, rfl, by simp [sizeLine_eq], fun el hel => ?_⟩
        have s5 := same_upd (o := .lst []) hel
        have eel : (upd H4 el (.lst [])) el = some (.lst []) := upd_same
        have s15 := s14.trans s5
        generalize upd H4 el (.lst []) = H5 at s5 s15 eel ⊢
        have eR5 := s15 _ _ eR
        have CA5 := CA.frame (H' := H5) fun a xs e => s15 _ _ e
        have epl5 := s5 _ _ epl4
        obtain ⟨a, ea, hla⟩ : ∃ a, (valV kvd (keyC (placeT b t m.due))).getD (.ref el) = .ref a ∧ H5 a = some (.lst ((cellV (standD b ws t (ms.take i)) (placeT b t m.due)).map fun x => V.int (x : Nat))) := by
          rcases CA5.val (p := placeT b t m.due) with ⟨z1, z2⟩ | ⟨a, z1, z2⟩
          · exact ⟨el, by rw [z1]; rfl, by rw [z2]; exact eel⟩
          · exact ⟨a, by rw [z1]; rfl, z2⟩
        refine ⟨_, DGet.t eR5 epl5, _, rfl, _, rfl, a, cellV (standD b ws t (ms.take i)) (placeT b t m.due), m.num, frontOf ws k (rowsOf b m.since m.due k2), by rw [ea]; rfl, hla, ?_, fun H6 a6 s6 ha6 ea6 => ?_⟩
        · have z := bd2 (placeT b t m.due)
          omega
        have s16 := s15.trans s6
        have eR6 := s16 _ _ eR
        have epl6 := s6 _ _ epl5
        have CA6 := CA.frame (H' := H6) fun a xs e => s16 _ _ e
        refine ⟨_, rfl, _, rfl, R, _, rfl, DPut.t eR6 epl6 ?_, ?_⟩
        · rw [CA6.len]
          exact sizeLine_ge (by omega)
        · refine ⟨_, _, _, _, _, _, _, _, _, _, rfl, fun c o n e => ?_, upd_same, ?_⟩
          · rw [upd_ne n]
            exact s16 _ _ (kp _ _ n e)
          · have eput := CA6.put (p := placeT b t m.due) ea6
            have e2 : standD b ws t (ms.take (i + 1)) = cellPut (standD b ws t (ms.take i)) (placeT b t m.due) (insT (frontOf ws k (rowsOf b m.since m.due k2)) m.num (cellV (standD b ws t (ms.take i)) (placeT b t m.due))) := by
              rw [hstep]
              unfold standStep
              rw [if_pos e, levT_eq hk, sideT_eq hk2]
            rw [e2]
            exact eput.frame fun a xs e => by
              rw [upd_ne fun z => ?_]
              · exact e
              · rw [z, eR6] at e
                cases e
      · refine ⟨_, rfl, _, rfl, (m.due : Nat), (t : Nat), rfl, rfl, false, dF (fun z => e (Int.ofNat_lt.mp z)), iteF ?_⟩
        refine ⟨kvd, _, _, _, _, _, _, _, _, _, rfl, fun c o n e => sU _ _ (kp _ _ n e), eRU, ?_⟩
        rw [hstep]
        unfold standStep
        rw [if_neg e]
        exact CAU
    · rintro σ H' ⟨kvd, y5, y6, y7, y8, y9, y10, y11, y12, y13, rfl, kp, eR, CA⟩
      rw [L.len, List.take_length] at CA
      refine ⟨kp _ _ (Ne.symm nR) upd_same, ?_⟩
      obtain ⟨bd1, bd2, bd3⟩ := stand_bounds b ws t ms ms.length (Nat.le_refl _)
      rw [List.take_length] at bd1 bd2 bd3
      have nRl : R ≠ l := nR
      have hlz := kp l _ (Ne.symm nR) upd_same
      have eR1 : (upd H' l (.dK kvs)) R = some (.dT kvd) := by
        rw [upd_ne nR]
        exact eR
      have CA1 := CA.frame (H' := upd H' l (.dK kvs)) fun a xs e => by
        rw [upd_ne fun z => ?_]
        · exact e
        · rw [z, hlz] at e
          cases e
      have sAll : Same H (upd H' l (.dK kvs)) := fun c o e => by
        by_cases n : c = l
        · rw [n] at e ⊢
          rw [upd_same]
          exact hl.symm.trans e
        · rw [upd_ne n]
          exact kp _ _ (ne_of_none e hR0) (by rw [upd_ne n]; exact s0 _ _ e)
      generalize upd H' l (.dK kvs) = H1 at eR1 CA1 sAll ⊢
      generalize hrs : standD b ws t ms = rs at CA1 bd1 bd2 bd3
      refine ⟨_, rfl, R, kvd, _, rfl, .inl eR1, CA1.keys, fun p bs hp0 hperm hsort hbs => ?_⟩
      obtain ⟨ks, eks, hks⟩ : ∃ ks : List (Nat × Nat), (bs.map fun x => pairAt H1 (.ref x)) = ks.map (fun k => ((k.1 : Int), (k.2 : Int))) ∧ ks.Perm (rs.map (·.1)) := by
        refine ⟨(bs.map fun x => pairAt H1 (.ref x)).map fun z => (z.1.toNat, z.2.toNat), ?_, ?_⟩
        · rw [List.map_map]
          have e1 : (bs.map fun x => pairAt H1 (.ref x)).map id = _ := List.map_congr_left (f := id) (g := (fun k : Nat × Nat => ((k.1 : Int), (k.2 : Int))) ∘ fun z : Int × Int => (z.1.toNat, z.2.toNat)) fun z hz => by
            obtain ⟨cc, _, rfl⟩ := List.mem_map.mp (hperm.mem_iff.mp hz)
            rfl
          rw [List.map_id] at e1
          exact e1
        · have z := hperm.map fun z : Int × Int => (z.1.toNat, z.2.toNat)
          have e1 : (rs.map fun c => ((c.1.1 : Int), (c.1.2 : Int))).map (fun z : Int × Int => (z.1.toNat, z.2.toNat)) = rs.map (·.1) := by
            rw [List.map_map]
            exact List.map_congr_left fun c _ => rfl
          rw [e1] at z
          exact z
      have hbl : bs.length = ks.length := by
        have z := congrArg List.length eks
        rw [List.length_map, List.length_map] at z
        exact z
      have hkl : ks.length ≤ 1000 := by
        have z := hks.length_eq
        rw [List.length_map] at z
        omega
      have s2 := same_upd (o := .lst (bs.map V.ref)) hp0
      have ep : (upd H1 p (.lst (bs.map V.ref))) p = some (.lst (bs.map V.ref)) := upd_same
      generalize upd H1 p (.lst (bs.map V.ref)) = H2 at s2 ep ⊢
      have eR2 := s2 _ _ eR1
      have CA2 := CA1.frame (H' := H2) fun a xs e => s2 _ _ e
      refine ⟨p, rfl, ⟨_, SqL.of ep⟩, fun D hD => lc_list (K := K) (a := p) (xs := bs.map V.ref) (fun i H3 => Same H2 H3 ∧ ∃ ts, H3 D = some (.lst (ts.map V.ref)) ∧ ts.length = (ks.take i).length ∧ CRows H2 H3 ts ((ks.take i).map fun k => (k, cellV rs k)))
        ⟨same_upd hD, [], upd_same, rfl, trivial⟩ (fun i H3 _ ⟨sm, _⟩ => SqL.of (sm _ _ ep)) ?_ ?_⟩
      · rintro i x H3 hx ⟨sm, ts, eD, hts, CR⟩
        rw [List.getElem?_map] at hx
        obtain ⟨x0, hx0, rfl⟩ : ∃ x0, bs[i]? = some x0 ∧ x = V.ref x0 := by
          cases e : bs[i]? with
          | none =>
            rw [e] at hx
            cases hx
          | some y =>
            rw [e] at hx
            exact ⟨y, rfl, (Option.some.inj hx).symm⟩
        have hlt : i < ks.length := by
          have z := (List.getElem?_eq_some_iff.mp hx0).1
          omega
        have hk : ks[i]? = some ks[i] := List.getElem?_eq_getElem hlt
        generalize ks[i] = kk at hk
        have epa : pairAt H1 (.ref x0) = ((kk.1 : Int), (kk.2 : Int)) := by
          have z := congrArg (fun l : List (Int × Int) => l[i]?) eks
          simp only [List.getElem?_map, hx0, hk] at z
          exact Option.some.inj z
        have ex0 := hbs x0 (List.mem_of_getElem? hx0)
        rw [epa] at ex0
        have ex3 := sm _ _ (s2 _ _ ex0)
        refine ⟨x0, _, rfl, .inl (.inl ex3), rfl, _, _, rfl, _, _, rfl, rfl, rfl, yesT (iteT ?_)⟩
        refine ⟨_, rfl, _, rfl, _, rfl, _, rfl, _, rfl, by simp [sizeLine_eq], fun kt hkt => ?_⟩
        have s4 := same_upd (o := .tup [.int (kk.1 : Int), .int (kk.2 : Int)]) hkt
        have ekt : (upd H3 kt (.tup [.int (kk.1 : Int), .int (kk.2 : Int)])) kt = some (.tup ((keyC kk).map kV)) := upd_same
        have eD4 := s4 _ _ eD
        have eR4 := s4 _ _ (sm _ _ eR2)
        obtain ⟨a, ha1, ha2⟩ := CA2.val_mem (p := kk) (hks.mem_iff.mp (List.mem_of_getElem? hk))
        have g := DGet.t eR4 ekt
        rw [ha1] at g
        refine ⟨R, .ref a, rfl, g, by simp [sizeLine_eq], fun tr htr => ?_⟩
        have s5 := same_upd (o := .tup [.int (kk.1 : Int), .int (kk.2 : Int), .ref a]) htr
        have eD5 := s5 _ _ eD4
        have nDr : tr ≠ D := fun z => by
          rw [z, eD4] at htr
          cases htr
        refine ⟨_, eD5, ?_, fun c o e => ?_, ts ++ [tr], ?_, ?_, ?_⟩
        · rw [List.length_map, hts, List.length_take]
          exact sizeLine_ge (by omega)
        · rw [upd_ne (ne_of_none e hD)]
          exact s5 _ _ (s4 _ _ (sm _ _ e))
        · rw [upd_same, List.map_append]
          rfl
        · rw [List.take_add_one, hk, List.length_append, List.length_append, hts]
          rfl
        · rw [List.take_add_one, hk, List.map_append]
          have CR5 := CR.frame (H0' := H2) (H' := upd (upd H3 kt (.tup [.int (kk.1 : Int), .int (kk.2 : Int)])) tr (.tup [.int (kk.1 : Int), .int (kk.2 : Int), .ref a])) (fun _ _ e => e) fun _ _ e => s5 _ _ (s4 _ _ e)
          have CR6 := CR5.snoc (t := tr) (a := a) (c := (kk, cellV rs kk)) upd_same ha2
          exact CR6.frame (fun _ _ e => e) fun t xs e => by
            rw [upd_ne fun z => ?_]
            · exact e
            · rw [z, eD5] at e
              cases e
      · rintro H3 ⟨s3, ts, eD, hts, CR⟩
        rw [List.length_map, hbl, List.take_length] at CR
        refine c H3 D ts (ks.map fun k => (k, cellV rs k)) (sAll.trans (s2.trans s3)) ((sAll.trans s2).free hD) eD (CR.frame (fun _ _ e => s3 _ _ e) fun _ _ e => e) ⟨?_, ?_, ?_⟩
        · rw [List.map_map, hrs]
          have e1 : ks.map ((fun c : Cell => c.1) ∘ fun k => (k, cellV rs k)) = ks.map id := List.map_congr_left fun k _ => rfl
          rw [e1, List.map_id]
          exact hks
        · rw [List.map_map]
          rw [eks] at hsort
          exact hsort
        · intro cc hcc
          obtain ⟨k, _, rfl⟩ := List.mem_map.mp hcc
          rw [hrs]
end
section
variable {P : Program} {w : World} {K : PySem.W.Frag} {mg : Str → Option Value} {base : Heap}
def spLists (C : Addr) : Sp := fun vs H Q _ => ∃ (p q l : Addr) (W : WS), vs = [.ref p] ∧ WheelAt C H p q l W ∧ WOk W ∧ ∀ H' r ts cs, Same H H' → H r = none → H' r = some (.lst (ts.map V.ref)) → CRows H' H' ts cs → IsLists W.b W.ws W.tick W.live cs → Q (.ref r) H'
theorem ok_lists {f C : Addr} {fd : FuncData} (F : Fun K "lists" "Wheel.lists" s_Wheel_lists f fd) (TW : TxW K mg C) (h1 : Has P w K mg base 4 "standing" ["base", "levels", "live", "tick"] [] (spStanding K)) : FnOk P w K mg base CX0 5 f fd ["self"] (spLists C) := by
  obtain ⟨f_standing, fd_standing, ds_standing, G_standing, m_standing, k_standing, b_standing, v_standing⟩ := h1
  refine F.ok sc_Wheel_lists (fun vs H Q E h => ?_) (fun cdv A outer s H vs Q E hr h => ?_)
  · obtain ⟨p, q, l, W, rfl, _⟩ := h
    rfl
  · obtain ⟨p, q, l, W, rfl, hw, ok, c⟩ := h
    obtain ⟨dx, hp⟩ := hw.ins
    obtain ⟨kvs, hl, L⟩ := hw.live
    refine ⟨_, (pss_one (ps_ret (pe_call G_standing hr (by rfl) m_standing k_standing b_standing v_standing pass0 (pa_cons (pe_fld (pv 0) rfl) (pa_cons (pe_fld (pv 0) rfl) (pa_cons (pe_fld (pv 0) rfl) (pa_cons (pe_fld (pv 0) rfl) pa_nil))))))), ?_⟩
    refine ⟨_, rfl, p, C, dx, _, _, rfl, hp, TW.cl, TW.nB, wf_b, _, rfl, p, C, dx, _, _, rfl, hp, TW.cl, TW.nW, wf_w, _, rfl, p, C, dx, _, _, rfl, hp, TW.cl, TW.nL, wf_l, _, rfl, p, C, dx, _, _, rfl, hp, TW.cl, TW.nT, wf_t, ?_⟩
    exact ⟨W.b, W.tick, q, l, W.ws, kvs, W.live, rfl, ok.b2, ok.b64, SqL.of hw.words, ok.ne, hl, L, ok.few, fun m hm => ⟨Nat.lt_of_le_of_lt (ok.tms m hm).since (ok.tms m hm).due, (ok.tms m hm).big⟩, c⟩
end
/-- the lists are told in one way -/
theorem IsLists.uniq {b : Nat} {ws : List Bool} {t : Nat} {ms : List Tm} {cs cs' : List Cell} (h : IsLists b ws t ms cs) (h' : IsLists b ws t ms cs') : cs = cs' := by
  have cast : ∀ l : List Cell, (l.map fun c => ((c.1.1 : Int), (c.1.2 : Int))) = (l.map (·.1)).map fun k => ((k.1 : Int), (k.2 : Int)) := fun l => by
    rw [List.map_map]
    rfl
  have hk : cs.map (·.1) = cs'.map (·.1) := by
    have z1 := h.sorted
    have z2 := h'.sorted
    rw [cast, List.pairwise_map] at z1 z2
    refine List.Perm.eq_of_pairwise (fun a c _ _ h1 h2 => ?_) z1 z2 (h.perm.trans h'.perm.symm)
    rw [SrtO.lexB_no] at h1 h2
    dsimp only at h1 h2
    refine Prod.ext ?_ ?_ <;> omega
  have hall : ∀ (l l' : List Cell), l.map (·.1) = l'.map (·.1) → (∀ c ∈ l, c.2 = cellV (standD b ws t ms) c.1) → (∀ c ∈ l', c.2 = cellV (standD b ws t ms) c.1) → l = l' := by
    intro l
    induction l with
    | nil =>
      intro l' e _ _
      cases l' with
      | nil => rfl
      | cons c l' => cases e
    | cons c l ih =>
      intro l' e h1 h2
      cases l' with
      | nil => cases e
      | cons c' l' =>
        rw [List.map_cons, List.map_cons] at e
        obtain ⟨e1, e2⟩ := List.cons.inj e
        rw [ih l' e2 (fun x hx => h1 x (List.mem_cons_of_mem _ hx)) fun x hx => h2 x (List.mem_cons_of_mem _ hx)]
        have a1 := h1 c (List.mem_cons_self ..)
        have a2 := h2 c' (List.mem_cons_self ..)
        rw [← e1, ← a1] at a2
        rw [Prod.ext e1 a2.symm]
  exact hall cs cs' hk h.val h'.val
/-! ### the lists as data -/
def cellD (c : Cell) : PyData := .tuple [.int (c.1.1 : Nat), .int (c.1.2 : Nat), .list (c.2.map fun x => PyData.int (x : Nat))]
theorem cells_dp {K : PySem.W.Frag} {H0 H : Hp} (s : ∀ a xs, H0 a = some (.lst xs) → H a = some (.lst xs)) : ∀ {ts : List Addr} {cs : List Cell}, CRows H0 H ts cs → DpAll K H (ts.map V.ref) (cs.map cellD)
  | [], [], _ => .nil
  | _ :: _, _ :: _, ⟨⟨a, h1, h2⟩, h3⟩ => .cons (.tup (SqT.of h1) (.cons (.int _) (.cons (.int _) (.cons (.lst (SqL.of (s _ _ h2)) (dp_nats _)) .nil)))) (cells_dp s h3)
  | [], _ :: _, h => h.elim
  | _ :: _, [], h => h.elim
theorem cellD_lay (c : Cell) : (cellD c).canLay0 = true := by
  simp [cellD, PyData.canLay0, PyData.canLayAll0, nats_lay]
theorem cells_lay : ∀ cs : List Cell, PyData.canLayAll0 (cs.map cellD) = true
  | [] => rfl
  | c :: cs => by
    show ((cellD c).canLay0 && PyData.canLayAll0 (cs.map cellD)) = true
    rw [cellD_lay, cells_lay cs]
    rfl
theorem cellD_depth (c : Cell) : (cellD c).depth ≤ 2 := by
  have h : (PyData.list (c.2.map fun x => PyData.int (x : Nat))).depth = 1 := by
    show PyData.depthAll _ + 1 = 1
    rw [nats_depth c.2]
  show max (PyData.depth _) (max (PyData.depth _) (max (PyData.depth (PyData.list (c.2.map fun x => PyData.int (x : Nat)))) (PyData.depthAll []))) + 1 ≤ 2
  rw [h]
  exact Nat.le_refl 2
theorem cells_depth : ∀ cs : List Cell, PyData.depthAll (cs.map cellD) ≤ 2
  | [] => Nat.zero_le _
  | c :: cs => by
    have ih := cells_depth cs
    have h := cellD_depth c
    show max (cellD c).depth (PyData.depthAll (cs.map cellD)) ≤ 2
    omega
theorem cells_shaped (cs : List Cell) : SeqAt.shaped (.list (cs.map cellD)) = true := by
  have h1 : (PyData.list (cs.map cellD)).canLay0 = true := by
    show PyData.canLayAll0 (cs.map cellD) = true
    exact cells_lay cs
  have h2 : (PyData.list (cs.map cellD)).depth ≤ 64 := by
    show PyData.depthAll (cs.map cellD) + 1 ≤ 64
    have := cells_depth cs
    omega
  unfold SeqAt.shaped
  rw [h1, decide_eq_true h2]
  rfl
/-! ### the law's drawing of numbers -/
def SrcAt (H : Hp) (p : Addr) : Prop := ∃ a b c : Int, H p = some (.lst [.int a, .int b, .int c])
/-- all but the source p stands as it was; p is a source again -/
structure Stp (p : Addr) (H H' : Hp) : Prop where
  keep : ∀ q o, q ≠ p → H q = some o → H' q = some o
  src : SrcAt H' p
theorem Stp.refl {p : Addr} {H : Hp} (h : SrcAt H p) : Stp p H H := ⟨fun _ _ _ e => e, h⟩
theorem Stp.trans {p : Addr} {H H1 H2 : Hp} (a : Stp p H H1) (b : Stp p H1 H2) : Stp p H H2 := ⟨fun q o n e => b.keep q o n (a.keep q o n e), b.src⟩
theorem Stp.same {p : Addr} {H H1 H2 : Hp} (a : Stp p H H1) (b : Same H1 H2) : Stp p H H2 := by
  obtain ⟨x, y, z, e⟩ := a.src
  exact ⟨fun q o n e => b q o (a.keep q o n e), ⟨x, y, z, b _ _ e⟩⟩
theorem SrcAt.same {p : Addr} {H H' : Hp} (h : SrcAt H p) (s : Same H H') : SrcAt H' p := by
  obtain ⟨a, b, c, e⟩ := h
  exact ⟨a, b, c, s _ _ e⟩
theorem Stp.free {p q : Addr} {H H' : Hp} (a : Stp p H H') (hq : H' q = none) : H q = none := by
  cases e : H q with
  | none => rfl
  | some o =>
    by_cases z : q = p
    · obtain ⟨x, y, u, w⟩ := a.src
      rw [z, w] at hq
      cases hq
    · rw [a.keep q o z e] at hq
      cases hq
theorem SrcAt.ne {H : Hp} {p l : Addr} (h : SrcAt H p) (hl : H l = none) : l ≠ p := fun e => by
  obtain ⟨x, y, z, w⟩ := h
  rw [e, w] at hl
  cases hl
theorem SrcAt.stp_same {p : Addr} {H H' : Hp} (h : SrcAt H p) (s : Same H H') : Stp p H H' := (Stp.refl h).same s
theorem Stp.seqL {K : PySem.W.Frag} {p a : Addr} {xs : List V} {H H' : Hp} (s : Stp p H H') (n : a ≠ p) (h : SqL K H a xs) : SqL K H' a xs := by
  rcases h with (h | ⟨o, h⟩) | h
  · exact .inl (.inl (s.keep _ _ n h))
  · exact .inl (.inr ⟨o, s.keep _ _ n h⟩)
  · exact .inr h
section
variable {P : Program} {w : World} {K : PySem.W.Frag} {mg : Str → Option Value} {base : Heap}
def spCellAt (K : PySem.W.Frag) : Sp := fun vs H Q _ => ∃ (a : Addr) (ns : List Int) (k : Nat), vs = [.ref a, .int (k : Nat)] ∧ SqL K H a (ns.map V.int) ∧ ∀ v : Int, Q (.int v) H
theorem ok_cell_at {f : Addr} {fd : FuncData} (F : Fun K "_law_cell_at" "_law_cell_at" s__law_cell_at f fd) (T : Tx K mg) : FnOk P w K mg base CX0 1 f fd ["_law_script", "_law_k"] (spCellAt K) := by
  refine F.ok sc__law_cell_at (fun vs H Q E h => ?_) (fun cdv A outer s H vs Q E hr h => ?_)
  · obtain ⟨a, ns, k, rfl, _⟩ := h
    rfl
  · obtain ⟨a, ns, k, rfl, hS, q⟩ := h
    refine ⟨_, (pss_cons (ps_if (pt_cmpR op_lt (pv 1) (pe_callB (lenK (K := K) rfl) (by rfl) T.b_len PySem.boot_len (pa_cons (pv 0) pa_nil)) (nomark _))
        (pss_one (ps_ret (pe_ix (ix_listK (K := K) rfl) (pv 0) (pv 1) (fun _ _ => rfl))))
        pss_nil)
      (pss_one (ps_ret pe_int))), ?_⟩
    refine ⟨_, rfl, .ref a, rfl, a, ns.map V.int, rfl, .inl hS, _, _, rfl, rfl, _, rfl, ite2 (fun e => ?_) (fun e => ?_)⟩
    · have hk : k < ns.length := by
        have z := of_decide_eq_true e
        rw [List.length_map] at z
        omega
      have g : (ns.map V.int)[k]? = some (.int ns[k]) := by
        rw [List.getElem?_map, List.getElem?_eq_getElem hk]
        rfl
      exact ⟨.ref a, rfl, _, rfl, a, _, _, _, rfl, rfl, hS, atI_nat g, q _⟩
    · exact q 0
def spMixed : Sp := fun vs H Q _ => ∃ c k : Int, vs = [.int c, .int k] ∧ ∀ r : Int, 0 ≤ r → r < 2147483563 → Q (.int r) H
theorem ok_mixed {f : Addr} {fd : FuncData} (F : Fun K "_law_mixed" "_law_mixed" s__law_mixed f fd) : FnOk P w K mg base CX0 1 f fd ["_law_cell", "_law_k"] spMixed := by
  refine F.ok sc__law_mixed (fun vs H Q E h => ?_) (fun cdv A outer s H vs Q E hr h => ?_)
  · obtain ⟨c, k, rfl, _⟩ := h
    rfl
  · obtain ⟨c, k, rfl, q⟩ := h
    refine ⟨_, (pss_cons (ps_set (i := 2) sc__law_mixed.nd rfl (.inl rfl) (pe_op op_add (pe_op op_mod (pv 0) pe_int) (pe_op op_mulA (pe_op op_fdivW (pv 0) pe_int) pe_int)))
      (pss_cons (ps_set (i := 2) sc__law_mixed.nd rfl (.inl rfl) (pe_op op_mod (pe_op op_mulA (pe_op op_add (pe_op op_add (pv 2) (pe_op op_mulA pe_int (pv 1))) pe_int) pe_int) pe_int))
      (pss_cons (ps_set (i := 2) sc__law_mixed.nd rfl (.inl rfl) (pe_op op_mod (pe_op op_mulA (pv 2) (pe_op op_add (pe_op op_add (pe_op op_fdivW (pv 2) pe_int) pe_int) (pv 1))) pe_int))
      (pss_one (ps_ret (pe_op op_mod (pe_op op_mulA (pv 2) (pe_op op_add (pe_op op_fdivW (pv 2) pe_int) pe_int)) pe_int)))))), ?_⟩
    refine ⟨_, rfl, c, 2147483629, rfl, rfl, (by decide : (0 : Int) < 2147483629), _, rfl, c, 2147483629, rfl, rfl, div_s (by decide) (by decide), _, 30011, rfl, rfl, mul_r (by decide) (by decide), _, _, rfl, rfl, ?_⟩
    refine ⟨_, rfl, _, rfl, 69621, k, rfl, rfl, mul_l (by decide) (by decide), _, _, rfl, rfl, _, 1, rfl, rfl, _, 48271, rfl, rfl, mul_r (by decide) (by decide), _, 2147483629, rfl, rfl, (by decide : (0 : Int) < 2147483629), ?_⟩
    generalize hl : (c % 2147483629 + c / 2147483629 * 30011 + 69621 * k + 1) * 48271 = l0
    have b1 : 0 ≤ l0 % 2147483629 := Int.emod_nonneg _ (by decide)
    have b2 : l0 % 2147483629 < 2147483629 := Int.emod_lt_of_pos _ (by decide)
    refine ⟨_, rfl, _, rfl, l0 % 2147483629, 907, rfl, rfl, div_s (by decide) (by decide), _, 16831, rfl, rfl, _, rfl, _, k, rfl, rfl, l0 % 2147483629, _, rfl, rfl, mul_l (by omega) (by omega), _, 2147483587, rfl, rfl, (by decide : (0 : Int) < 2147483587), ?_⟩
    generalize (l0 % 2147483629) * (l0 % 2147483629 / 907 + 16831 + k) = l1
    have b3 : 0 ≤ l1 % 2147483587 := Int.emod_nonneg _ (by decide)
    have b4 : l1 % 2147483587 < 2147483587 := Int.emod_lt_of_pos _ (by decide)
    refine ⟨_, rfl, _, rfl, _, 1201, rfl, rfl, div_s (by decide) (by decide), _, 30011, rfl, rfl, _, _, rfl, rfl, mul_l (i := l1 % 2147483587) (by omega) (by omega), _, 2147483563, rfl, rfl, (by decide : (0 : Int) < 2147483563), ?_⟩
    exact q _ (Int.emod_nonneg _ (by decide)) (Int.emod_lt_of_pos _ (by decide))
def spSource (K : PySem.W.Frag) : Sp := fun vs H Q _ => ∃ (a : Addr) (ns : List Int) (k : Nat), vs = [.ref a, .int (k : Nat)] ∧ SqL K H a (ns.map V.int) ∧ ∀ H' p, Same H H' → H p = none → SrcAt H' p → Q (.ref p) H'
theorem ok_source {f : Addr} {fd : FuncData} (F : Fun K "_law_source" "_law_source" s__law_source f fd) (T : Tx K mg) (h1 : Has P w K mg base 1 "_law_cell_at" ["_law_script", "_law_k"] [] (spCellAt K))
    (h2 : Has P w K mg base 1 "_law_mixed" ["_law_cell", "_law_k"] [] spMixed) : FnOk P w K mg base CX0 2 f fd ["_law_script", "_law_k"] (spSource K) := by
  obtain ⟨f__law_cell_at, fd__law_cell_at, ds__law_cell_at, G__law_cell_at, m__law_cell_at, k__law_cell_at, b__law_cell_at, v__law_cell_at⟩ := h1
  obtain ⟨f__law_mixed, fd__law_mixed, ds__law_mixed, G__law_mixed, m__law_mixed, k__law_mixed, b__law_mixed, v__law_mixed⟩ := h2
  refine F.ok sc__law_source (fun vs H Q E h => ?_) (fun cdv A outer s H vs Q E hr h => ?_)
  · obtain ⟨a, ns, k, rfl, _⟩ := h
    rfl
  · obtain ⟨a, ns, k, rfl, hS, q⟩ := h
    refine ⟨_, (pss_cons (ps_if (pt_cmpR op_lt (pv 1) (pe_callB (lenK (K := K) rfl) (by rfl) T.b_len PySem.boot_len (pa_cons (pv 0) pa_nil)) (nomark _))
        (pss_one (ps_ret (pe_lst (pa_cons (pe_ix (ix_listK (K := K) rfl) (pv 0) (pv 1) (fun _ _ => rfl)) (pa_cons (pe_ix (ix_listK (K := K) rfl) (pv 0) (pv 1) (fun _ _ => rfl)) (pa_cons pe_int pa_nil))))))
        pss_nil)
      (pss_cons (ps_set (i := 2) sc__law_source.nd rfl (.inl rfl) (pe_call G__law_mixed hr (by rfl) m__law_mixed k__law_mixed b__law_mixed v__law_mixed pass0 (pa_cons (pe_call G__law_cell_at hr (by rfl) m__law_cell_at k__law_cell_at b__law_cell_at v__law_cell_at pass0 (pa_cons (pv 0) (pa_cons pe_int pa_nil))) (pa_cons (pe_op op_add pe_int (pv 1)) pa_nil))))
      (pss_one (ps_ret (pe_lst (pa_cons (pv 2) (pa_cons (pv 2) (pa_cons pe_int pa_nil)))))))), ?_⟩
    refine ⟨_, rfl, .ref a, rfl, a, ns.map V.int, rfl, .inl hS, _, _, rfl, rfl, _, rfl, ite2 (fun e => ?_) (fun e => ?_)⟩
    · have hk : k < ns.length := by
        have z := of_decide_eq_true e
        rw [List.length_map] at z
        omega
      have g : (ns.map V.int)[k]? = some (.int ns[k]) := by
        rw [List.getElem?_map, List.getElem?_eq_getElem hk]
        rfl
      refine ⟨.ref a, rfl, _, rfl, a, _, _, _, rfl, rfl, hS, atI_nat g, .ref a, rfl, _, rfl, a, _, _, _, rfl, rfl, hS, atI_nat g, by simp [sizeLine_eq], fun p hp => ?_⟩
      exact q _ p (same_upd hp) hp ⟨_, _, _, upd_same⟩
    · refine ⟨.ref a, rfl, a, ns, 0, rfl, hS, fun v => ⟨_, rfl, 1000, _, rfl, rfl, v, _, rfl, fun r _ _ => ?_⟩⟩
      refine ⟨_, rfl, _, rfl, by simp [sizeLine_eq], fun p hp => ?_⟩
      exact q _ p (same_upd hp) hp ⟨_, _, _, upd_same⟩
def spNext : Sp := fun vs H Q _ => ∃ (p : Addr) (m : Int), vs = [.ref p, .int m] ∧ 0 < m ∧ m < 2 ^ 300 ∧ SrcAt H p ∧ ∀ (r : Nat) H', (r : Int) < m → Stp p H H' → Q (.int (r : Nat)) H'
theorem ok_next {f : Addr} {fd : FuncData} (F : Fun K "_law_next" "_law_next" s__law_next f fd) (h2 : Has P w K mg base 1 "_law_mixed" ["_law_cell", "_law_k"] [] spMixed) : FnOk P w K mg base CX0 2 f fd ["_law_source_here", "_law_many"] spNext := by
  obtain ⟨f__law_mixed, fd__law_mixed, ds__law_mixed, G__law_mixed, m__law_mixed, k__law_mixed, b__law_mixed, v__law_mixed⟩ := h2
  refine F.ok sc__law_next (fun vs H Q E h => ?_) (fun cdv A outer s H vs Q E hr h => ?_)
  · obtain ⟨p, m, rfl, _⟩ := h
    rfl
  · obtain ⟨p, m, rfl, hm, hm2, ⟨a, b, c, hp⟩, q⟩ := h
    have fin : ∀ (x : Int) (H' : Hp), Stp p H H' → Q (.int (x % m)) H' := fun x H' s => by
      have h0 : 0 ≤ x % m := Int.emod_nonneg _ (by omega)
      have h1 : x % m < m := Int.emod_lt_of_pos _ hm
      have e : ((x % m).toNat : Int) = x % m := Int.toNat_of_nonneg h0
      have z := q (x % m).toNat H' (by omega) s
      rw [e] at z
      exact z
    have st : ∀ x y z : Int, Stp p H (upd H p (.lst [.int x, .int y, .int z])) := fun x y z => ⟨fun q o n e => by rw [upd_ne n]; exact e, ⟨x, y, z, upd_same⟩⟩
    refine ⟨_, (pss_cons (ps_if (pt_cmpR op_ge (pe_ix (ix_listK (K := K) rfl) (pv 0) pe_int (fun _ _ => rfl)) (pe_op op_pow pe_int pe_int) (nomark _))
        (pss_cons (ps_set (i := 2) sc__law_next.nd rfl (.inl rfl) (pe_op op_mod (pe_ix (ix_listK (K := K) rfl) (pv 0) pe_int (fun _ _ => rfl)) (pv 1)))
        (pss_cons (ps_asg (pe_op op_fdivW (pe_ix (ix_listK (K := K) rfl) (pv 0) pe_int (fun _ _ => rfl)) (pv 1)) (pg_sub (pv 0) pe_int set_list))
        (pss_one (ps_ret (pv 2)))))
        pss_nil)
      (pss_cons (ps_asg (pe_op op_add (pe_ix (ix_listK (K := K) rfl) (pv 0) pe_int (fun _ _ => rfl)) pe_int) (pg_sub (pv 0) pe_int set_list))
      (pss_one (ps_ret (pe_op op_mod (pe_call G__law_mixed hr (by rfl) m__law_mixed k__law_mixed b__law_mixed v__law_mixed pass0 (pa_cons (pe_ix (ix_listK (K := K) rfl) (pv 0) pe_int (fun _ _ => rfl)) (pa_cons (pe_ix (ix_listK (K := K) rfl) (pv 0) pe_int (fun _ _ => rfl)) pa_nil))) (pv 1)))))), ?_⟩
    refine ⟨.ref p, rfl, p, _, 0, .int a, rfl, rfl, SqL.of hp, atI_nat (j := 0) rfl, 10, 18, rfl, rfl, ⟨by decide, by decide, by decide⟩, a, _, rfl, rfl, _, rfl, ite2 (fun _ => ?_) (fun _ => ?_)⟩
    · refine ⟨.ref p, rfl, p, _, 0, .int a, rfl, rfl, SqL.of hp, atI_nat (j := 0) rfl, .int m, rfl, a, m, rfl, rfl, hm, ?_⟩
      refine ⟨.ref p, rfl, p, _, 0, .int a, rfl, rfl, SqL.of hp, atI_nat (j := 0) rfl, .int m, rfl, a, m, rfl, rfl, div_s hm hm2, ?_⟩
      refine ⟨.ref p, rfl, p, _, 0, 0, rfl, rfl, hp, rfl, ?_⟩
      exact ⟨_, rfl, fin a _ (st _ _ _)⟩
    · refine ⟨.ref p, rfl, p, _, 2, .int c, rfl, rfl, SqL.of hp, atI_nat (j := 2) rfl, c, 1, rfl, rfl, ?_⟩
      refine ⟨.ref p, rfl, p, _, 2, 2, rfl, rfl, hp, rfl, ?_⟩
      have h2 : (upd H p (.lst [.int a, .int b, .int (c + 1)])) p = some (.lst [.int a, .int b, .int (c + 1)]) := upd_same
      refine ⟨.ref p, rfl, p, _, 1, .int b, rfl, rfl, SqL.of h2, atI_nat (j := 1) rfl, .ref p, rfl, p, _, 2, .int (c + 1), rfl, rfl, SqL.of h2, atI_nat (j := 2) rfl, b, c + 1, rfl, fun r _ _ => ?_⟩
      exact ⟨.int m, rfl, r, m, rfl, rfl, hm, fin r _ (st _ _ _)⟩
end
/-! ### the law's bases -/
section
variable {P : Program} {w : World} {K : PySem.W.Frag} {mg : Str → Option Value} {base : Heap}
def spBase : Sp := fun vs H Q _ => ∃ (p : Addr), vs = [.ref p] ∧ SrcAt H p ∧ ∀ (b : Nat) H', 2 ≤ b → b ≤ 64 → Stp p H H' → Q (.int (b : Nat)) H'
theorem ok_base {f : Addr} {fd : FuncData} (F : Fun K "_law_base" "_law_base" s__law_base f fd) (h1 : Has P w K mg base 2 "_law_next" ["_law_source_here", "_law_many"] [] spNext) : FnOk P w K mg base CX0 3 f fd ["_law_source_here"] spBase := by
  obtain ⟨f__law_next, fd__law_next, ds__law_next, G__law_next, m__law_next, k__law_next, b__law_next, v__law_next⟩ := h1
  refine F.ok sc__law_base (fun vs H Q E h => ?_) (fun cdv A outer s H vs Q E hr h => ?_)
  · obtain ⟨p, rfl, _⟩ := h
    rfl
  · obtain ⟨p, rfl, hs, q⟩ := h
    refine ⟨_, (pss_one (ps_ret (pe_ix (ix_listK (K := K) rfl) (pe_lst (pa_cons pe_int (pa_cons pe_int (pa_cons pe_int (pa_cons pe_int (pa_cons pe_int (pa_cons pe_int (pa_cons pe_int (pa_cons pe_int (pa_cons pe_int pa_nil)))))))))) (pe_call G__law_next hr (by rfl) m__law_next k__law_next b__law_next v__law_next pass0 (pa_cons (pv 0) (pa_cons pe_int pa_nil))) (fun _ _ => rfl)))), ?_⟩
    refine ⟨by simp [sizeLine_eq], fun l hl => ?_⟩
    have s1 := same_upd (o := .lst [.int 2, .int 3, .int 4, .int 5, .int 7, .int 10, .int 16, .int 63, .int 64]) hl
    have nlp : l ≠ p := fun e => by
      obtain ⟨x, y, z, h⟩ := hs
      rw [e, h] at hl
      cases hl
    refine ⟨_, rfl, p, 9, rfl, by decide, by decide, hs.same s1, fun r H' hr9 st => ?_⟩
    have eL := st.keep _ _ nlp upd_same
    have hst : Stp p H H' := (hs.stp_same s1).trans st
    have hr : r < 9 := by omega
    have all : ∀ j : Nat, j < 9 → ∃ b : Nat, ([.int 2, .int 3, .int 4, .int 5, .int 7, .int 10, .int 16, .int 63, .int 64] : List V)[j]? = some (.int (b : Nat)) ∧ 2 ≤ b ∧ b ≤ 64 := by
      intro j hj
      match j, hj with
      | 0, _ => exact ⟨2, rfl, by decide, by decide⟩
      | 1, _ => exact ⟨3, rfl, by decide, by decide⟩
      | 2, _ => exact ⟨4, rfl, by decide, by decide⟩
      | 3, _ => exact ⟨5, rfl, by decide, by decide⟩
      | 4, _ => exact ⟨7, rfl, by decide, by decide⟩
      | 5, _ => exact ⟨10, rfl, by decide, by decide⟩
      | 6, _ => exact ⟨16, rfl, by decide, by decide⟩
      | 7, _ => exact ⟨63, rfl, by decide, by decide⟩
      | 8, _ => exact ⟨64, rfl, by decide, by decide⟩
      | j + 9, h => omega
    obtain ⟨b, eb, b2, b64⟩ := all r hr
    exact ⟨l, _, r, .int (b : Nat), rfl, rfl, SqL.of eL, atI_nat eb, q b H' b2 b64 hst⟩
end
/-! ### the law's ticks -/
theorem emod_le_self {a m : Int} (h : 0 ≤ a) (hm : 0 < m) : a % m ≤ a := by
  have e := Int.emod_add_mul_ediv a m
  have z : 0 ≤ m * (a / m) := Int.mul_nonneg (Int.le_of_lt hm) (Int.ediv_nonneg h (Int.le_of_lt hm))
  omega
theorem pow64_le {b j : Nat} (h : b ≤ 64) (hj : j ≤ 30) : b ^ j < 2 ^ 181 := by
  have h1 : b ^ j ≤ 64 ^ j := Nat.pow_le_pow_left h j
  have h2 : (64 : Nat) ^ j ≤ 64 ^ 30 := Nat.pow_le_pow_right (by decide) hj
  have h3 : (64 : Nat) ^ 30 < 2 ^ 181 := by decide
  omega
section
variable {P : Program} {w : World} {K : PySem.W.Frag} {mg : Str → Option Value} {base : Heap}
/-- a pick of a list of two, by a number less than 2 -/
theorem pick2 {x y : V} {r : Nat} (h : r < 2) : ([x, y] : List V)[r]? = some (if r = 0 then x else y) := by
  match r, h with
  | 0, _ => rfl
  | 1, _ => rfl
  | r + 2, h => omega
def spTick : Sp := fun vs H Q _ => ∃ (p : Addr) (b : Nat), vs = [.ref p, .int (b : Nat)] ∧ 2 ≤ b ∧ b ≤ 64 ∧ SrcAt H p ∧ ∀ (t : Nat) H', t < 2 ^ 190 → Stp p H H' → Q (.int (t : Nat)) H'
theorem ok_tick {f : Addr} {fd : FuncData} (F : Fun K "_law_tick" "_law_tick" s__law_tick f fd) (T : Tx K mg) (h1 : Has P w K mg base 2 "_law_next" ["_law_source_here", "_law_many"] [] spNext) : FnOk P w K mg base CX0 3 f fd ["_law_source_here", "_law_base_here"] spTick := by
  obtain ⟨f__law_next, fd__law_next, ds__law_next, G__law_next, m__law_next, k__law_next, b__law_next, v__law_next⟩ := h1
  refine F.ok sc__law_tick (fun vs H Q E h => ?_) (fun cdv A outer s H vs Q E hr h => ?_)
  · obtain ⟨p, b, rfl, _⟩ := h
    rfl
  · obtain ⟨p, b, rfl, hb2, hb64, hs, q⟩ := h
    have two : ∀ {H : Hp} {l : Addr} {o : HO}, SrcAt H p → H l = none → Stp p H (upd H l o) ∧ l ≠ p := fun {H l o} hs hl =>
      ⟨hs.stp_same (same_upd hl), fun e => by
        obtain ⟨x, y, z, h⟩ := hs
        rw [e, h] at hl
        cases hl⟩
    refine ⟨_, (pss_cons (ps_set (i := 2) sc__law_tick.nd rfl (.inl rfl) (pe_call G__law_next hr (by rfl) m__law_next k__law_next b__law_next v__law_next pass0 (pa_cons (pv 0) (pa_cons pe_int pa_nil))))
      (pss_cons (ps_if (pt_cmpR op_lt (pv 2) pe_int (nomark _))
        (pss_one (ps_ret (pe_call G__law_next hr (by rfl) m__law_next k__law_next b__law_next v__law_next pass0 (pa_cons (pv 0) (pa_cons (pe_ix (ix_listK (K := K) rfl) (pe_lst (pa_cons pe_int (pa_cons pe_int pa_nil))) (pv 2) (fun _ _ => rfl)) pa_nil)))))
        pss_nil)
      (pss_cons (ps_set (i := 3) sc__law_tick.nd rfl (.inl rfl) pe_int)
      (pss_cons (ps_for PassesOwn.never rfl (pi_range1 (by rfl) T.b_range (pa_cons (pe_call G__law_next hr (by rfl) m__law_next k__law_next b__law_next v__law_next pass0 (pa_cons (pv 0) (pa_cons (pe_ix (ix_listK (K := K) rfl) (pe_lst (pa_cons pe_int (pa_cons pe_int pa_nil))) (pe_call G__law_next hr (by rfl) m__law_next k__law_next b__law_next v__law_next pass0 (pa_cons (pv 0) (pa_cons pe_int pa_nil))) (fun _ _ => rfl)) pa_nil))) pa_nil)) (pg_name (i := 4) sc__law_tick.nd rfl (.inl rfl))
        (pss_one (ps_set (i := 3) sc__law_tick.nd rfl (.inl rfl) (pe_op op_mulA (pv 3) (pv 1)))))
      (pss_cons (ps_set (i := 3) sc__law_tick.nd rfl (.inl rfl) (pe_op op_mod (pv 3) (pe_op op_pow pe_int pe_int)))
      (pss_cons (ps_if (pt_cmpR op_eq (pv 2) pe_int (nomark _))
        (pss_one (ps_ret (pe_callB (call_max2 rfl) (by rfl) T.b_max (by decide +kernel) (pa_cons pe_int (pa_cons (pe_op op_sub (pe_op op_add (pv 3) (pe_call G__law_next hr (by rfl) m__law_next k__law_next b__law_next v__law_next pass0 (pa_cons (pv 0) (pa_cons pe_int pa_nil)))) pe_int) pa_nil)))))
        pss_nil)
      (pss_cons (ps_if (pt_cmpR op_eq (pv 2) pe_int (nomark _))
        (pss_one (ps_ret (pe_op op_add (pe_op op_mulA (pv 3) (pe_op op_add pe_int (pe_call G__law_next hr (by rfl) m__law_next k__law_next b__law_next v__law_next pass0 (pa_cons (pv 0) (pa_cons (pv 1) pa_nil))))) (pe_call G__law_next hr (by rfl) m__law_next k__law_next b__law_next v__law_next pass0 (pa_cons (pv 0) (pa_cons (pv 1) pa_nil))))))
        pss_nil)
      (pss_one (ps_ret (pe_op op_add (pe_op op_mulA (pe_call G__law_next hr (by rfl) m__law_next k__law_next b__law_next v__law_next pass0 (pa_cons (pv 0) (pa_cons (pe_op op_pow pe_int pe_int) pa_nil))) (pe_op op_pow pe_int pe_int)) (pe_call G__law_next hr (by rfl) m__law_next k__law_next b__law_next v__law_next pass0 (pa_cons (pv 0) (pa_cons (pe_op op_pow pe_int pe_int) pa_nil))))))))))))), ?_⟩
    -- sort = next(source, 5)
    refine ⟨_, rfl, p, 5, rfl, by decide, by decide, hs, fun r0 H1 hr0 s1 => ?_⟩
    refine ⟨_, rfl, _, 2, rfl, rfl, _, rfl, ite2 (fun e => ?_) (fun e0 => ?_)⟩
    · -- near ones
      have hr2 : r0 < 2 := by
        have z := of_decide_eq_true e
        omega
      refine ⟨_, rfl, by simp [sizeLine_eq], fun l hl => ?_⟩
      obtain ⟨s2, nl⟩ := two (o := .lst [.int 6, .int 400]) s1.src hl
      refine ⟨_, rfl, l, _, r0, _, rfl, rfl, SqL.of upd_same, atI_nat (pick2 hr2), p, if r0 = 0 then 6 else 400, ?_, ?_, ?_, s2.src, fun r H2 hr s3 => ?_⟩
      · show [V.ref p, if r0 = 0 then V.int 6 else V.int 400] = _
        split <;> rfl
      · split <;> decide
      · split <;> decide
      · refine q r H2 ?_ ((s1.trans s2).trans s3)
        have z : r < 400 := by
          split at hr <;> omega
        exact Nat.lt_trans z (by decide)
    · -- size = 1; for at in range(next(..)): size = size * base
      refine ⟨_, rfl, by simp [sizeLine_eq], fun l hl => ?_⟩
      obtain ⟨s2, nl⟩ := two (o := .lst [.int 4, .int 30]) s1.src hl
      refine ⟨_, rfl, p, 2, rfl, by decide, by decide, s2.src, fun r1 H2 hr1 s3 => ?_⟩
      have eL : H2 l = some (.lst [.int 4, .int 30]) := s3.keep _ _ nl upd_same
      refine ⟨l, _, r1, _, rfl, rfl, SqL.of eL, atI_nat (pick2 (by omega)), p, if r1 = 0 then 4 else 30, ?_, ?_, ?_, s3.src, fun r2 H3 hr2 s4 => ?_⟩
      · show [V.ref p, if r1 = 0 then V.int 4 else V.int 30] = _
        split <;> rfl
      · split <;> decide
      · split <;> decide
      have hr30 : r2 < 30 := by
        split at hr2 <;> omega
      have s14 := ((s1.trans s2).trans s3).trans s4
      refine ⟨_, rfl, by omega, by omega, for_range (Pv := fun i σ H' => H' = H3 ∧ ∃ y, σ = [some (.ref p), some (.int (b : Nat)), some (.int (r0 : Nat)), some (.int ((b ^ i : Nat) : Int)), y]) ⟨rfl, none, rfl⟩ ?_ ?_⟩
      · rintro i σ H' hi ⟨rfl, y, rfl⟩
        have hi30 : i < 30 := by omega
        have hb : b ^ i < 2 ^ 181 := pow64_le hb64 (by omega)
        refine ⟨_, rfl, _, rfl, _, _, rfl, rfl, mul_r (by omega) (by omega), ?_⟩
        refine ⟨rfl, some (.int (0 + (i : Int))), ?_⟩
        rw [Nat.pow_succ, Int.natCast_mul]
        rfl
      · rintro σ H' ⟨rfl, y, rfl⟩
        have h58 : (0 : Int) < (10 : Int) ^ (58 : Int).toNat := by decide
        refine ⟨_, rfl, 10, 58, rfl, rfl, ⟨by decide, by decide, by decide⟩, _, _, rfl, rfl, h58, ?_⟩
        generalize hz : (((b ^ ((r2 : Nat) : Int).toNat : Nat) : Int) % (10 : Int) ^ (58 : Int).toNat) = z
        have z0 : 0 ≤ z := by
          rw [← hz]
          exact Int.emod_nonneg _ (by decide)
        have z1 : z < 2 ^ 181 := by
          rw [← hz]
          refine Int.lt_of_le_of_lt (emod_le_self (by omega) (by decide)) ?_
          have := pow64_le (j := ((r2 : Nat) : Int).toNat) hb64 (by omega)
          omega
        -- sort == 2
        refine ⟨_, rfl, rfl, _, rfl, ite2 (fun _ => ?_) (fun _ => ?_)⟩
        · refine ⟨_, rfl, _, rfl, p, 3, rfl, by decide, by decide, s14.src, fun r3 H4 hr3 s5 => ?_⟩
          refine ⟨z, r3, congrArg V.int hz, rfl, _, 1, rfl, rfl, 0, _, rfl, ?_⟩
          have e3 : (if z + (r3 : Int) - 1 > 0 then z + (r3 : Int) - 1 else 0) = (((if z + (r3 : Int) - 1 > 0 then z + (r3 : Int) - 1 else 0).toNat : Nat) : Int) := by
            split <;> omega
          show Q (.int (if z + (r3 : Int) - 1 > 0 then z + (r3 : Int) - 1 else 0)) H4
          rw [e3]
          refine q _ H4 ?_ (s14.trans s5)
          split <;> omega
        · refine ⟨_, rfl, rfl, _, rfl, ite2 (fun _ => ?_) (fun _ => ?_)⟩
          · refine ⟨_, rfl, _, rfl, _, rfl, p, b, rfl, by omega, by omega, s14.src, fun r3 H4 hr3 s5 => ?_⟩
            refine ⟨1, r3, rfl, rfl, z, _, congrArg V.int hz, rfl, mul_r (by omega) (by omega), _, rfl, _, rfl, p, b, rfl, by omega, by omega, s5.src, fun r4 H5 hr4 s6 => ?_⟩
            refine ⟨_, _, rfl, rfl, ?_⟩
            have zr : z * (1 + (r3 : Int)) ≤ z * 65 := Int.mul_le_mul_of_nonneg_left (by omega) z0
            have zr0 : 0 ≤ z * (1 + (r3 : Int)) := Int.mul_nonneg z0 (by omega)
            have e3 : z * (1 + (r3 : Int)) + (r4 : Int) = (((z * (1 + (r3 : Int)) + (r4 : Int)).toNat : Nat) : Int) := by omega
            show Q (.int (z * (1 + (r3 : Int)) + (r4 : Int))) H5
            rw [e3]
            exact q _ H5 (by omega) ((s14.trans s5).trans s6)
          · refine ⟨_, rfl, 10, 9, rfl, rfl, ⟨by decide, by decide, by decide⟩, p, _, rfl, by decide, by decide, s14.src, fun r3 H4 hr3 s5 => ?_⟩
            have hr3' : r3 < 10 ^ 9 := by
              have q : (r3 : Int) < 10 ^ (9 : Int).toNat := hr3
              have e : (10 : Int) ^ (9 : Int).toNat = 1000000000 := by decide
              omega
            have e20 : (10 : Int) ^ (20 : Int).toNat = 100000000000000000000 := by decide
            refine ⟨10, 20, rfl, rfl, ⟨by decide, by decide, by decide⟩, _, _, rfl, rfl, mul_l (by omega) (by omega), _, rfl, 10, 6, rfl, rfl, ⟨by decide, by decide, by decide⟩, p, _, rfl, by decide, by decide, s5.src, fun r4 H5 hr4 s6 => ?_⟩
            have hr4' : r4 < 10 ^ 6 := by
              have q : (r4 : Int) < 10 ^ (6 : Int).toNat := hr4
              have e : (10 : Int) ^ (6 : Int).toNat = 1000000 := by decide
              omega
            refine ⟨_, _, rfl, rfl, ?_⟩
            show Q (.int ((r3 : Int) * (10 : Int) ^ (20 : Int).toNat + (r4 : Int))) H5
            rw [e20]
            have e3 : (r3 : Int) * 100000000000000000000 + (r4 : Int) = ((r3 * 100000000000000000000 + r4 : Nat) : Int) := by omega
            rw [e3]
            exact q _ H5 (by omega) ((s14.trans s5).trans s6)
end
section
variable {P : Program} {w : World} {K : PySem.W.Frag} {mg : Str → Option Value} {base : Heap}
theorem flat_rep {α : Type} (x : α) : ∀ n : Nat, (List.replicate n [x]).flatten = List.replicate n x
  | 0 => rfl
  | n + 1 => by
    rw [List.replicate_succ, List.flatten_cons, flat_rep x n, List.replicate_succ]
    rfl
theorem pick_lv {r : Nat} (h : r < 2) : ([.str "stack", .str "queue"] : List V)[r]? = some (lvV (decide (r = 0))) := by
  match r, h with
  | 0, _ => rfl
  | 1, _ => rfl
  | r + 2, h => omega
theorem pick_vl {r : Nat} (h : r < 2) : ([.str "queue", .str "stack"] : List V)[r]? = some (lvV (decide (r = 1))) := by
  match r, h with
  | 0, _ => rfl
  | 1, _ => rfl
  | r + 2, h => omega
def spLevels : Sp := fun vs H Q _ => ∃ (p : Addr), vs = [.ref p] ∧ SrcAt H p ∧ ∀ H' q (ws : List Bool), Stp p H H' → H q = none → H' q = some (.lst (ws.map lvV)) → ws ≠ [] → ws.length ≤ 60 → Q (.ref q) H'
theorem ok_levels {f : Addr} {fd : FuncData} (F : Fun K "_law_levels" "_law_levels" s__law_levels f fd) (T : Tx K mg) (h1 : Has P w K mg base 2 "_law_next" ["_law_source_here", "_law_many"] [] spNext) : FnOk P w K mg base CX0 3 f fd ["_law_source_here"] spLevels := by
  obtain ⟨f__law_next, fd__law_next, ds__law_next, G__law_next, m__law_next, k__law_next, b__law_next, v__law_next⟩ := h1
  refine F.ok sc__law_levels (fun vs H Q E h => ?_) (fun cdv A outer s H vs Q E hr h => ?_)
  · obtain ⟨p, rfl, _⟩ := h
    rfl
  · obtain ⟨p, rfl, hs, c⟩ := h
    refine ⟨_, (pss_cons (ps_set (i := 1) sc__law_levels.nd rfl (.inl rfl) (pe_ix (ix_listK (K := K) rfl) (pe_lst (pa_cons (pe_op op_add pe_int (pe_call G__law_next hr (by rfl) m__law_next k__law_next b__law_next v__law_next pass0 (pa_cons (pv 0) (pa_cons pe_int pa_nil)))) (pa_cons (pe_op op_add pe_int (pe_call G__law_next hr (by rfl) m__law_next k__law_next b__law_next v__law_next pass0 (pa_cons (pv 0) (pa_cons pe_int pa_nil)))) pa_nil))) (pe_callTy call_int1 (by rfl) T.b_int (by decide +kernel) (pa_cons (pe_cmpR op_eq (pe_call G__law_next hr (by rfl) m__law_next k__law_next b__law_next v__law_next pass0 (pa_cons (pv 0) (pa_cons pe_int pa_nil))) pe_int (nomark _)) pa_nil)) (fun _ _ => rfl)))
      (pss_cons (ps_set (i := 2) sc__law_levels.nd rfl (.inl rfl) (pe_call G__law_next hr (by rfl) m__law_next k__law_next b__law_next v__law_next pass0 (pa_cons (pv 0) (pa_cons pe_int pa_nil))))
      (pss_cons (ps_if (pt_cmpR op_lt (pv 2) pe_int (nomark _))
        (pss_one (ps_ret (pe_op op_rep (pe_lst (pa_cons (pe_ix (ix_listK (K := K) rfl) (pe_lst (pa_cons pe_str (pa_cons pe_str pa_nil))) (pv 2) (fun _ _ => rfl)) pa_nil)) (pv 1))))
        pss_nil)
      (pss_cons (ps_setLc (i := 3) (own := [("_law_at", 4)]) (g := gName 4) (tt := tYes) rfl sc__law_levels.nd rfl rfl (sw_true rfl rfl rfl (by decide +kernel)) (pi_range1 (by rfl) T.b_range (pa_cons (pv 1) pa_nil)) (blkOk_by (own := [("_law_at", 4)]) (N := N__law_levels) (sc := defScope s__law_levels) (by decide +kernel)) (fun _ _ _ _ _ => (pg_name (i := 4) sc__law_levels.nd rfl (.inl rfl))) (fun _ _ _ _ _ => pts_nil) (fun _ _ _ _ _ => (pe_ix (ix_listK (K := K) rfl) (pe_lst (pa_cons pe_str (pa_cons pe_str pa_nil))) (pe_call G__law_next hr (by rfl) m__law_next k__law_next b__law_next v__law_next pass0 (pa_cons (pv 0) (pa_cons pe_int pa_nil))) (fun _ _ => rfl))))
      (pss_cons (ps_if (pt_cmpR op_eq (pv 2) pe_int (nomark _))
        (pss_one (ps_setLc (i := 3) (own := [("_law_at", 4)]) (g := gName 4) (tt := tYes) rfl sc__law_levels.nd rfl rfl (sw_true rfl rfl rfl (by decide +kernel)) (pi_range1 (by rfl) T.b_range (pa_cons (pv 1) pa_nil)) (blkOk_by (own := [("_law_at", 4)]) (N := N__law_levels) (sc := defScope s__law_levels) (by decide +kernel)) (fun _ _ _ _ _ => (pg_name (i := 4) sc__law_levels.nd rfl (.inl rfl))) (fun _ _ _ _ _ => pts_nil) (fun _ _ _ _ _ => (pe_ix (ix_listK (K := K) rfl) (pe_lst (pa_cons pe_str (pa_cons pe_str pa_nil))) (pe_op op_mod (pv 4) pe_int) (fun _ _ => rfl)))))
        pss_nil)
      (pss_one (ps_ret (pv 3)))))))), ?_⟩
    -- many
    refine ⟨_, rfl, p, 6, rfl, by decide, by decide, hs, fun r1 H1 hr1 s1 => ⟨1, r1, rfl, rfl, _, rfl, p, 60, rfl, by decide, by decide, s1.src, fun r2 H2 hr2 s2 => ⟨1, r2, rfl, rfl, by simp [sizeLine_eq], fun l hl => ?_⟩⟩⟩
    have s3 : Stp p H2 (upd H2 l (.lst [.int (1 + (r1 : Int)), .int (1 + (r2 : Int))])) := s2.src.stp_same (same_upd hl)
    refine ⟨_, rfl, p, 5, rfl, by decide, by decide, s3.src, fun r3 H4 hr3 s4 => ⟨rfl, .inr ⟨_, rfl, ?_⟩⟩⟩
    have eL := s4.keep _ _ (s2.src.ne hl) upd_same
    obtain ⟨m, em, hm0, hm⟩ : ∃ m : Nat, ([.int (1 + (r1 : Int)), .int (1 + (r2 : Int))] : List V)[if decide (V.int (r3 : Nat) = V.int 4) = true then 1 else 0]? = some (.int (m : Nat)) ∧ 1 ≤ m ∧ m ≤ 60 := by
      split
      · exact ⟨1 + r2, rfl, by omega, by omega⟩
      · exact ⟨1 + r1, rfl, by omega, by omega⟩
    refine ⟨l, _, ((if decide (V.int (r3 : Nat) = V.int 4) = true then 1 else 0 : Nat) : Int), _, rfl, ?_, SqL.of eL, atI_nat em, ?_⟩
    · split <;> rfl
    have s04 := ((s1.trans s2).trans s3).trans s4
    -- sort
    refine ⟨_, rfl, p, 5, rfl, by decide, by decide, s4.src, fun r5 H5 hr5 s5 => ?_⟩
    have s05 := s04.trans s5
    refine ⟨_, rfl, _, 2, rfl, rfl, _, rfl, ite2 (fun e => ?_) (fun e0 => ?_)⟩
    · have hr2' : r5 < 2 := by
        have z := of_decide_eq_true e
        omega
      refine ⟨by simp [sizeLine_eq], fun l6 hl6 => ?_⟩
      refine ⟨_, rfl, l6, _, r5, _, rfl, rfl, SqL.of upd_same, atI_nat (pick_lv hr2'), by simp [sizeLine_eq], fun l7 hl7 => ?_⟩
      refine ⟨_, rfl, l7, (m : Nat), _, rfl, rfl, upd_same, by omega, by omega, ?_, fun q hq => ?_⟩
      · exact sizeLine_le (by show 1 * m ≤ 1000000; omega)
      · have s8 := ((s05.same (same_upd hl6)).same (same_upd hl7)).same (same_upd (o := .lst (List.replicate ((m : Nat) : Int).toNat [lvV (decide (r5 = 0))]).flatten) hq)
        refine c _ q (List.replicate m (decide (r5 = 0))) s8 ?_ ?_ ?_ ?_
        · exact ((s05.same (same_upd hl6)).same (same_upd hl7)).free hq
        · rw [upd_same, flat_rep, List.map_replicate]
          rfl
        · intro e
          have z := congrArg List.length e
          rw [List.length_replicate] at z
          exact absurd z (by show ¬ m = 0; omega)
        · rw [List.length_replicate]
          exact hm
    · -- drawn words
      refine ⟨_, rfl, m, rfl, by omega, by omega, fun D hD => lc_range (lo := 0) (n := ((m : Nat) : Int).toNat) (fun i H' => Stp p H5 H' ∧ ∃ ws : List Bool, ws.length = i ∧ H' D = some (.lst (ws.map lvV)))
        ⟨s5.src.stp_same (same_upd hD), [], rfl, upd_same⟩ ?_ ?_⟩
      · rintro i H' hi ⟨st, ws, hw, eD⟩
        have nDp : D ≠ p := s5.src.ne hD
        refine ⟨rfl, yesT (iteT ?_)⟩
        refine ⟨by simp [sizeLine_eq], fun l8 hl8 => ?_⟩
        have s8 : Stp p H' (upd H' l8 (.lst [.str "queue", .str "stack"])) := st.src.stp_same (same_upd hl8)
        refine ⟨_, rfl, p, 2, rfl, by decide, by decide, s8.src, fun r9 H9 hr9 s9 => ?_⟩
        have eL8 := s9.keep _ _ (st.src.ne hl8) upd_same
        have eD9 := s9.keep _ _ nDp (s8.keep _ _ nDp eD)
        refine ⟨l8, _, r9, _, rfl, rfl, SqL.of eL8, atI_nat (pick_vl (by omega)), _, eD9, ?_, ⟨fun b o n e => ?_, ?_⟩, ws ++ [decide (r9 = 1)], ?_, ?_⟩
        · rw [List.length_map, hw]
          exact sizeLine_ge (by omega)
        · rw [upd_ne (ne_of_none e hD)]
          exact s9.keep _ _ n (s8.keep _ _ n (st.keep _ _ n e))
        · obtain ⟨x, y, z, h⟩ := s9.src
          exact ⟨x, y, z, by rw [upd_ne nDp.symm]; exact h⟩
        · rw [List.length_append, hw]
          rfl
        · rw [upd_same, List.map_append]
          rfl
      rintro H6 ⟨s6, ws, hw, eD⟩
      have hw' : ws.length = m := by rw [hw]; exact Int.toNat_natCast m
      have s06 := s05.trans s6
      have last : ∀ H7 q (vs : List Bool), Stp p H H7 → H q = none → H7 q = some (.lst (vs.map lvV)) → vs.length = m → Q (.ref q) H7 := fun H7 q vs st hq eq hv =>
        c H7 q vs st hq eq (fun e => by
          rw [e] at hv
          exact absurd hv (by show ¬ 0 = m; omega)) (by omega)
      have hD0 : H D = none := s05.free hD
      refine ⟨_, rfl, rfl, _, rfl, ite2 (fun e => ?_) (fun e => ?_)⟩
      · refine ⟨_, rfl, m, rfl, by omega, by omega, fun D2 hD2 => lc_range (lo := 0) (n := ((m : Nat) : Int).toNat) (fun i H' => Same H6 H' ∧ ∃ ws : List Bool, ws.length = i ∧ H' D2 = some (.lst (ws.map lvV)))
          ⟨same_upd hD2, [], rfl, upd_same⟩ ?_ ?_⟩
        · rintro i H' hi ⟨st, ws2, hw2, eD2⟩
          refine ⟨rfl, yesT (iteT ?_)⟩
          refine ⟨by simp [sizeLine_eq], fun l8 hl8 => ?_⟩
          have s8 := same_upd (o := .lst [.str "queue", .str "stack"]) hl8
          have ei : (0 + (i : Int)) % 2 = ((i % 2 : Nat) : Int) := by omega
          refine ⟨_, rfl, _, 2, rfl, rfl, (by decide : (0 : Int) < 2), l8, _, ((i % 2 : Nat) : Int), _, rfl, congrArg V.int ei, SqL.of upd_same, atI_nat (pick_vl (Nat.mod_lt i (by decide))), _, s8 _ _ eD2, ?_, fun b o e => ?_, ws2 ++ [decide (i % 2 = 1)], ?_, ?_⟩
          · rw [List.length_map, hw2]
            exact sizeLine_ge (by omega)
          · rw [upd_ne (ne_of_none e hD2)]
            exact s8 _ _ (st _ _ e)
          · rw [List.length_append, hw2]
            rfl
          · rw [upd_same, List.map_append]
            rfl
        rintro H7 ⟨s7, ws2, hw2, eD2⟩
        refine ⟨_, rfl, last H7 D2 ws2 (s06.same s7) (s06.free hD2) eD2 ?_⟩
        rw [hw2]
        exact Int.toNat_natCast m
      · exact ⟨_, rfl, last H6 D ws s06 hD0 eD hw'⟩
end
/-! ### the law's loop over its numbers -/
theorem seq_new {K : PySem.W.Frag} {a p : Addr} {xs : List V} {H H1 H2 : Hp} (h : SqL K H a xs) (hp : H p = none) (s1 : Same H H1) (s2 : Stp p H1 H2) : SqL K H2 a xs := by
  rcases h with (h | ⟨o, h⟩) | h
  · exact .inl (.inl (s2.keep _ _ (ne_of_none h hp) (s1 _ _ h)))
  · exact .inl (.inr ⟨o, s2.keep _ _ (ne_of_none h hp) (s1 _ _ h)⟩)
  · exact .inr h
/-! ### rows in the law's loop -/
theorem RowsAt.stp {p : Addr} {H H' : Hp} (s : Stp p H H') (hs : SrcAt H p) {ts : List Addr} {rs : List Row3} (R : RowsAt H ts rs) : RowsAt H' ts rs :=
  R.frame fun t r e => s.keep _ _ (fun z => by
    obtain ⟨x, y, u, w⟩ := hs
    rw [z, w] at e
    cases e) e
/-! ### the law's used wheels -/
theorem fire_none {t n : Nat} {ms : List Tm} (hp : ∀ m ∈ ms, m.per = none) (h : ∃ m ∈ ms, m.num = n) : fireT t ms n = dropT n ms := by
  cases hf : ms.find? (fun x => decide (x.num = n)) with
  | none =>
    obtain ⟨m, hm, e⟩ := h
    have z := List.find?_eq_none.mp hf m hm
    exact absurd e (by simpa using z)
  | some m =>
    rw [fire_some hf, hp m (List.mem_of_find?_eq_some hf)]
theorem after_none {t : Nat} : ∀ {ns : List Nat} {ms : List Tm}, (∀ m ∈ ms, m.per = none) → ns.Nodup → (∀ n ∈ ns, ∃ m ∈ ms, m.num = n) → (∀ m ∈ afterF t ms ns, m ∈ ms) ∧ (afterF t ms ns).length + ns.length ≤ ms.length ∧ ((ms.map (·.num)).Nodup → ((afterF t ms ns).map (·.num)).Nodup)
  | [], ms, _, _, _ => ⟨fun m h => h, Nat.le_refl _, fun h => h⟩
  | n :: ns, ms, hp, nd, hin => by
    obtain ⟨h1, h2⟩ := List.nodup_cons.mp nd
    have hn := hin n (List.mem_cons_self ..)
    have e : afterF t ms (n :: ns) = afterF t (dropT n ms) ns := by
      unfold afterF
      rw [List.foldl_cons, fire_none hp hn]
    have hsub : ∀ m ∈ dropT n ms, m ∈ ms := fun m h => (List.mem_filter.mp h).1
    obtain ⟨i1, i2, i3⟩ := after_none (t := t) (ns := ns) (ms := dropT n ms) (fun m h => hp m (hsub m h)) h2 fun x hx => by
      obtain ⟨m, hm, em⟩ := hin x (List.mem_cons_of_mem _ hx)
      refine ⟨m, drop_mem hm fun z => ?_, em⟩
      rw [em] at z
      rw [z] at hx
      exact h1 hx
    rw [e]
    have z := drop_len_lt hn
    refine ⟨fun m h => hsub m (i1 m h), ?_, fun h => i3 (drop_nodup h)⟩
    rw [List.length_cons]
    omega
theorem adv_exists (b : Nat) (ws : List Bool) (t : Nat) : ∀ (n : Nat) (ms : List Tm), ms.length ≤ n → (∀ m ∈ ms, m.per = none) → (∀ m ∈ ms, m.since < m.due ∧ m.due < 2 ^ 250) → (ms.map (·.num)).Nodup → ms.length ≤ 1000 →
    ∃ fired ms', AdvTo b ws t ms fired ms' ∧ total fired ≤ ms.length ∧ (∀ m ∈ ms', m ∈ ms ∧ t < m.due) ∧ (ms'.map (·.num)).Nodup ∧ ms'.length ≤ ms.length := by
  intro n
  induction n with
  | zero =>
    intro ms hl _ _ nd _
    have e : ms = [] := List.eq_nil_of_length_eq_zero (by omega)
    rw [e]
    exact ⟨[], [], .done (fun m h => by cases h), Nat.le_refl _, (fun m h => by cases h), List.nodup_nil, Nat.le_refl _⟩
  | succ n ih =>
    intro ms hl hp ok nd few
    cases hle : leastD ms with
    | none =>
      rw [least_none.mp hle]
      exact ⟨[], [], .done (fun m h => by cases h), Nat.le_refl _, (fun m h => by cases h), List.nodup_nil, Nat.le_refl _⟩
    | some v =>
      by_cases hv : v ≤ t
      · obtain ⟨a1, a2, a3⟩ := after_none (t := v) (ns := orderAt b ws v ms) hp (order_nodup nd) fun x hx => by
          obtain ⟨m, h1, _, h3⟩ := order_mem.mp hx
          exact ⟨m, h1, h3⟩
        have hpos := order_pos (b := b) (ws := ws) hle
        obtain ⟨fired, ms', r1, r2, r3, r4, r5⟩ := ih (afterF v ms (orderAt b ws v ms)) (by omega) (fun m h => hp m (a1 m h)) (fun m h => ok m (a1 m h)) (a3 nd) (by omega)
        refine ⟨(v, orderAt b ws v ms) :: fired, ms', .step hle hv ok nd few r1, ?_, fun m h => ⟨a1 m (r3 m h).1, (r3 m h).2⟩, r4, by omega⟩
        unfold total at r2 ⊢
        rw [List.map_cons, List.sum_cons]
        show (orderAt b ws v ms).length + _ ≤ _
        omega
      · refine ⟨[], ms, .done (fun m h => ?_), Nat.zero_le _, fun m h => ⟨h, ?_⟩, nd, Nat.le_refl _⟩
        all_goals
          have z := (least_some.mp hle).2 m.due (List.mem_map_of_mem h)
          omega
theorem pick3 {x y z : V} {r : Nat} (h : r < 3) : ([x, y, z] : List V)[r]? = some (if r = 0 then x else if r = 1 then y else z) := by
  match r, h with
  | 0, _ => rfl
  | 1, _ => rfl
  | 2, _ => rfl
  | r + 3, h => omega
theorem Stp.wk {s p l : Addr} {H0 H H' : Hp} {l' : Addr} (st : Stp s H0 H) (hp : H0 p = none) (hl : H0 l = none) (nsp : s ≠ p) (nsl : s ≠ l) (k : Wk p l H H' l') : Stp s H0 H' ∧ H0 l' = none := by
  refine ⟨⟨fun c o n e => k.keep c o (ne_of_none e hp) (ne_of_none e hl) (st.keep c o n e), ?_⟩, ?_⟩
  · obtain ⟨x, y, z, h⟩ := st.src
    exact ⟨x, y, z, k.keep _ _ nsp nsl h⟩
  · rcases k.new with e | e
    · rw [e]
      exact hl
    · exact st.free e
section
variable {P : Program} {w : World} {K : PySem.W.Frag} {mg : Str → Option Value} {base : Heap}
def spFar : Sp := fun vs H Q _ => ∃ (p : Addr) (b n : Nat), vs = [.ref p, .int (b : Nat), .int (n : Nat)] ∧ 2 ≤ b ∧ b ≤ 64 ∧ SrcAt H p ∧ ∀ (d : Nat) H', n < d → d ≤ n + 1 + 2 ^ 190 → Stp p H H' → Q (.int (d : Nat)) H'
theorem ok_far {f : Addr} {fd : FuncData} (F : Fun K "_law_far" "_law_far" s__law_far f fd) (h1 : Has P w K mg base 2 "_law_next" ["_law_source_here", "_law_many"] [] spNext) (h2 : Has P w K mg base 3 "_law_tick" ["_law_source_here", "_law_base_here"] [] spTick) :
    FnOk P w K mg base CX0 4 f fd ["_law_source_here", "_law_base_here", "_law_now"] spFar := by
  obtain ⟨f__law_next, fd__law_next, ds__law_next, G__law_next, m__law_next, k__law_next, b__law_next, v__law_next⟩ := h1
  obtain ⟨f__law_tick, fd__law_tick, ds__law_tick, G__law_tick, m__law_tick, k__law_tick, b__law_tick, v__law_tick⟩ := h2
  refine F.ok sc__law_far (fun vs H Q E h => ?_) (fun cdv A outer s H vs Q E hr h => ?_)
  · obtain ⟨p, b, n, rfl, _⟩ := h
    rfl
  · obtain ⟨p, b, n, rfl, hb, hb64, hs, c⟩ := h
    refine ⟨_, (pss_cons (ps_set (i := 3) sc__law_far.nd rfl (.inl rfl) (pe_op op_add (pe_op op_add (pv 2) pe_int) (pe_call G__law_next (hr.mono (by decide)) (by rfl) m__law_next k__law_next b__law_next v__law_next pass0 (pa_cons (pv 0) (pa_cons (pe_ix (ix_listK (K := K) rfl) (pe_lst (pa_cons pe_int (pa_cons pe_int pa_nil))) (pe_call G__law_next (hr.mono (by decide)) (by rfl) m__law_next k__law_next b__law_next v__law_next pass0 (pa_cons (pv 0) (pa_cons pe_int pa_nil))) (fun _ _ => rfl)) pa_nil)))))
      (pss_one (ps_ret (pe_ix (ix_listK (K := K) rfl) (pe_lst (pa_cons (pv 3) (pa_cons (pe_op op_add (pe_op op_add (pv 2) pe_int) (pe_call G__law_tick hr (by rfl) m__law_tick k__law_tick b__law_tick v__law_tick pass0 (pa_cons (pv 0) (pa_cons (pv 1) pa_nil)))) (pa_cons (pe_op op_add (pe_op op_add (pv 2) pe_int) (pe_call G__law_next (hr.mono (by decide)) (by rfl) m__law_next k__law_next b__law_next v__law_next pass0 (pa_cons (pv 0) (pa_cons (pe_op op_mulA (pv 1) (pv 1)) pa_nil)))) pa_nil)))) (pe_call G__law_next (hr.mono (by decide)) (by rfl) m__law_next k__law_next b__law_next v__law_next pass0 (pa_cons (pv 0) (pa_cons pe_int pa_nil))) (fun _ _ => rfl))))), ?_⟩
    refine ⟨_, rfl, (n : Nat), 1, rfl, rfl, _, rfl, by simp [sizeLine_eq], fun l1 hl1 => ?_⟩
    have n1 := hs.ne hl1
    have s1 := hs.stp_same (same_upd (o := .lst [.int 9, .int 400]) hl1)
    refine ⟨_, rfl, p, 2, rfl, by decide, by decide, s1.src, fun r2 H2 hr2 s2 => ?_⟩
    have eL1 := s2.keep _ _ n1 upd_same
    refine ⟨l1, _, r2, _, rfl, rfl, SqL.of eL1, atI_nat (pick2 (by omega)), p, if r2 = 0 then 9 else 400, ?_, ?_, ?_, s2.src, fun r3 H3 hr3 s3 => ?_⟩
    · show [V.ref p, if r2 = 0 then V.int 9 else V.int 400] = _
      split <;> rfl
    · split <;> decide
    · split <;> decide
    have hr3' : r3 < 400 := by
      split at hr3 <;> omega
    refine ⟨((n + 1 : Nat) : Int), (r3 : Nat), rfl, rfl, ?_⟩
    refine ⟨_, rfl, _, rfl, (n : Nat), 1, rfl, rfl, _, rfl, _, rfl, p, b, rfl, hb, hb64, s3.src, fun t4 H4 ht4 s4 => ?_⟩
    refine ⟨((n + 1 : Nat) : Int), (t4 : Nat), rfl, rfl, _, rfl, (n : Nat), 1, rfl, rfl, _, rfl, _, rfl, _, rfl, (b : Nat), (b : Nat), rfl, rfl, mul_l (by omega) (by omega), p, _, rfl, ?_, ?_, s4.src, fun r5 H5 hr5 s5 => ?_⟩
    · exact Int.mul_pos (by omega) (by omega)
    · have z : (b : Int) * (b : Int) ≤ 64 * 64 := Int.mul_le_mul (by omega) (by omega) (by omega) (by decide)
      show (b : Int) * (b : Int) < 2 ^ 300
      omega
    have hr5' : r5 < 4096 := by
      have z : (b : Int) * (b : Int) ≤ 64 * 64 := Int.mul_le_mul (by omega) (by omega) (by omega) (by decide)
      have z2 : (r5 : Int) < (b : Int) * (b : Int) := hr5
      omega
    refine ⟨((n + 1 : Nat) : Int), (r5 : Nat), rfl, rfl, by simp [sizeLine_eq], fun l6 hl6 => ?_⟩
    have n6 := s5.src.ne hl6
    have s6 : Stp p H5 (upd H5 l6 (.lst [.int ((n + 1 + r3 : Nat) : Int), .int ((n + 1 + t4 : Nat) : Int), .int ((n + 1 + r5 : Nat) : Int)])) := s5.src.stp_same (same_upd hl6)
    refine ⟨_, rfl, p, 3, rfl, by decide, by decide, s6.src, fun r7 H7 hr7 s7 => ?_⟩
    have eL6 := s7.keep _ _ n6 (upd_same (H := H5) (a := l6) (o := .lst [.int ((n + 1 + r3 : Nat) : Int), .int ((n + 1 + t4 : Nat) : Int), .int ((n + 1 + r5 : Nat) : Int)]))
    have sAll := ((((s1.trans s2).trans s3).trans s4).trans s5).trans (s6.trans s7)
    refine ⟨l6, _, r7, _, rfl, rfl, SqL.of eL6, atI_nat (pick3 (by omega)), ?_⟩
    by_cases e0 : r7 = 0
    · rw [if_pos e0]
      exact c _ H7 (by omega) (by omega) sAll
    · rw [if_neg e0]
      by_cases e1 : r7 = 1
      · rw [if_pos e1]
        exact c _ H7 (by omega) (by omega) sAll
      · rw [if_neg e1]
        exact c _ H7 (by omega) (by omega) sAll
end
section
variable {P : Program} {w : World} {K : PySem.W.Frag} {mg : Str → Option Value} {base : Heap}
theorem no_timers {b : Nat} {q : Addr} {t f : Nat} {l : Addr} : (wfl b q t f l).lookup ("timers" : Str) = none := wf_no (by decide +kernel) (by decide +kernel) (by decide +kernel) (by decide +kernel) (by decide +kernel)
theorem no_now {b : Nat} {q : Addr} {t f : Nat} {l : Addr} : (wfl b q t f l).lookup ("now" : Str) = none := wf_no (by decide +kernel) (by decide +kernel) (by decide +kernel) (by decide +kernel) (by decide +kernel)
theorem no_put {b : Nat} {q : Addr} {t f : Nat} {l : Addr} : (wfl b q t f l).lookup ("put" : Str) = none := wf_no (by decide +kernel) (by decide +kernel) (by decide +kernel) (by decide +kernel) (by decide +kernel)
theorem no_cancel {b : Nat} {q : Addr} {t f : Nat} {l : Addr} : (wfl b q t f l).lookup ("cancel" : Str) = none := wf_no (by decide +kernel) (by decide +kernel) (by decide +kernel) (by decide +kernel) (by decide +kernel)
theorem no_reset {b : Nat} {q : Addr} {t f : Nat} {l : Addr} : (wfl b q t f l).lookup ("reset" : Str) = none := wf_no (by decide +kernel) (by decide +kernel) (by decide +kernel) (by decide +kernel) (by decide +kernel)
theorem no_advance {b : Nat} {q : Addr} {t f : Nat} {l : Addr} : (wfl b q t f l).lookup ("advance" : Str) = none := wf_no (by decide +kernel) (by decide +kernel) (by decide +kernel) (by decide +kernel) (by decide +kernel)
theorem no_due {b : Nat} {q : Addr} {t f : Nat} {l : Addr} : (wfl b q t f l).lookup ("due" : Str) = none := wf_no (by decide +kernel) (by decide +kernel) (by decide +kernel) (by decide +kernel) (by decide +kernel)
theorem no_ne {b : Nat} {q : Addr} {t f : Nat} {l : Addr} : (wfl b q t f l).lookup ("next_event" : Str) = none := wf_no (by decide +kernel) (by decide +kernel) (by decide +kernel) (by decide +kernel) (by decide +kernel)
theorem no_nf {b : Nat} {q : Addr} {t f : Nat} {l : Addr} : (wfl b q t f l).lookup ("next_firing" : Str) = none := wf_no (by decide +kernel) (by decide +kernel) (by decide +kernel) (by decide +kernel) (by decide +kernel)
/-- a wheel of the law's, apart from what stood in H0; t a bound of its tick, n one of its timers -/
structure Used (C : Addr) (H0 H : Hp) (s p q l : Addr) (W : WS) (b t n : Nat) : Prop where
  st : Stp s H0 H
  p0 : H0 p = none
  q0 : H0 q = none
  l0 : H0 l = none
  at_ : WheelAt C H p q l W
  ok : WOk W
  base : W.b = b
  tick : W.tick ≤ t
  few : W.live.length ≤ n
  per : ∀ m ∈ W.live, m.per = none ∧ m.due < 2 ^ 195
  src0 : SrcAt H0 s
theorem src_ne {H0 : Hp} {s p : Addr} (h : SrcAt H0 s) (hp : H0 p = none) : s ≠ p := fun e => by
  obtain ⟨x, y, z, w⟩ := h
  rw [e, hp] at w
  cases w
/-- the source goes on, the wheel stays -/
theorem Used.step {C : Addr} {H0 H H' : Hp} {s p q l : Addr} {W : WS} {b t n : Nat} (u : Used C H0 H s p q l W b t n) (k : Stp s H H') : Used C H0 H' s p q l W b t n := by
  obtain ⟨x, y, z, hs⟩ := u.st.src
  exact ⟨u.st.trans k, u.p0, u.q0, u.l0, u.at_.frame (xs := [.int x, .int y, .int z]) hs (src_ne u.src0 u.q0) k.keep, u.ok, u.base, u.tick, u.few, u.per, u.src0⟩
theorem Used.wk {C : Addr} {H0 H H' : Hp} {s p q l l' : Addr} {W W' : WS} {b t n t' n' : Nat} (u : Used C H0 H s p q l W b t n) (k : Wk p l H H' l') (a : WheelAt C H' p q l' W') (ok : WOk W') (hb : W'.b = b) (ht : W'.tick ≤ t') (hn : W'.live.length ≤ n') (hper : ∀ m ∈ W'.live, m.per = none ∧ m.due < 2 ^ 195) : Used C H0 H' s p q l' W' b t' n' := by
  obtain ⟨h1, h2⟩ := u.st.wk u.p0 u.l0 (src_ne u.src0 u.p0) (src_ne u.src0 u.l0) k
  exact ⟨h1, u.p0, u.q0, h2, a, ok, hb, ht, hn, hper, u.src0⟩
theorem Used.same {C : Addr} {H0 H H' : Hp} {s p q l : Addr} {W : WS} {b t n : Nat} (u : Used C H0 H s p q l W b t n) (k : Same H H') : Used C H0 H' s p q l W b t n := u.step (u.st.src.stp_same k)
theorem ok_putW {W : WS} {d : Nat} (ok : WOk W) (few : W.live.length < 1000) (h1 : W.tick < d) (h2 : d < 2 ^ 250) : WOk { W with fol := W.fol + 1, live := W.live ++ [⟨W.fol, d, none, W.tick⟩] } := by
  refine ⟨ok.b2, ok.b64, ok.ne, ok.l60, fun m hm => ?_, ?_, ?_⟩
  · rcases List.mem_append.mp hm with hm | hm
    · have o := ok.tms m hm
      exact ⟨o.since, o.due, o.big, Nat.lt_succ_of_lt o.num, o.per⟩
    · rw [List.mem_singleton.mp hm]
      exact ⟨Nat.le_refl _, h1, h2, Nat.lt_succ_self _, fun k e => by cases e⟩
  · rw [List.map_append]
    refine L2.nd_snoc ok.nd fun h => ?_
    obtain ⟨m, hm, e⟩ := List.mem_map.mp h
    have o := (ok.tms m hm).num
    have e' : m.num = W.fol := e
    omega
  · rw [List.length_append]
    show W.live.length + 1 ≤ 1000
    omega
theorem ok_dropW {W : WS} {n : Nat} (ok : WOk W) : WOk { W with live := dropT n W.live } := by
  refine ⟨ok.b2, ok.b64, ok.ne, ok.l60, fun m hm => ok.tms m (List.mem_filter.mp hm).1, drop_nodup ok.nd, Nat.le_trans (List.length_filter_le _ _) ok.few⟩
theorem ok_resetW {W : WS} {m : Tm} {d : Nat} (ok : WOk W) (hm : m ∈ W.live) (hp : m.per = none) (h1 : W.tick < d) (h2 : d < 2 ^ 250) : WOk { W with live := dropT m.num W.live ++ [⟨m.num, d, m.per, W.tick⟩] } := by
  refine ⟨ok.b2, ok.b64, ok.ne, ok.l60, fun m' hm' => ?_, ?_, ?_⟩
  · rcases List.mem_append.mp hm' with hm' | hm'
    · exact ok.tms m' (List.mem_filter.mp hm').1
    · rw [List.mem_singleton.mp hm']
      exact ⟨Nat.le_refl _, h1, h2, (ok.tms m hm).num, fun k e => by rw [hp] at e; cases e⟩
  · rw [List.map_append]
    refine L2.nd_snoc (drop_nodup ok.nd) fun h => ?_
    obtain ⟨m', hm', e⟩ := List.mem_map.mp h
    exact drop_not m' hm' e
  · rw [List.length_append]
    have z := drop_len_lt (n := m.num) ⟨m, hm, rfl⟩
    have z2 := ok.few
    show (dropT m.num W.live).length + 1 ≤ 1000
    omega
theorem eqv_nil {d : PyData} {ds : List PyData} : PyData.eqv (.list (d :: ds)) (.list []) = false := rfl
def spUsed (C : Addr) : Sp := fun vs H Q _ => ∃ (s q0 : Addr) (b n : Nat) (ws : List Bool), vs = [.ref s, .int (b : Nat), .ref q0, .int (n : Nat)] ∧ 2 ≤ b ∧ b ≤ 64 ∧ SrcAt H s ∧ H q0 = some (.lst (ws.map lvV)) ∧ ws ≠ [] ∧ ws.length ≤ 60 ∧ n ≤ 2 ^ 191 ∧
  ∀ H' p q l W, Used C H H' s p q l W b (2 ^ 192) 20 → n ≤ W.tick → Q (.ref p) H'
theorem ok_used {f C : Addr} {fd : FuncData} (F : Fun K "_law_used" "_law_used" s__law_used f fd) (T : Tx K mg) (TW : TxW K mg C) (hI : ∃ (fi : Addr) (fdi : FuncData), Mk K C fi ∧ FnOk P w K mg base CX0 5 fi fdi ["self", "base", "levels", "start"] (spInit C K) ∧ KBn K fdi ["self", "base", "levels", "start"] 3 [Str.ofString "start"] (fun us ws => us ++ ws) (fun vs zs => vs ++ zs))
    (h1 : Has P w K mg base 2 "_law_next" ["_law_source_here", "_law_many"] [] spNext) (h2 : Has P w K mg base 4 "_law_far" ["_law_source_here", "_law_base_here", "_law_now"] [] spFar)
    (m1 : HasM P w K mg base 1 C "timers" ["self"] [] (spTimers C)) (m2 : HasM P w K mg base 1 C "now" ["self"] [] (spNow C)) (m3 : HasM P w K mg base 4 C "put" ["self", "due", "period"] [.non] (spPut C))
    (m4 : HasM P w K mg base 3 C "cancel" ["self", "timer"] [] (spCancel C)) (m5 : HasM P w K mg base 4 C "reset" ["self", "timer", "due"] [] (spReset C)) (m6 : HasM P w K mg base 6 C "advance" ["self", "tick"] [] (spAdvance C)) :
    FnOk P w K mg base CX0 7 f fd ["_law_source_here", "_law_base_here", "_law_levels_here", "_law_now"] (spUsed C) := by
  obtain ⟨fi, fdi, M_Wheel, G_Wheel_init, b_Wheel_init⟩ := hI
  have c_Wheel := TW.mgC
  have cl_Wheel := TW.cl
  obtain ⟨f__law_next, fd__law_next, ds__law_next, G__law_next, m__law_next, k__law_next, b__law_next, v__law_next⟩ := h1
  obtain ⟨f__law_far, fd__law_far, ds__law_far, G__law_far, m__law_far, k__law_far, b__law_far, v__law_far⟩ := h2
  obtain ⟨g1, gd1, gs1, G_Wheel_timers, M_Wheel_timers, b_Wheel_timers, v_Wheel_timers⟩ := m1
  obtain ⟨g2, gd2, gs2, G_Wheel_now, M_Wheel_now, b_Wheel_now, v_Wheel_now⟩ := m2
  obtain ⟨g3, gd3, gs3, G_Wheel_put, M_Wheel_put, b_Wheel_put, v_Wheel_put⟩ := m3
  obtain ⟨g4, gd4, gs4, G_Wheel_cancel, M_Wheel_cancel, b_Wheel_cancel, v_Wheel_cancel⟩ := m4
  obtain ⟨g5, gd5, gs5, G_Wheel_reset, M_Wheel_reset, b_Wheel_reset, v_Wheel_reset⟩ := m5
  obtain ⟨g6, gd6, gs6, G_Wheel_advance, M_Wheel_advance, b_Wheel_advance, v_Wheel_advance⟩ := m6
  refine F.ok sc__law_used (fun vs H Q E h => ?_) (fun cdv A outer s H vs Q E hr h => ?_)
  · obtain ⟨s, q0, b, n, ws, rfl, _⟩ := h
    rfl
  · obtain ⟨ps, q0, b, n, ws, rfl, hb, hb64, hs, hq0, hne, h60, hn, c⟩ := h
    refine ⟨_, (pss_cons (ps_set (i := 4) sc__law_used.nd rfl (.inl rfl) (pe_makeK M_Wheel G_Wheel_init hr (by rfl) c_Wheel b_Wheel_init pass0 (pa_cons (pv 1) (pa_cons (pv 2) pa_nil)) (pk_cons (pv 3) pk_nil)))
      (pss_cons (ps_for PassesOwn.never rfl (pi_range1 (by rfl) T.b_range (pa_cons (pe_op op_add pe_int (pe_call G__law_next (hr.mono (by decide)) (by rfl) m__law_next k__law_next b__law_next v__law_next pass0 (pa_cons (pv 0) (pa_cons pe_int pa_nil)))) pa_nil)) (pg_name (i := 5) sc__law_used.nd rfl (.inl rfl))
        (pss_cons (ps_set (i := 6) sc__law_used.nd rfl (.inl rfl) (pe_call G__law_next (hr.mono (by decide)) (by rfl) m__law_next k__law_next b__law_next v__law_next pass0 (pa_cons (pv 0) (pa_cons pe_int pa_nil))))
        (pss_cons (ps_set (i := 7) sc__law_used.nd rfl (.inl rfl) (pe_meth0 (pv 4) cl_Wheel M_Wheel_timers G_Wheel_timers (hr.mono (by decide)) b_Wheel_timers v_Wheel_timers pass0))
        (pss_cons (ps_set (i := 8) sc__law_used.nd rfl (.inl rfl) (pe_call G__law_far (hr.mono (by decide)) (by rfl) m__law_far k__law_far b__law_far v__law_far pass0 (pa_cons (pv 0) (pa_cons (pv 1) (pa_cons (pe_meth0 (pv 4) cl_Wheel M_Wheel_now G_Wheel_now (hr.mono (by decide)) b_Wheel_now v_Wheel_now pass0) pa_nil)))))
        (pss_one (ps_if (PW.pt (pw_or (pt_cmpR op_lt (pv 6) pe_int (nomark _)) (pw_or1 (pt_cmpR (op_eqK (K := K) rfl hr.units) (pv 7) (pe_lst pa_nil) (nomark _)))))
          (pss_one (ps_expr (pe_meth (pv 4) cl_Wheel M_Wheel_put G_Wheel_put (hr.mono (by decide)) b_Wheel_put v_Wheel_put pass0 (pa_cons (pv 8) pa_nil))))
          (pss_one (ps_if (pt_cmpR op_eq (pv 6) pe_int (nomark _))
            (pss_one (ps_expr (pe_meth (pv 4) cl_Wheel M_Wheel_cancel G_Wheel_cancel (hr.mono (by decide)) b_Wheel_cancel v_Wheel_cancel pass0 (pa_cons (pe_ix (ix_listK (K := K) rfl) (pv 7) (pe_call G__law_next (hr.mono (by decide)) (by rfl) m__law_next k__law_next b__law_next v__law_next pass0 (pa_cons (pv 0) (pa_cons (pe_callB (lenK (K := K) rfl) (by rfl) T.b_len PySem.boot_len (pa_cons (pv 7) pa_nil)) pa_nil))) (fun _ _ => rfl)) pa_nil))))
            (pss_one (ps_if (pt_cmpR op_eq (pv 6) pe_int (nomark _))
              (pss_one (ps_expr (pe_meth (pv 4) cl_Wheel M_Wheel_reset G_Wheel_reset (hr.mono (by decide)) b_Wheel_reset v_Wheel_reset pass0 (pa_cons (pe_ix (ix_listK (K := K) rfl) (pv 7) (pe_call G__law_next (hr.mono (by decide)) (by rfl) m__law_next k__law_next b__law_next v__law_next pass0 (pa_cons (pv 0) (pa_cons (pe_callB (lenK (K := K) rfl) (by rfl) T.b_len PySem.boot_len (pa_cons (pv 7) pa_nil)) pa_nil))) (fun _ _ => rfl)) (pa_cons (pv 8) pa_nil)))))
              (pss_one (ps_expr (pe_meth (pv 4) cl_Wheel M_Wheel_advance G_Wheel_advance hr b_Wheel_advance v_Wheel_advance pass0 (pa_cons (pe_op op_add (pe_meth0 (pv 4) cl_Wheel M_Wheel_now G_Wheel_now (hr.mono (by decide)) b_Wheel_now v_Wheel_now pass0) (pe_call G__law_next (hr.mono (by decide)) (by rfl) m__law_next k__law_next b__law_next v__law_next pass0 (pa_cons (pv 0) (pa_cons pe_int pa_nil)))) pa_nil))))))))))))))
      (pss_one (ps_ret (pv 4))))), ?_⟩
    refine ⟨_, rfl, _, rfl, _, rfl, rfl, rfl, fun p dx hp0 hdx0 nex => ?_⟩
    have s0 : Same H (upd (upd H dx (.own p)) p (.ins C dx [])) := fun c o e => by
      rw [upd_ne (ne_of_none e hp0), upd_ne (ne_of_none e hdx0)]
      exact e
    refine ⟨p, dx, q0, b, n, ws, rfl, upd_same, SqL.of (s0 _ _ hq0), hb, hb64, hne, h60, fun H1 q l k1 hq1 hl1 hw1 => ⟨rfl, ?_⟩⟩
    have k1' : Same H H1 := fun c o e => k1 c o (ne_of_none e hp0) (s0 _ _ e)
    have U0 : Used C H H1 ps p q l ⟨b, trimW ws, n, 0, []⟩ b n 0 := ⟨hs.stp_same k1', hp0, s0.free hq1, s0.free hl1, hw1, ⟨hb, hb64, trim_ne hne, Nat.le_trans (trim_len ws) h60, (fun m h => by cases h), List.nodup_nil, Nat.zero_le _⟩, rfl, Nat.le_refl _, Nat.le_refl _, (fun m h => by cases h), hs⟩
    -- the turns
    refine ⟨_, rfl, ps, 12, rfl, by decide, by decide, U0.st.src, fun r2 H2 hr2 s2 => ⟨3, (r2 : Nat), rfl, rfl, _, rfl, by omega, by omega, for_range (Pv := fun i σ H' => ∃ (l : Addr) (W : WS) (y5 y6 y7 y8 : Option V), σ = [some (.ref ps), some (.int (b : Nat)), some (.ref q0), some (.int (n : Nat)), some (.ref p), y5, y6, y7, y8] ∧ Used C H H' ps p q l W b (n + 30 * i) i ∧ n ≤ W.tick) ⟨l, _, none, none, none, none, rfl, U0.step s2, Nat.le_refl _⟩ ?_ ?_⟩⟩
    · rintro i σ H3 hi ⟨l, W, y5, y6, y7, y8, rfl, U3, lo⟩
      have hi15 : i < 15 := by omega
      refine ⟨_, rfl, ps, 7, rfl, by decide, by decide, U3.st.src, fun r4 H4 hr4 s4 => ?_⟩
      have U4 := U3.step s4
      obtain ⟨dx4, hp4⟩ := U4.at_.ins
      have few4 := U4.few
      refine ⟨_, rfl, p, dx4, _, rfl, hp4, no_timers, p, q, l, W, rfl, U4.at_, by omega, fun H5 r ns s5 hr0 hr5 hperm hsort => ?_⟩
      have U5 := U4.same s5
      obtain ⟨dx5, hp5⟩ := U5.at_.ins
      refine ⟨_, rfl, _, rfl, _, rfl, p, dx5, _, rfl, hp5, no_now, p, q, l, W, rfl, U5.at_, ps, b, W.tick, rfl, hb, hb64, U5.st.src, fun d H6 hd1 hd2 s6 => ?_⟩
      have U6 := U5.step s6
      have nrs : r ≠ ps := (U4.st.src.ne hr0)
      have hr6 := s6.keep _ _ nrs hr5
      have htick := U6.tick
      have few6 := U6.few
      have hd195 : d < 2 ^ 195 := by omega
      have hd250 : d < 2 ^ 250 := Nat.lt_trans hd195 (by decide)
      obtain ⟨dx6, hp6⟩ := U6.at_.ins
      have hlen : ns.length = W.live.length := by
        have z := hperm.length_eq
        rw [List.length_map] at z
        exact z
      have drawn : ∀ (j : Nat) (H7 : Hp), (j : Int) < (((ns.map fun x => V.int (x : Nat)).length : Nat) : Int) → ∃ m ∈ W.live, (ns.map fun x => V.int (x : Nat))[j]? = some (.int (m.num : Nat)) := fun j H7 hj => by
        have hj2 : j < ns.length := by
          rw [List.length_map] at hj
          omega
        have hm := hperm.mem_iff.mp (List.getElem_mem hj2)
        obtain ⟨m, h1, h2⟩ := List.mem_map.mp hm
        refine ⟨m, h1, ?_⟩
        rw [List.getElem?_map, List.getElem?_eq_getElem hj2, h2]
        rfl
      by_cases c1 : r4 < 4
      · refine ⟨_, rfl, _, _, rfl, rfl, true, dT (by omega), iteT (iteT ?_)⟩
        refine ⟨_, rfl, p, dx6, _, rfl, hp6, no_put, _, rfl, p, q, l, W, d, none, rfl, U6.at_, U6.ok, by omega, hd1, (fun k e => by cases e), fun H7 k7 w7 => ?_⟩
        refine ⟨l, _, _, _, _, _, rfl, U6.wk k7 w7 (ok_putW U6.ok (by omega) hd1 hd250) U6.base (by show W.tick ≤ _; omega) (by show (W.live ++ [_]).length ≤ i + 1; rw [List.length_append]; show W.live.length + 1 ≤ i + 1; omega) (fun m hm => ?_), lo⟩
        rcases List.mem_append.mp hm with hm | hm
        · exact U6.per m hm
        · rw [List.mem_singleton.mp hm]
          exact ⟨rfl, hd195⟩
      · refine ⟨_, rfl, _, _, rfl, rfl, false, dF (by omega), iteF ?_⟩
        refine ⟨_, rfl, by simp [sizeLine_eq], fun e7 he7 => ?_⟩
        have s7 := same_upd (o := .lst []) he7
        have U7 := U6.same s7
        obtain ⟨dx7, hp7⟩ := U7.at_.ins
        have hr7 := s7 _ _ hr6
        refine ⟨.list (ns.map fun x => PyData.int (x : Nat)), .list [], .lst (SqL.of hr7) (dp_nats ns), .lst (SqL.of upd_same) .nil, nats_shaped ns, rfl, ?_⟩
        cases ns with
        | nil =>
          refine ⟨true, rfl, iteT ?_⟩
          refine ⟨_, rfl, p, dx7, _, rfl, hp7, no_put, _, rfl, p, q, l, W, d, none, rfl, U7.at_, U7.ok, by omega, hd1, (fun k e => by cases e), fun H8 k8 w8 => ?_⟩
          refine ⟨l, _, _, _, _, _, rfl, U7.wk k8 w8 (ok_putW U7.ok (by omega) hd1 hd250) U7.base (by show W.tick ≤ _; omega) (by show (W.live ++ [_]).length ≤ i + 1; rw [List.length_append]; show W.live.length + 1 ≤ i + 1; omega) (fun m hm => ?_), lo⟩
          rcases List.mem_append.mp hm with hm | hm
          · exact U7.per m hm
          · rw [List.mem_singleton.mp hm]
            exact ⟨rfl, hd195⟩
        | cons n0 ns =>
          have hpos : 0 < (((n0 :: ns).map fun x => V.int (x : Nat)).length : Int) := by
            rw [List.length_map, List.length_cons]
            omega
          have hsmall : (((n0 :: ns).map fun x => V.int (x : Nat)).length : Int) < 2 ^ 300 := by
            rw [List.length_map, hlen]
            omega
          refine ⟨false, rfl, iteF ?_⟩
          by_cases c4 : r4 = 4
          · refine ⟨_, rfl, rfl, true, dT (by rw [c4]; rfl), iteT ?_⟩
            refine ⟨_, rfl, p, dx7, _, rfl, hp7, no_cancel, _, rfl, _, rfl, .ref r, rfl, r, _, rfl, .inl (SqL.of hr7), ps, _, rfl, hpos, hsmall, U7.st.src, fun j H8 hj s8 => ?_⟩
            have U8 := U7.step s8
            obtain ⟨m, hm, ej⟩ := drawn j H8 hj
            refine ⟨r, _, j, _, rfl, rfl, SqL.of (s8.keep _ _ nrs hr7), atI_nat ej, p, q, l, W, m.num, rfl, U8.at_, U8.ok.nd, ⟨m, hm, rfl⟩, fun H9 k9 w9 => ?_⟩
            exact ⟨l, _, _, _, _, _, rfl, U8.wk k9 w9 (ok_dropW U8.ok) U8.base (by show W.tick ≤ _; omega) (by have z : (dropT m.num W.live).length ≤ W.live.length := List.length_filter_le _ _; show (dropT m.num W.live).length ≤ i + 1; omega) (fun m' hm' => U8.per m' (List.mem_filter.mp hm').1), lo⟩
          · refine ⟨_, rfl, rfl, false, dF (fun z => c4 (Int.ofNat.inj (V.int.inj z))), iteF ?_⟩
            by_cases c5 : r4 = 5
            · refine ⟨_, rfl, rfl, true, dT (by rw [c5]; rfl), iteT ?_⟩
              refine ⟨_, rfl, p, dx7, _, rfl, hp7, no_reset, _, rfl, _, rfl, .ref r, rfl, r, _, rfl, .inl (SqL.of hr7), ps, _, rfl, hpos, hsmall, U7.st.src, fun j H8 hj s8 => ?_⟩
              have U8 := U7.step s8
              obtain ⟨m, hm, ej⟩ := drawn j H8 hj
              refine ⟨r, _, j, _, rfl, rfl, SqL.of (s8.keep _ _ nrs hr7), atI_nat ej, _, rfl, p, q, l, W, m, d, rfl, U8.at_, U8.ok.nd, U8.ok.few, hm, hd1, fun H9 k9 w9 => ?_⟩
              refine ⟨l, _, _, _, _, _, rfl, U8.wk k9 w9 (ok_resetW U8.ok hm (U8.per m hm).1 hd1 hd250) U8.base (by show W.tick ≤ _; omega) (by have z := drop_len_lt (n := m.num) ⟨m, hm, rfl⟩; show (dropT m.num W.live ++ [_]).length ≤ i + 1; rw [List.length_append]; show (dropT m.num W.live).length + 1 ≤ i + 1; omega) (fun m' hm' => ?_), lo⟩
              rcases List.mem_append.mp hm' with hm' | hm'
              · exact U8.per m' (List.mem_filter.mp hm').1
              · rw [List.mem_singleton.mp hm']
                exact ⟨(U8.per m hm).1, hd195⟩
            · refine ⟨_, rfl, rfl, false, dF (fun z => c5 (Int.ofNat.inj (V.int.inj z))), iteF ?_⟩
              refine ⟨_, rfl, p, dx7, _, rfl, hp7, no_advance, _, rfl, p, dx7, _, rfl, hp7, no_now, p, q, l, W, rfl, U7.at_, _, rfl, ps, 30, rfl, by decide, by decide, U7.st.src, fun r8 H8 hr8 s8 => ⟨(W.tick : Nat), (r8 : Nat), rfl, rfl, ?_⟩⟩
              have U8 := U7.step s8
              obtain ⟨fired, ms', a1, a2, a3, a4, a5⟩ := adv_exists W.b W.ws (W.tick + r8) W.live.length W.live (Nat.le_refl _) (fun m hm => (U8.per m hm).1) (fun m hm => ⟨Nat.lt_of_le_of_lt (U8.ok.tms m hm).since (U8.ok.tms m hm).due, (U8.ok.tms m hm).big⟩) U8.ok.nd U8.ok.few
              refine ⟨p, q, l, W, W.tick + r8, fired, ms', rfl, U8.at_, U8.ok.b2, U8.ok.b64, U8.ok.ne, U8.ok.few, Nat.le_add_right _ _, a1, by omega, fun H9 r9 l9 ts9 k9 _ _ _ w9 => ?_⟩
              refine ⟨l9, _, _, _, _, _, rfl, U8.wk k9 w9 ⟨U8.ok.b2, U8.ok.b64, U8.ok.ne, U8.ok.l60, fun m hm => ?_, a4, by show ms'.length ≤ 1000; omega⟩ U8.base (by show W.tick + r8 ≤ _; omega) (by show ms'.length ≤ i + 1; omega) (fun m hm => U8.per m (a3 m hm).1), Nat.le_trans lo (Nat.le_add_right _ _)⟩
              have o := U8.ok.tms m (a3 m hm).1
              exact ⟨Nat.le_trans o.since (Nat.le_add_right _ _), (a3 m hm).2, o.big, o.num, o.per⟩
    · rintro σ H3 ⟨l, W, y5, y6, y7, y8, rfl, U3, lo⟩
      have ht := U3.tick
      have hf := U3.few
      exact ⟨_, rfl, c H3 p q l W ⟨U3.st, U3.p0, U3.q0, U3.l0, U3.at_, U3.ok, U3.base, by omega, by omega, U3.per, U3.src0⟩ lo⟩
end
/-! ### moves over ranges: the mathematics -/
/-- how many numbers below x have a digit other than 0 where a 1 is worth s -/
def wdN (b s x : Nat) : Nat := x / (s * b) * s * (b - 1) + (x % (s * b) - s)
/-- how many have the digit 0 there -/
def zbN (b s x : Nat) : Nat := x / (s * b) * s + min (x % (s * b)) s
theorem wd_zb {b s : Nat} (hb : 1 ≤ b) (x : Nat) : wdN b s x + zbN b s x = x := by
  unfold wdN zbN
  have e := Nat.div_add_mod x (s * b)
  have e1 : x / (s * b) * s * (b - 1) + x / (s * b) * s = s * b * (x / (s * b)) := by
    rw [← Nat.mul_succ, Nat.succ_eq_add_one, Nat.sub_add_cancel hb, Nat.mul_assoc, Nat.mul_comm]
  omega
def begN (n f s : Nat) : Nat := max f ((n / s + 1) * s)
/-- what one level counts over a range -/
def mvT (b n f h s : Nat) : Int := if begN n f s < h then (wdN b s h : Int) - (wdN b s (begN n f s) : Int) else 0
def mvS (b n f h : Nat) : Nat → Int
  | 0 => 0
  | k + 1 => mvS b n f h k + mvT b n f h (b ^ k)
theorem beg_ge (n f s : Nat) : s ≤ begN n f s := by
  unfold begN
  have : s ≤ (n / s + 1) * s := Nat.le_mul_of_pos_left s (Nat.succ_pos _)
  omega
theorem mvT_zero {b n f h s : Nat} (hs : h ≤ s) : mvT b n f h s = 0 := by
  unfold mvT
  have := beg_ge n f s
  rw [if_neg (by omega)]
theorem mvS_more {b n f h k : Nat} (hb : 2 ≤ b) (hk : h ≤ b ^ k) (j : Nat) : mvS b n f h (k + j) = mvS b n f h k := by
  induction j with
  | zero => rfl
  | succ j ih =>
    show mvS b n f h (k + j) + mvT b n f h (b ^ (k + j)) = _
    rw [ih, mvT_zero, Int.add_zero]
    exact Nat.le_trans hk (Nat.pow_le_pow_right (by omega) (by omega))
theorem mvS_eq {b n f h k j : Nat} (hb : 2 ≤ b) (hk : h ≤ b ^ k) (hj : h ≤ b ^ j) : mvS b n f h k = mvS b n f h j := by
  rcases Nat.le_total k j with l | l
  · have e := mvS_more (n := n) (f := f) hb hk (j - k)
    rw [show k + (j - k) = j by omega] at e
    exact e.symm
  · have e := mvS_more (n := n) (f := f) hb hj (k - j)
    rw [show j + (k - j) = k by omega] at e
    exact e
theorem mvT_add {b n f m h s : Nat} (h1 : f ≤ m) (h2 : m ≤ h) : mvT b n f m s + mvT b n m h s = mvT b n f h s := by
  unfold mvT begN
  generalize (n / s + 1) * s = c
  by_cases a : c ≤ m
  · rw [show max m c = m by omega]
    by_cases e : max f c = m
    · rw [e, if_neg (by omega), Int.zero_add]
    · rw [if_pos (by omega : max f c < m), if_pos (by omega : max f c < h)]
      by_cases e2 : m < h
      · rw [if_pos e2]
        omega
      · have : m = h := by omega
        rw [if_neg e2, this]
        omega
  · rw [show max m c = c by omega, show max f c = c by omega, if_neg (by omega : ¬ c < m), Int.zero_add]
theorem mvS_add {b n f m h : Nat} (h1 : f ≤ m) (h2 : m ≤ h) (k : Nat) : mvS b n f m k + mvS b n m h k = mvS b n f h k := by
  induction k with
  | zero => rfl
  | succ k ih =>
    show (mvS b n f m k + mvT b n f m (b ^ k)) + (mvS b n m h k + mvT b n m h (b ^ k)) = mvS b n f h k + mvT b n f h (b ^ k)
    have := mvT_add (b := b) (n := n) (s := b ^ k) h1 h2
    omega
/-- over all numbers of N digits and fewer -/
theorem mvS_whole {b : Nat} (hb : 2 ≤ b) (N : Nat) : ∀ k, k ≤ N + 1 → mvS b 0 1 (b ^ (N + 1)) k = ((k * ((b - 1) * b ^ N) : Nat) : Int) := by
  intro k
  induction k with
  | zero =>
    intro _
    rw [Nat.zero_mul]
    rfl
  | succ k ih =>
    intro hk
    show mvS b 0 1 (b ^ (N + 1)) k + mvT b 0 1 (b ^ (N + 1)) (b ^ k) = _
    rw [ih (by omega)]
    have hp : 0 < b ^ k := Nat.pow_pos (by omega)
    have hl : b ^ k < b ^ (N + 1) := Nat.pow_lt_pow_right (by omega) (by omega)
    have e1 : begN 0 1 (b ^ k) = b ^ k := by
      unfold begN
      rw [Nat.zero_div, Nat.zero_add, Nat.one_mul]
      omega
    have hlt : b ^ k < b ^ k * b := by
      rw [← Nat.pow_succ]
      exact Nat.pow_lt_pow_right (by omega) (by omega)
    have e2 : wdN b (b ^ k) (b ^ k) = 0 := by
      unfold wdN
      rw [Nat.div_eq_of_lt hlt, Nat.mod_eq_of_lt hlt, Nat.sub_self, Nat.zero_mul, Nat.zero_mul]
    have e3 : b ^ (N + 1) = b ^ (N - k) * (b ^ k * b) := by
      rw [← Nat.pow_succ, ← Nat.pow_add]
      congr 1
      omega
    have e4 : wdN b (b ^ k) (b ^ (N + 1)) = (b - 1) * b ^ N := by
      unfold wdN
      have hp2 : 0 < b ^ k * b := by omega
      rw [e3, Nat.mul_div_cancel _ hp2, Nat.mul_mod_left, Nat.zero_sub, Nat.add_zero, ← Nat.pow_add, Nat.mul_comm]
      congr 2
      omega
    unfold mvT
    rw [e1, if_pos hl, e2, e4]
    have e5 : (k + 1) * ((b - 1) * b ^ N) = k * ((b - 1) * b ^ N) + (b - 1) * b ^ N := Nat.succ_mul _ _
    rw [e5]
    omega
/-! ### moves counted due tick by due tick -/
/-- how many digits other than 0 a number has below the index j -/
def cnt0 (b d : Nat) : Nat → Nat
  | 0 => 0
  | k + 1 => cnt0 b d k + if d / b ^ k % b ≠ 0 then 1 else 0
theorem tail_cnt0 (b d : Nat) : ∀ k, (tailOf b d k).length = cnt0 b d k
  | 0 => rfl
  | k + 1 => by
    have ih := tail_cnt0 b d k
    unfold tailOf cnt0
    by_cases h : d / b ^ k % b ≠ 0
    · rw [if_pos h, if_pos h, List.length_cons, ih]
    · rw [if_neg h, if_neg h, ih, Nat.add_zero]
theorem rows_cnt0 {b n d k : Nat} (h : IsLev b n d k) (hnd : n < d) : (rowsOf b n d k).length = cnt0 b d (k + 1) := by
  have hd := h.digit hnd
  have h0 : d / b ^ k % b ≠ 0 := by omega
  show (tailOf b d k).length + 1 = cnt0 b d k + if d / b ^ k % b ≠ 0 then 1 else 0
  rw [if_pos h0, tail_cnt0]
/-- of the indexes below j, how many a timer set at n and due at d has a station at -/
def cntS (b n d : Nat) : Nat → Nat
  | 0 => 0
  | k + 1 => cntS b n d k + if n / b ^ k < d / b ^ k ∧ d / b ^ k % b ≠ 0 then 1 else 0
theorem lev_le {b n d k : Nat} (h : IsLev b n d k) (hnd : n < d) {j : Nat} (hj : j ≤ k) : n / b ^ j < d / b ^ j := by
  have h2 : n / b ^ j ≤ d / b ^ j := Nat.div_le_div_right (Nat.le_of_lt hnd)
  rcases Nat.eq_or_lt_of_le h2 with e | l
  · cases j with
    | zero =>
      rw [Nat.pow_zero, Nat.div_one, Nat.div_one] at e
      omega
    | succ i => exact absurd e (h.2 i (by omega))
  · exact l
theorem lev_gt {b n d k : Nat} (h : IsLev b n d k) {j : Nat} (hj : k < j) : n / b ^ j = d / b ^ j := by
  have e : j = (k + 1) + (j - (k + 1)) := by omega
  rw [e, Nat.pow_add, ← Nat.div_div_eq_div_mul, ← Nat.div_div_eq_div_mul, h.1]
theorem cntS_low {b n d k : Nat} (h : IsLev b n d k) (hnd : n < d) : ∀ j, j ≤ k + 1 → cntS b n d j = cnt0 b d j
  | 0, _ => rfl
  | j + 1, hj => by
    have ih := cntS_low h hnd j (by omega)
    have l := lev_le h hnd (show j ≤ k by omega)
    unfold cntS cnt0
    rw [ih]
    by_cases h0 : d / b ^ j % b ≠ 0
    · rw [if_pos h0, if_pos ⟨l, h0⟩]
    · rw [if_neg h0, if_neg (fun z => h0 z.2)]
theorem cntS_lev {b n d k : Nat} (h : IsLev b n d k) (hnd : n < d) : ∀ j, k + 1 ≤ j → cntS b n d j = cnt0 b d (k + 1)
  | 0, hj => by omega
  | j + 1, hj => by
    by_cases e : j + 1 = k + 1
    · rw [e]
      exact cntS_low h hnd (k + 1) (Nat.le_refl _)
    · have ih := cntS_lev h hnd j (by omega)
      have e2 := lev_gt h (show k < j by omega)
      unfold cntS
      rw [ih, if_neg (fun z => by omega), Nat.add_zero]
theorem wd_succ {b s : Nat} (hb : 2 ≤ b) (hs : 0 < s) (x : Nat) : wdN b s (x + 1) = wdN b s x + if x / s % b ≠ 0 then 1 else 0 := by
  have hsb : 0 < s * b := Nat.mul_pos hs (by omega)
  have hbs : s * 2 ≤ s * b := Nat.mul_le_mul_left s hb
  have e := Nat.div_add_mod x (s * b)
  have hr := Nat.mod_lt x hsb
  have ed : x / s % b ≠ 0 ↔ s ≤ x % (s * b) := by
    have e1 : x / s % b = x % (s * b) / s := by
      rw [Nat.mod_mul_right_div_self]
    rw [e1]
    constructor
    · intro h
      by_cases l : s ≤ x % (s * b)
      · exact l
      · exact absurd (Nat.div_eq_of_lt (by omega)) h
    · intro l h
      have := (Nat.div_pos_iff.mpr ⟨hs, l⟩)
      omega
  by_cases c : x % (s * b) + 1 = s * b
  · have e1 : x + 1 = s * b * (x / (s * b) + 1) := by
      rw [Nat.mul_succ]
      omega
    have d1 : (x + 1) / (s * b) = x / (s * b) + 1 := by
      rw [e1, Nat.mul_div_cancel_left _ hsb]
    have m1 : (x + 1) % (s * b) = 0 := by
      rw [e1, Nat.mul_mod_right]
    unfold wdN
    rw [d1, m1, Nat.succ_mul, Nat.add_mul, if_pos (ed.mpr (by omega)), Nat.zero_sub, Nat.add_zero]
    have e3 : s * (b - 1) = s * b - s := by rw [Nat.mul_sub, Nat.mul_one]
    omega
  · have d1 : (x + 1) / (s * b) = x / (s * b) := by
      have e2 : (x + 1) / (s * b) = ((x % (s * b) + 1) + s * b * (x / (s * b))) / (s * b) := by
        congr 1
        omega
      rw [e2, Nat.add_mul_div_left _ _ hsb, Nat.div_eq_of_lt (by omega), Nat.zero_add]
    have m1 : (x + 1) % (s * b) = x % (s * b) + 1 := by
      have e2 := Nat.div_add_mod (x + 1) (s * b)
      rw [d1] at e2
      omega
    unfold wdN
    rw [d1, m1]
    by_cases l : s ≤ x % (s * b)
    · rw [if_pos (ed.mpr l)]
      omega
    · rw [if_neg (fun z => l (ed.mp z))]
      omega
theorem mvT_succ {b n f h s : Nat} (hb : 2 ≤ b) (hs : 0 < s) (hfh : f ≤ h) : mvT b n f (h + 1) s = mvT b n f h s + ((if n / s < h / s ∧ h / s % b ≠ 0 then 1 else 0 : Nat) : Int) := by
  have hc : n / s < h / s ↔ (n / s + 1) * s ≤ h := by
    rw [← Nat.le_div_iff_mul_le hs]
    exact Iff.rfl
  have w := wd_succ hb hs h
  unfold mvT begN
  by_cases c : (n / s + 1) * s ≤ h
  · have i1 : (if n / s < h / s ∧ h / s % b ≠ 0 then 1 else 0) = if h / s % b ≠ 0 then 1 else 0 := by
      by_cases z : h / s % b ≠ 0
      · rw [if_pos z, if_pos ⟨hc.mpr c, z⟩]
      · rw [if_neg z, if_neg (fun y => z y.2)]
    rw [i1, if_pos (show max f ((n / s + 1) * s) < h + 1 by omega), w]
    by_cases l : max f ((n / s + 1) * s) < h
    · rw [if_pos l]
      omega
    · rw [if_neg l, show max f ((n / s + 1) * s) = h by omega]
      omega
  · rw [if_neg (show ¬ max f ((n / s + 1) * s) < h + 1 by omega), if_neg (show ¬ max f ((n / s + 1) * s) < h by omega), if_neg (fun z => c (hc.mp z.1))]
    rfl
theorem mvS_succ {b n f h : Nat} (hb : 2 ≤ b) (hfh : f ≤ h) : ∀ k, mvS b n f (h + 1) k = mvS b n f h k + (cntS b n h k : Int)
  | 0 => rfl
  | k + 1 => by
    have ih := mvS_succ (n := n) hb hfh k
    show mvS b n f (h + 1) k + mvT b n f (h + 1) (b ^ k) = (mvS b n f h k + mvT b n f h (b ^ k)) + ((cntS b n h k + if n / b ^ k < h / b ^ k ∧ h / b ^ k % b ≠ 0 then 1 else 0 : Nat) : Int)
    rw [ih, mvT_succ hb (pow_pos' hb k) hfh]
    omega
theorem mvS_none {b n f : Nat} : ∀ k, mvS b n f f k = 0
  | 0 => rfl
  | k + 1 => by
    show mvS b n f f k + mvT b n f f (b ^ k) = 0
    rw [mvS_none k]
    unfold mvT begN
    rw [if_neg (by omega)]
    rfl
theorem lev_any {b n d : Nat} (hb : 2 ≤ b) (hnd : n < d) : ∃ k, IsLev b n d k := by
  have H : ∀ t, n / b ^ t = d / b ^ t → ∃ k, IsLev b n d k := by
    intro t
    induction t with
    | zero =>
      intro e
      rw [Nat.pow_zero, Nat.div_one, Nat.div_one] at e
      omega
    | succ t ih =>
      intro e
      by_cases c : n / b ^ t = d / b ^ t
      · exact ih c
      · refine ⟨t, e, fun j hj z => c ?_⟩
        have e2 : t = (j + 1) + (t - (j + 1)) := by omega
        rw [e2, Nat.pow_add, ← Nat.div_div_eq_div_mul, ← Nat.div_div_eq_div_mul, z]
  have hl : d < b ^ d := Nat.lt_of_lt_of_le Nat.lt_two_pow_self (Nat.pow_le_pow_left hb d)
  refine H d ?_
  rw [Nat.div_eq_of_lt hl, Nat.div_eq_of_lt (by omega)]
/-- the moves of the due ticks from f on -/
def MovesOk (b n f : Nat) (ms : List Nat) : Prop := ∀ i v, ms[i]? = some v → ∀ k, IsLev b n (f + i) k → v = cnt0 b (f + i) (k + 1)
theorem MovesOk.nil (b n f : Nat) : MovesOk b n f [] := fun i v h => by simp at h
theorem MovesOk.snoc {b n f k : Nat} {ms : List Nat} (h : MovesOk b n f ms) (hk : IsLev b n (f + ms.length) k) : MovesOk b n f (ms ++ [cnt0 b (f + ms.length) (k + 1)]) := by
  intro i v hv k' hk'
  by_cases l : i < ms.length
  · rw [List.getElem?_append_left l] at hv
    exact h i v hv k' hk'
  · rw [List.getElem?_append_right (by omega)] at hv
    have hi : i - ms.length = 0 := by
      have := (List.getElem?_eq_some_iff.mp hv).1
      rw [List.length_singleton] at this
      omega
    rw [hi] at hv
    have e : i = ms.length := by omega
    rw [e] at hk' ⊢
    rw [hk'.uniq hk]
    exact (Option.some.inj hv).symm
theorem moves_sum {b n f K : Nat} {ms : List Nat} (hb : 2 ≤ b) (hnf : n < f) (h : MovesOk b n f ms) (hK : f + ms.length ≤ b ^ K) : (ms.map fun x : Nat => (x : Int)).sum = mvS b n f (f + ms.length) K := by
  have H : ∀ j, j ≤ ms.length → ((ms.take j).map fun x : Nat => (x : Int)).sum = mvS b n f (f + j) K := by
    intro j
    induction j with
    | zero =>
      intro _
      rw [Nat.add_zero, mvS_none]
      rfl
    | succ j ih =>
      intro hj
      have hg : ms[j]? = some ms[j] := List.getElem?_eq_getElem (by omega)
      have hd : n < f + j := by omega
      obtain ⟨k, hk⟩ := lev_any hb hd
      have e := h j _ hg k hk
      have hkK : k + 1 ≤ K := by
        have h1 := hk.size hb hd
        have h2 : b ^ k < b ^ K := by omega
        exact (Nat.pow_lt_pow_iff_right (by omega : 1 < b)).mp h2
      rw [List.take_add_one, hg, List.map_append, List.sum_append, ih (by omega)]
      show _ + ((([ms[j]].map fun x : Nat => (x : Int))).sum) = mvS b n f (f + j + 1) K
      rw [mvS_succ hb (by omega), cntS_lev hk hd K hkK, ← e]
      simp
  have z := H ms.length (Nat.le_refl _)
  rw [List.take_length] at z
  exact z
/-! ### moves add up: the mathematics -/
/-- m timers set at n, due at f, f + 1, .. -/
def rangeT (n f m : Nat) : List Tm := (List.range m).map fun j => ⟨j, f + j, none, n⟩
theorem rangeT_succ (n f m : Nat) : rangeT n f (m + 1) = rangeT n f m ++ [⟨m, f + m, none, n⟩] := by
  unfold rangeT
  rw [List.range_succ, List.map_append]
  rfl
theorem rangeT_len (n f m : Nat) : (rangeT n f m).length = m := by
  unfold rangeT
  rw [List.length_map, List.length_range]
theorem rangeT_get {n f m i : Nat} (h : i < m) : (rangeT n f m)[i]? = some ⟨i, f + i, none, n⟩ := by
  unfold rangeT
  rw [List.getElem?_map, List.getElem?_range h]
  rfl
theorem rangeT_mem {n f m : Nat} {t : Tm} (h : t ∈ rangeT n f m) : ∃ i, i < m ∧ t = ⟨i, f + i, none, n⟩ := by
  obtain ⟨i, hi, e⟩ := List.mem_map.mp h
  exact ⟨i, List.mem_range.mp hi, e.symm⟩
theorem rangeT_drop {n f m g : Nat} (h : g < m) : (rangeT n f m).drop g = ⟨g, f + g, none, n⟩ :: (rangeT n f m).drop (g + 1) := by
  have hl : g < (rangeT n f m).length := by
    rw [rangeT_len]
    exact h
  have e := rangeT_get (n := n) (f := f) h
  rw [List.getElem?_eq_getElem hl] at e
  rw [List.drop_eq_getElem_cons hl, Option.some.inj e]
theorem rangeT_cut {n f m g : Nat} (h : g < m) : dropT g ((rangeT n f m).drop g) = (rangeT n f m).drop (g + 1) := by
  rw [rangeT_drop h]
  unfold dropT
  rw [List.filter_cons_of_neg (by simp), List.filter_eq_self.mpr]
  intro t ht
  obtain ⟨i, hi⟩ := List.getElem?_of_mem ht
  rw [List.getElem?_drop] at hi
  have hlt : g + 1 + i < m := by
    have z := (List.getElem?_eq_some_iff.mp hi).1
    rw [rangeT_len] at z
    exact z
  rw [rangeT_get hlt] at hi
  rw [← Option.some.inj hi]
  simp
  omega
theorem range_moves {b n f m g T : Nat} (hb : 2 ≤ b) (hnf : n < f) (hg : g ≤ m) (hT : f + m ≤ T) (hK : f + m ≤ b ^ 200) : ((movesT b n T ((rangeT n f m).drop g) + (m - g) : Nat) : Int) = mvS b n (f + g) (f + m) 200 := by
  have hget : ∀ i t, ((rangeT n f m).drop g)[i]? = some t → g + i < m ∧ t.due = f + g + i := by
    intro i t h
    rw [List.getElem?_drop] at h
    have z := (List.getElem?_eq_some_iff.mp h).1
    rw [rangeT_len] at z
    rw [rangeT_get z] at h
    refine ⟨z, ?_⟩
    rw [← Option.some.inj h]
    show f + (g + i) = f + g + i
    omega
  have hlen : ((rangeT n f m).drop g).length = m - g := by rw [List.length_drop, rangeT_len]
  generalize (rangeT n f m).drop g = ms at hget hlen ⊢
  have hok : MovesOk b n (f + g) (ms.map fun t => (stT b n t.due).length + 1) := by
    intro i v hv k hk
    rw [List.getElem?_map] at hv
    cases e : ms[i]? with
    | none =>
      rw [e] at hv
      cases hv
    | some t =>
      rw [e] at hv
      obtain ⟨h1, h2⟩ := hget i t e
      have h3 := rows_cnt0 hk (by omega)
      have h4 : (stT b n t.due).length = (tailOf b (f + g + i) k).length := by
        rw [h2, stT_eq hk, List.length_map]
      have h5 : v = (stT b n t.due).length + 1 := (Option.some.inj hv).symm
      rw [h5, h4, ← h3]
      rfl
  have hs := moves_sum (K := 200) hb (show n < f + g by omega) hok (by rw [List.length_map, hlen]; omega)
  rw [List.length_map, hlen, show f + g + (m - g) = f + m by omega] at hs
  rw [← hs, ← hlen]
  have H : ∀ l : List Tm, (∀ t ∈ l, t.due ≤ T) → ((movesT b n T l + l.length : Nat) : Int) = ((l.map fun t => (stT b n t.due).length + 1).map fun x : Nat => (x : Int)).sum := by
    intro l
    induction l with
    | nil => intro _; rfl
    | cons t l ih =>
      intro h
      have h1 := ih fun t' ht' => h t' (List.mem_cons_of_mem _ ht')
      have h2 : cntLe T (stT b n t.due) = (stT b n t.due).length := cnt_all fun x hx => Nat.le_trans (stT_le x hx) (h t (List.mem_cons_self ..))
      have h3 : movesT b n T (t :: l) = cntLe T (stT b n t.due) + movesT b n T l := by
        unfold movesT
        rw [List.map_cons, List.sum_cons]
      rw [List.map_cons, List.map_cons, List.sum_cons, ← h1, h3, h2, List.length_cons]
      omega
  refine H ms fun t ht => ?_
  obtain ⟨i, hi⟩ := List.getElem?_of_mem ht
  obtain ⟨h1, h2⟩ := hget i t hi
  omega
/-- the stations behind a tick on the way are those of a timer set at this tick -/
theorem stT_split {b n s d t : Nat} (hb : 2 ≤ b) (hnd : n < d) (hns : n ≤ s) (hst : s ≤ t) : cntLe t (stT b n d) = cntLe s (stT b n d) + if s < d then cntLe t (stT b s d) else 0 := by
  by_cases h : s < d
  · rw [if_pos h]
    obtain ⟨k, hk⟩ := lev_any hb hnd
    obtain ⟨k', hk'⟩ := lev_any hb h
    have hkk : k' ≤ k := by
      rcases Nat.lt_or_ge k k' with l | l
      · have e1 := hk.1
        have e2 := lev_le hk' h (show k + 1 ≤ k' by omega)
        have e3 : n / b ^ (k + 1) ≤ s / b ^ (k + 1) := Nat.div_le_div_right hns
        omega
      · exact l
    rw [stT_eq hk, stT_eq hk']
    have pre : ∀ j, k' ≤ j → ∃ l : List Nat, (tailOf b d j).map (fun r => r.2.2) = l ++ (tailOf b d k').map (fun r => r.2.2) ∧ ∀ x ∈ l, x ≤ s := by
      intro j
      induction j with
      | zero =>
        intro hj
        have e : k' = 0 := by omega
        rw [e]
        exact ⟨[], rfl, fun x hx => by cases hx⟩
      | succ j ih =>
        intro hj
        by_cases e : k' = j + 1
        · rw [e]
          exact ⟨[], rfl, fun x hx => by cases hx⟩
        · obtain ⟨l, h1, h2⟩ := ih (by omega)
          by_cases h0 : d / b ^ j % b ≠ 0
          · have e1 : tailOf b d (j + 1) = (j, d / b ^ j % b, d / b ^ (j + 1) * b ^ (j + 1)) :: tailOf b d j := if_pos h0
            rw [e1, List.map_cons, h1]
            refine ⟨d / b ^ (j + 1) * b ^ (j + 1) :: l, rfl, fun x hx => ?_⟩
            rcases List.mem_cons.mp hx with e2 | hx
            · rw [e2, ← lev_gt hk' (show k' < j + 1 by omega)]
              exact Nat.div_mul_le_self _ _
            · exact h2 x hx
          · have e1 : tailOf b d (j + 1) = tailOf b d j := if_neg h0
            rw [e1]
            exact ⟨l, h1, h2⟩
    have post : ∀ j, j ≤ k' → ∀ r ∈ tailOf b d j, s < r.2.2 := by
      intro j
      induction j with
      | zero => intro _ r hr; cases hr
      | succ j ih =>
        intro hj r hr
        unfold tailOf at hr
        split at hr
        · rcases List.mem_cons.mp hr with e | hr
          · rw [e]
            exact lt_cut hb (lev_le hk' h (show j + 1 ≤ k' by omega))
          · exact ih (by omega) r hr
        · exact ih (by omega) r hr
    obtain ⟨l, h1, h2⟩ := pre k hkk
    rw [h1, cnt_app, cnt_app, cnt_all (t := t) (l := l) (fun x hx => Nat.le_trans (h2 x hx) hst), cnt_all (t := s) (l := l) h2]
    have z : cntLe s ((tailOf b d k').map fun r => r.2.2) = 0 := by
      unfold cntLe
      rw [List.filter_eq_nil_iff.mpr]
      · rfl
      · intro x hx
        obtain ⟨r, hr, e⟩ := List.mem_map.mp hx
        have := post k' (Nat.le_refl _) r hr
        simp
        omega
    rw [z]
    omega
  · rw [if_neg h, cnt_all (fun x hx => Nat.le_trans (stT_le x hx) (by omega)), cnt_all (fun x hx => Nat.le_trans (stT_le x hx) (by omega))]
    omega
theorem moves_split {b n s t : Nat} (hb : 2 ≤ b) (hns : n ≤ s) (hst : s ≤ t) : ∀ ms : List Tm, (∀ m ∈ ms, n < m.due) → movesT b n t ms = movesT b n s ms + movesT b s t (ms.filter fun m => decide (s < m.due))
  | [], _ => rfl
  | m :: ms, h => by
    have ih := moves_split hb hns hst ms fun m' hm' => h m' (List.mem_cons_of_mem _ hm')
    have e := stT_split (t := t) hb (h m (List.mem_cons_self ..)) hns hst
    have z : ∀ (n' u : Nat) (l : List Tm), movesT b n' u (m :: l) = cntLe u (stT b n' m.due) + movesT b n' u l := fun n' u l => by
      unfold movesT
      rw [List.map_cons, List.sum_cons]
    rw [z, z, ih, e]
    by_cases c : s < m.due
    · rw [if_pos c, List.filter_cons_of_pos (by simpa using c), z]
      omega
    · rw [if_neg c, List.filter_cons_of_neg (by simpa using c)]
      omega
theorem after_filter {t : Nat} : ∀ (ns : List Nat) (ms : List Tm), (∀ m ∈ ms, m.per = none) → ns.Nodup → (∀ n ∈ ns, ∃ m ∈ ms, m.num = n) → afterF t ms ns = ms.filter fun m => decide (m.num ∉ ns)
  | [], ms, _, _, _ => by
    show ms = _
    rw [List.filter_eq_self.mpr]
    intro m _
    simp
  | n :: ns, ms, hp, nd, hin => by
    obtain ⟨h1, h2⟩ := List.nodup_cons.mp nd
    have hn := hin n (List.mem_cons_self ..)
    have e : afterF t ms (n :: ns) = afterF t (dropT n ms) ns := by
      unfold afterF
      rw [List.foldl_cons, fire_none hp hn]
    rw [e, after_filter ns (dropT n ms) (fun m h => hp m (List.mem_filter.mp h).1) h2 fun x hx => by
      obtain ⟨m, hm, em⟩ := hin x (List.mem_cons_of_mem _ hx)
      refine ⟨m, drop_mem hm fun z => ?_, em⟩
      rw [em] at z
      rw [z] at hx
      exact h1 hx]
    unfold dropT
    rw [List.filter_filter]
    refine List.filter_congr fun m _ => ?_
    by_cases c1 : m.num = n
    · simp [c1]
    · by_cases c2 : m.num ∈ ns <;> simp [c1, c2]
/-- without periods an advance leaves those that are due later -/
theorem AdvTo.left {b : Nat} {ws : List Bool} {t : Nat} {ms ms' : List Tm} {f : List (Nat × List Nat)} (h : AdvTo b ws t ms f ms') (hp : ∀ m ∈ ms, m.per = none) : ms' = ms.filter fun m => decide (t < m.due) := by
  induction h with
  | done hd =>
    rw [List.filter_eq_self.mpr]
    intro m hm
    simpa using hd m hm
  | @step ms ms' at_ rest h1 h2 ok nd few _ ih =>
    have e := after_filter (t := at_) (orderAt b ws at_ ms) ms hp (order_nodup nd) fun x hx => by
      obtain ⟨m, h1, _, h3⟩ := order_mem.mp hx
      exact ⟨m, h1, h3⟩
    have hs : ∀ m ∈ afterF at_ ms (orderAt b ws at_ ms), m ∈ ms := fun m hm => by
      rw [e] at hm
      exact (List.mem_filter.mp hm).1
    rw [ih fun m hm => hp m (hs m hm), e, List.filter_filter]
    refine List.filter_congr fun m hm => ?_
    by_cases c : t < m.due
    · have hne : m.num ∉ orderAt b ws at_ ms := fun z => by
        obtain ⟨m', hm', hd', hn'⟩ := order_mem.mp z
        have em : m' = m := by
          obtain ⟨i, hi⟩ := List.getElem?_of_mem hm
          obtain ⟨j, hj⟩ := List.getElem?_of_mem hm'
          have hi2 : (ms.map (·.num))[i]? = some m.num := by rw [List.getElem?_map, hi]; rfl
          have hj2 : (ms.map (·.num))[j]? = some m.num := by rw [List.getElem?_map, hj, ← hn']; rfl
          have hlt := (List.getElem?_eq_some_iff.mp hi2).1
          have eij := (List.getElem?_inj hlt nd).mp (hi2.trans hj2.symm)
          rw [← eij, hi] at hj
          exact (Option.some.inj hj).symm
        rw [em] at hd'
        omega
      simp [c, hne]
    · simp [c]
/-! ### the due ticks of numbers -/
def dueF (ms : List Tm) (n : Nat) : Nat := match ms.find? fun m => decide (m.num = n) with
  | none => 0
  | some m => m.due
theorem dueF_of {ms : List Tm} {m : Tm} (nd : (ms.map (·.num)).Nodup) (h : m ∈ ms) : dueF ms m.num = m.due := by
  unfold dueF
  rw [find_of nd h]
theorem dues_perm {ms : List Tm} {ns : List Nat} (nd : (ms.map (·.num)).Nodup) (h : ns.Perm (ms.map (·.num))) : (ns.map (dueF ms)).Perm (ms.map (·.due)) := by
  have z := h.map (dueF ms)
  rw [List.map_map] at z
  have e : ms.map (dueF ms ∘ fun m => m.num) = ms.map (·.due) := List.map_congr_left fun m hm => dueF_of nd hm
  rw [e] at z
  exact z
theorem vint_map (l : List Nat) : (l.map fun x => V.int (x : Nat)) = (l.map fun n : Nat => (n : Int)).map V.int := by
  rw [List.map_map]
  rfl
/-! ### two numbers or None -/
def perD : Option Nat → PyData
  | none => .none
  | some k => .int (k : Nat)
def pairD (a b : Option Nat) : PyData := .tuple [perD a, perD b]
theorem perD_dp {K : PySem.W.Frag} {H : Hp} : ∀ o : Option Nat, Dp K H (perV o) (perD o)
  | none => .non
  | some _ => .int _
theorem pair_dp {K : PySem.W.Frag} {H : Hp} {T : Addr} {a b : Option Nat} (h : H T = some (.tup [perV a, perV b])) : Dp K H (.ref T) (pairD a b) := .tup (SqT.of h) (.cons (perD_dp a) (.cons (perD_dp b) .nil))
theorem pair_shaped (a b : Option Nat) : SeqAt.shaped (pairD a b) = true := by
  cases a <;> cases b <;> rfl
theorem pair_lay (a b : Option Nat) : (pairD a b).canLay0 = true := by
  cases a <;> cases b <;> rfl
/-! ### classes of errors, told apart -/
section
variable {K : PySem.W.Frag}
theorem cls_ok {O : Addr} (hd : PySem.W.hasDictIn K O = true) (ht : PySem.W.typeIn K (.ref O) = some (.type "type")) : ((PySem.W.clsIn K O).isSome && PySem.W.typeIn K (.ref O) == some (.type "type")) = true := by
  obtain ⟨cd, hc, _⟩ := PySem.W.any_some hd
  rw [hc, ht] <;> rfl
/-- an error of one class is none of another -/
theorem kit_no {N O : Addr} (hN : PySem.W.subIn K (.ref N) (.ref N) = some true) (hd : PySem.W.hasDictIn K O = true) (ht : PySem.W.typeIn K (.ref O) = some (.type "type")) (h : PySem.W.subIn K (.ref N) (.ref O) = some false) : PySem.W.kitOne K (.ref N) (.ref O) = some false := by
  have ne : ¬ (Value.ref N == Value.ref O) = true := fun q => by
    have e : N = O := Value.ref.inj (beq_iff_eq.mp q)
    subst e
    rw [hN] at h
    cases h
  have e2 := cls_ok hd ht
  unfold PySem.W.kitOne
  rw [if_neg ne]
  show (if ((PySem.W.clsIn K O).isSome && PySem.W.typeIn K (.ref O) == some (.type "type")) = true then PySem.W.subIn K (.ref N) (.ref O) else none) = some false
  rw [if_pos e2]
  exact h
end
/-! ### law k46: the word for what a call does, the empty wheel -/
section
variable {P : Program} {w : World} {K : PySem.W.Frag} {mg : Str → Option Value} {base : Heap}
/-- what isinstance and except ask of the classes of errors: the one that comes, the one caught, the others -/
structure ErrF (K : PySem.W.Frag) (cN cT : Addr) (os : List Addr) : Prop where
  ec : ExcC K cN
  te : PySem.W.exmOne K (.ref cN) (.ref cT) = some true
  no : ∀ c ∈ os, PySem.W.kitOne K (.ref cN) (.ref c) = some false
theorem kit_self {cN : Addr} : PySem.W.kitOne K (.ref cN) (.ref cN) = some true := by
  unfold PySem.W.kitOne
  rw [if_pos (by simp)]
def spLawWord (K : PySem.W.Frag) (C : Addr) : Sp := fun vs H Q _ => ∃ (p q l : Addr) (W : WS) (x : V), vs = [.ref p, x] ∧ WheelAt C H p q l W ∧ WOk W ∧
  ((∃ t : Nat, x = .int (t : Nat) ∧ W.tick ≤ t ∧ ∀ H', Same H H' → Q (.str "none") H') ∨ (BadTick K H x (W.tick : Nat) ∧ ∀ H', Same H H' → Q (.str "tick") H'))
theorem no_mu {b : Nat} {q : Addr} {t f : Nat} {l : Addr} : (wfl b q t f l).lookup ("moves_until" : Str) = none := wf_no (by decide +kernel) (by decide +kernel) (by decide +kernel) (by decide +kernel) (by decide +kernel)
theorem ok_word {f C c_NoTick c_TimerError c_NoBase c_NoLevels c_NoOrder c_NoPeriod c_NoRow c_NoSighting c_NoSnapshot c_NoTimer c_TooMany : Addr} {fd : FuncData} (F : Fun K "_law_word" "_law_word" s__law_word f fd) (T : Tx K mg) (TW : TxW K mg C)
    (EF : ErrF K c_NoTick c_TimerError [c_NoBase, c_NoLevels, c_NoOrder, c_NoPeriod, c_NoRow, c_NoSighting, c_NoSnapshot, c_NoTimer, c_TooMany])
    (X_NoTick : EG mg "NoTick" c_NoTick) (X_TimerError : EG mg "TimerError" c_TimerError) (X_NoBase : EG mg "NoBase" c_NoBase) (X_NoLevels : EG mg "NoLevels" c_NoLevels) (X_NoOrder : EG mg "NoOrder" c_NoOrder) (X_NoPeriod : EG mg "NoPeriod" c_NoPeriod)
    (X_NoRow : EG mg "NoRow" c_NoRow) (X_NoSighting : EG mg "NoSighting" c_NoSighting) (X_NoSnapshot : EG mg "NoSnapshot" c_NoSnapshot) (X_NoTimer : EG mg "NoTimer" c_NoTimer) (X_TooMany : EG mg "TooMany" c_TooMany)
    (m1 : HasMX P w K mg base 4 C "moves_until" ["self", "tick"] [] (spMovesX K C c_NoTick)) : FnOk P w K mg base CX0 5 f fd ["_law_wheel", "_law_tick_here"] (spLawWord K C) := by
  have cl_Wheel := TW.cl
  obtain ⟨g1, gd1, gs1, G_Wheel_moves_until, M_Wheel_moves_until, b_Wheel_moves_until, v_Wheel_moves_until⟩ := m1
  cases v_Wheel_moves_until
  obtain ⟨hC, te, no⟩ := EF
  have n1 := no c_NoBase (by simp)
  have n2 := no c_NoLevels (by simp)
  have n3 := no c_NoOrder (by simp)
  have n4 := no c_NoPeriod (by simp)
  have n5 := no c_NoRow (by simp)
  have n6 := no c_NoSighting (by simp)
  have n7 := no c_NoSnapshot (by simp)
  have n8 := no c_NoTimer (by simp)
  have n9 := no c_TooMany (by simp)
  refine F.ok sc__law_word (fun vs H Q E h => ?_) (fun cdv A outer s H vs Q E hr h => ?_)
  · obtain ⟨p, q, l, W, x, rfl, _⟩ := h
    rfl
  · obtain ⟨p, q, l, W, x, rfl, hw, ok, hx⟩ := h
    obtain ⟨dx, hp⟩ := hw.ins
    refine ⟨_, (pss_cons (ps_try_as (i := 2) rfl rfl sc__law_word.nd rfl rfl ⟨rfl, by decide, .inl X_TimerError.g⟩ takes0 (fun W pn xe tk _ => 
        (pss_one (ps_expr (pe_methS (pv 0) cl_Wheel M_Wheel_moves_until G_Wheel_moves_until hr b_Wheel_moves_until (fun σ => passAt tk σ) (pa_cons (pv 1) pa_nil))))) (fun a oe cls d pn hz hf => 
        (pss_cons (ps_set (i := 3) sc__law_word.nd rfl (.inl rfl) (pe_lst (pa_cons (pe_callB (isiE hz hf) (by rfl) T.b_isinstance (by decide +kernel) (pa_cons (pv 2) (pa_cons (pe_glob (v := .ref c_NoBase) rfl X_NoBase.g rfl) pa_nil))) (pa_cons (pe_callB (isiE hz hf) (by rfl) T.b_isinstance (by decide +kernel) (pa_cons (pv 2) (pa_cons (pe_glob (v := .ref c_NoLevels) rfl X_NoLevels.g rfl) pa_nil))) (pa_cons (pe_callB (isiE hz hf) (by rfl) T.b_isinstance (by decide +kernel) (pa_cons (pv 2) (pa_cons (pe_glob (v := .ref c_NoOrder) rfl X_NoOrder.g rfl) pa_nil))) (pa_cons (pe_callB (isiE hz hf) (by rfl) T.b_isinstance (by decide +kernel) (pa_cons (pv 2) (pa_cons (pe_glob (v := .ref c_NoPeriod) rfl X_NoPeriod.g rfl) pa_nil))) pa_nil))))))
        (pss_cons (ps_set (i := 3) sc__law_word.nd rfl (.inl rfl) (pe_op op_cat (pv 3) (pe_lst (pa_cons (pe_callB (isiE hz hf) (by rfl) T.b_isinstance (by decide +kernel) (pa_cons (pv 2) (pa_cons (pe_glob (v := .ref c_NoRow) rfl X_NoRow.g rfl) pa_nil))) (pa_cons (pe_callB (isiE hz hf) (by rfl) T.b_isinstance (by decide +kernel) (pa_cons (pv 2) (pa_cons (pe_glob (v := .ref c_NoSighting) rfl X_NoSighting.g rfl) pa_nil))) (pa_cons (pe_callB (isiE hz hf) (by rfl) T.b_isinstance (by decide +kernel) (pa_cons (pv 2) (pa_cons (pe_glob (v := .ref c_NoSnapshot) rfl X_NoSnapshot.g rfl) pa_nil))) pa_nil))))))
        (pss_cons (ps_set (i := 3) sc__law_word.nd rfl (.inl rfl) (pe_op op_cat (pv 3) (pe_lst (pa_cons (pe_callB (isiE hz hf) (by rfl) T.b_isinstance (by decide +kernel) (pa_cons (pv 2) (pa_cons (pe_glob (v := .ref c_NoTimer) rfl X_NoTimer.g rfl) pa_nil))) (pa_cons (pe_callB (isiE hz hf) (by rfl) T.b_isinstance (by decide +kernel) (pa_cons (pv 2) (pa_cons (pe_glob (v := .ref c_TooMany) rfl X_TooMany.g rfl) pa_nil))) pa_nil)))))
        (pss_one (ps_ret (pe_ix (ix_listK (K := K) rfl) (pe_lst (pa_cons pe_str (pa_cons pe_str pa_nil))) (pe_callTy call_int1 (by rfl) T.b_int (by decide +kernel) (pa_cons (pe_and (pe_callB (isiE hz hf) (by rfl) T.b_isinstance (by decide +kernel) (pa_cons (pv 2) (pa_cons (pe_glob (v := .ref c_NoTick) rfl X_NoTick.g rfl) pa_nil))) (pe_one (pe_cmpR (op_notInK (K := K) rfl) pe_bl (pv 3) (by rfl)))) pa_nil)) (fun _ _ => rfl)))))))))
      (pss_one (ps_ret pe_str))), ?_⟩
    refine ⟨_, rfl, p, dx, _, rfl, hp, no_mu, x, rfl, p, q, l, W, x, rfl, hw, ok.b2, ok.b64, ok.few, fun m hm => ⟨(ok.tms m hm).due, (ok.tms m hm).big⟩, ?_⟩
    rcases hx with ⟨t, rfl, ht, c⟩ | ⟨bad, c⟩
    · exact .inl ⟨t, rfl, ht, fun H' s1 => c _ s1⟩
    · refine .inr ⟨bad, true, te, fun _ a ha => ?_, fun z => nomatch z⟩
      refine ⟨_, rfl, c_NoTick, rfl, rfl, hC, _, _, _, rfl, fun _ h => h, n1, _, rfl, c_NoTick, rfl, rfl, hC, _, _, _, rfl, fun _ h => h, n2, _, rfl, c_NoTick, rfl, rfl, hC, _, _, _, rfl, fun _ h => h, n3, _, rfl, c_NoTick, rfl, rfl, hC, _, _, _, rfl, fun _ h => h, n4, by simp [sizeLine_eq], fun m1 hm1 => ?_⟩
      refine ⟨_, rfl, _, rfl, c_NoTick, rfl, rfl, hC, _, _, _, rfl, fun _ h => h, n5, _, rfl, c_NoTick, rfl, rfl, hC, _, _, _, rfl, fun _ h => h, n6, _, rfl, c_NoTick, rfl, rfl, hC, _, _, _, rfl, fun _ h => h, n7, by simp [sizeLine_eq], fun m2 hm2 => ?_⟩
      have s1 := same_upd (o := .lst [.bl false, .bl false, .bl false, .bl false]) hm1
      have s2 := s1.trans (same_upd (o := .lst [.bl false, .bl false, .bl false]) hm2)
      refine ⟨m1, m2, _, _, rfl, rfl, (same_upd hm2) _ _ upd_same, upd_same, by simp [sizeLine_eq], fun m3 hm3 => ?_⟩
      have s3 := s2.trans (same_upd (o := .lst ([.bl false, .bl false, .bl false, .bl false] ++ [.bl false, .bl false, .bl false])) hm3)
      refine ⟨_, rfl, _, rfl, c_NoTick, rfl, rfl, hC, _, _, _, rfl, fun _ h => h, n8, _, rfl, c_NoTick, rfl, rfl, hC, _, _, _, rfl, fun _ h => h, n9, by simp [sizeLine_eq], fun m4 hm4 => ?_⟩
      have s4 := s3.trans (same_upd (o := .lst [.bl false, .bl false]) hm4)
      refine ⟨m3, m4, _, _, rfl, rfl, (same_upd hm4) _ _ upd_same, upd_same, by simp [sizeLine_eq], fun m5 hm5 => ?_⟩
      have s5 := s4.trans (same_upd (o := .lst (([.bl false, .bl false, .bl false, .bl false] ++ [.bl false, .bl false, .bl false]) ++ [.bl false, .bl false])) hm5)
      refine ⟨by simp [sizeLine_eq], fun m6 hm6 => ?_⟩
      have s6 := s5.trans (same_upd (o := .lst [.str "other", .str "tick"]) hm6)
      refine ⟨_, rfl, c_NoTick, rfl, rfl, hC, _, _, _, rfl, fun _ h => h, kit_self, true, rfl, iteT ?_⟩
      refine ⟨_, rfl, m5, _, rfl, .inl (SqL.of ((same_upd hm6) _ _ upd_same)), rfl, rfl, .inr ⟨_, rfl, ?_⟩⟩
      exact ⟨m6, _, _, _, rfl, rfl, SqL.of upd_same, rfl, c _ s6⟩
/-- a wheel without timers -/
def spLawEmpty (C : Addr) : Sp := fun vs H Q _ => ∃ (p q l : Addr) (W : WS), vs = [.ref p] ∧ WheelAt C H p q l W ∧ WOk W ∧ W.live = [] ∧ ∀ H', Same H H' → Q (.bl true) H'
theorem ok_empty {f C c_NoTick : Addr} {fd : FuncData} (F : Fun K "_law_empty" "_law_empty" s__law_empty f fd) (TW : TxW K mg C)
    (m1 : HasMX P w K mg base 4 C "moves_until" ["self", "tick"] [] (spMovesX K C c_NoTick)) (m2 : HasM P w K mg base 2 C "next_event" ["self"] [] (spNextEvent C))
    (m3 : HasM P w K mg base 2 C "next_firing" ["self"] [] (spNextFiring C)) (m4 : HasM P w K mg base 1 C "now" ["self"] [] (spNow C)) : FnOk P w K mg base CX0 5 f fd ["_law_wheel"] (spLawEmpty C) := by
  have cl_Wheel := TW.cl
  obtain ⟨g1, gd1, gs1, G_Wheel_moves_until, M_Wheel_moves_until, b_Wheel_moves_until, v_Wheel_moves_until⟩ := m1
  obtain ⟨g2, gd2, gs2, G_Wheel_next_event, M_Wheel_next_event, b_Wheel_next_event, v_Wheel_next_event⟩ := m2
  obtain ⟨g3, gd3, gs3, G_Wheel_next_firing, M_Wheel_next_firing, b_Wheel_next_firing, v_Wheel_next_firing⟩ := m3
  obtain ⟨g4, gd4, gs4, G_Wheel_now, M_Wheel_now, b_Wheel_now, v_Wheel_now⟩ := m4
  refine F.ok sc__law_empty (fun vs H Q E h => ?_) (fun cdv A outer s H vs Q E hr h => ?_)
  · obtain ⟨p, q, l, W, rfl, _⟩ := h
    rfl
  · obtain ⟨p, q, l, W, rfl, hw, ok, he, c⟩ := h
    obtain ⟨b, ws, t, fol, live⟩ := W
    dsimp only at he
    subst he
    have tms : ∀ m ∈ ([] : List Tm), t < m.due ∧ m.due < 2 ^ 250 := fun m hm => by cases hm
    refine ⟨_, (pss_cons (ps_if (PW.pt (pw_or (pt_cmpR op_notN (pe_meth0 (pv 0) cl_Wheel M_Wheel_next_event G_Wheel_next_event (hr.mono (by decide)) b_Wheel_next_event v_Wheel_next_event pass0) pe_non (nomark _)) (pw_or1 (pt_cmpR op_notN (pe_meth0 (pv 0) cl_Wheel M_Wheel_next_firing G_Wheel_next_firing (hr.mono (by decide)) b_Wheel_next_firing v_Wheel_next_firing pass0) pe_non (nomark _)))))
        (pss_one (ps_ret pe_bl))
        pss_nil)
      (pss_one (ps_ret (pe_and (pe_cmpR op_eq (pe_meth (pv 0) cl_Wheel M_Wheel_moves_until G_Wheel_moves_until hr b_Wheel_moves_until v_Wheel_moves_until passL (pa_cons (pe_meth0 (pv 0) cl_Wheel M_Wheel_now G_Wheel_now (hr.mono (by decide)) b_Wheel_now v_Wheel_now pass0) pa_nil)) pe_int (nomark _)) (pe_one (pe_cmpR op_eq (pe_meth (pv 0) cl_Wheel M_Wheel_moves_until G_Wheel_moves_until hr b_Wheel_moves_until v_Wheel_moves_until passL (pa_cons (pe_op op_add (pe_meth0 (pv 0) cl_Wheel M_Wheel_now G_Wheel_now (hr.mono (by decide)) b_Wheel_now v_Wheel_now pass0) (pe_op op_pow pe_int pe_int)) pa_nil)) pe_int (nomark _))))))), ?_⟩
    obtain ⟨dx, hp⟩ := hw.ins
    refine ⟨_, rfl, p, dx, _, rfl, hp, no_ne, p, q, l, _, rfl, hw, ok.b2, ok.b64, ok.few, tms, fun H1 s1 => ?_⟩
    refine ⟨rfl, false, nF rfl, iteF ?_⟩
    refine ⟨_, rfl, p, dx, _, rfl, s1 _ _ hp, no_nf, p, q, l, _, rfl, hw.same s1, ok.few, fun H2 s2 => ?_⟩
    refine ⟨rfl, false, nF rfl, iteF ?_⟩
    have s12 := s1.trans s2
    refine ⟨_, rfl, p, dx, _, rfl, s12 _ _ hp, no_mu, _, rfl, p, dx, _, rfl, s12 _ _ hp, no_now, p, q, l, _, rfl, hw.same s12, p, q, l, _, _, rfl, hw.same s12, ok.b2, ok.b64, ok.few, tms, .inl ⟨t, rfl, Nat.le_refl _, fun H3 s3 => ?_⟩⟩
    have s13 := s12.trans s3
    refine ⟨rfl, true, dT rfl, iteT ?_⟩
    refine ⟨_, rfl, p, dx, _, rfl, s13 _ _ hp, no_mu, _, rfl, p, dx, _, rfl, s13 _ _ hp, no_now, p, q, l, _, rfl, hw.same s13, 10, 20, rfl, rfl, ⟨by decide, by decide, by decide⟩, ?_⟩
    refine ⟨_, _, rfl, rfl, p, q, l, _, _, rfl, hw.same s13, ok.b2, ok.b64, ok.few, tms, .inl ⟨t + 10 ^ 20, rfl, Nat.le_add_right _ _, fun H4 s4 => ?_⟩⟩
    refine ⟨rfl, ?_⟩
    show Q (.bl (decide (V.int ((movesT b t (t + 10 ^ 20) [] : Nat) : Int) = V.int 0))) H4
    rw [show decide (V.int ((movesT b t (t + 10 ^ 20) [] : Nat) : Int) = V.int 0) = true from decide_eq_true rfl]
    exact c _ (s13.trans s4)
end
/-! ### the law -/
/-- nothing moves up to the present tick -/
theorem moves_now {b n : Nat} (hb : 2 ≤ b) : ∀ ms : List Tm, (∀ m ∈ ms, n < m.due) → movesT b n n ms = 0
  | [], _ => rfl
  | m :: ms, h => by
    have z := stT_split (t := n) hb (h m (List.mem_cons_self ..)) (Nat.le_refl _) (Nat.le_refl n)
    rw [if_pos (h m (List.mem_cons_self ..))] at z
    have ih := moves_now hb ms fun x hx => h x (List.mem_cons_of_mem _ hx)
    show (cntLe n (stT b n m.due) :: ms.map fun m => cntLe n (stT b n m.due)).sum = 0
    rw [List.sum_cons]
    have e : (ms.map fun m => cntLe n (stT b n m.due)).sum = 0 := ih
    omega
/-- the values that are no ticks -/
def badL (n : Nat) (a c d : Addr) : List V := [.non, .int (-1), .bl true, .str "5", .ref a, .ref c, .ref d, .int ((n : Int) - 1), .int 0, .int (0 - 10 ^ (40 : Int).toNat), .int ((n : Int) - 1 - (n : Int) / 2)]
theorem bad_all {K : PySem.W.Frag} {H : Hp} {n : Nat} {a c d : Addr} {xs ys : List V} (h0 : 0 < n) (ha : H a = some (.lst xs)) (hc : H c = some (.tup ys)) (hd : H d = some (.dK [])) : ∀ x ∈ badL n a c d, BadTick K H x (n : Nat) := by
  intro x hx
  have z1 : (0 : Int) - 10 ^ (40 : Int).toNat ≤ 0 := by decide
  have z2 : (0 : Int) < (n : Int) := Int.natCast_pos.mpr h0
  have hx1 : x = .non ∨ x = .int (-1) ∨ x = .bl true ∨ x = .str "5" ∨ x = .ref a ∨ x = .ref c ∨ x = .ref d ∨ x = .int ((n : Int) - 1) ∨ x = .int 0 ∨ x = .int (0 - 10 ^ (40 : Int).toNat) ∨ x = .int ((n : Int) - 1 - (n : Int) / 2) := by
    simpa [badL] using hx
  rcases hx1 with e | e | e | e | e | e | e | e | e | e | e <;> subst e
  · exact .inl .of_non
  · exact .inr ⟨-1, rfl, by omega⟩
  · exact .inl (.of_bl true)
  · exact .inl (.of_str _)
  · exact .inl (.of_lst ha)
  · exact .inl (.of_tup hc)
  · exact .inl (.of_dK hd)
  · exact .inr ⟨_, rfl, by omega⟩
  · exact .inr ⟨0, rfl, z2⟩
  · exact .inr ⟨_, rfl, Int.lt_of_le_of_lt z1 z2⟩
  · exact .inr ⟨_, rfl, by omega⟩
theorem no_li {b : Nat} {q : Addr} {t f : Nat} {l : Addr} : (wfl b q t f l).lookup ("lists" : Str) = none := wf_no (by decide +kernel) (by decide +kernel) (by decide +kernel) (by decide +kernel) (by decide +kernel)
theorem dp_rep {K : PySem.W.Frag} {H : Hp} (x : Str) : ∀ n : Nat, DpAll K H (List.replicate n (V.str x)) (List.replicate n (PyData.str x))
  | 0 => .nil
  | n + 1 => .cons (.str x) (dp_rep x n)
theorem rep_lay {x : Str} (h : (PyData.str x).canLay0 = true) : ∀ n : Nat, PyData.canLayAll0 (List.replicate n (PyData.str x)) = true
  | 0 => rfl
  | n + 1 => by
    show ((PyData.str x).canLay0 && PyData.canLayAll0 (List.replicate n (PyData.str x))) = true
    rw [rep_lay h n, h]
    rfl
theorem tick_lay : (PyData.list (List.replicate 11 (PyData.str "tick"))).canLay0 = true := rep_lay (by decide +kernel) 11
theorem tick_shaped : SeqAt.shaped (PyData.list (List.replicate 11 (PyData.str "tick"))) = true := by
  have h2 : (PyData.list (List.replicate 11 (PyData.str "tick"))).depth ≤ 64 := by
    show PyData.depthAll _ + 1 ≤ 64
    decide +kernel
  unfold SeqAt.shaped
  rw [tick_lay, decide_eq_true h2]
  rfl
theorem item46 {l : List Nat} {i : Nat} {x : V} (hx : (l.map fun n => V.int (n : Nat))[i]? = some x) : ∃ d, l[i]? = some d ∧ x = V.int (d : Nat) := by
  rw [List.getElem?_map] at hx
  cases e : l[i]? with
  | none =>
    rw [e] at hx
    cases hx
  | some y =>
    rw [e] at hx
    exact ⟨y, rfl, (Option.some.inj hx).symm⟩
section
variable {P : Program} {w : World} {K : PySem.W.Frag} {mg : Str → Option Value} {base : Heap}
def spLaw (K : PySem.W.Frag) : Sp := fun vs H Q _ => ∃ (a : Addr) (ns : List Int), vs = [.ref a] ∧ SqL K H a (ns.map V.int) ∧ ns.length ≤ 63 ∧ ∀ H', Q (.bl true) H'
theorem ok_law {f C c_NoTick : Addr} {fd : FuncData} (F : Fun K "law" "law" s_law f fd) (T : Tx K mg) (TW : TxW K mg C)
    (hI : ∃ (fi : Addr) (fdi : FuncData), Mk K C fi ∧ FnOk P w K mg base CX0 5 fi fdi ["self", "base", "levels", "start"] (spInit C K) ∧ KBn K fdi ["self", "base", "levels", "start"] 3 [Str.ofString "start"] (fun us ws => us ++ ws) (fun vs zs => vs ++ zs))
    (h1 : Has P w K mg base 2 "_law_source" ["_law_script", "_law_k"] [] (spSource K)) (h2 : Has P w K mg base 3 "_law_base" ["_law_source_here"] [] spBase)
    (h3 : Has P w K mg base 3 "_law_levels" ["_law_source_here"] [] spLevels) (h4 : Has P w K mg base 3 "_law_tick" ["_law_source_here", "_law_base_here"] [] spTick)
    (h5 : Has P w K mg base 7 "_law_used" ["_law_source_here", "_law_base_here", "_law_levels_here", "_law_now"] [] (spUsed C)) (h6 : Has P w K mg base 5 "_law_empty" ["_law_wheel"] [] (spLawEmpty C))
    (h7 : Has P w K mg base 2 "_law_next" ["_law_source_here", "_law_many"] [] spNext) (h8 : Has P w K mg base 5 "_law_word" ["_law_wheel", "_law_tick_here"] [] (spLawWord K C))
    (m1 : HasM P w K mg base 1 C "timers" ["self"] [] (spTimers C)) (m2 : HasM P w K mg base 1 C "now" ["self"] [] (spNow C)) (m3 : HasM P w K mg base 3 C "due" ["self", "timer"] [] (spDue C))
    (m4 : HasMX P w K mg base 4 C "moves_until" ["self", "tick"] [] (spMovesX K C c_NoTick)) (m5 : HasM P w K mg base 3 C "cancel" ["self", "timer"] [] (spCancel C)) (m6 : HasM P w K mg base 6 C "advance" ["self", "tick"] [] (spAdvance C))
    (m7 : HasM P w K mg base 5 C "lists" ["self"] [] (spLists C)) (m8 : HasM P w K mg base 2 C "next_event" ["self"] [] (spNextEvent C)) (m9 : HasM P w K mg base 2 C "next_firing" ["self"] [] (spNextFiring C)) :
    FnOk P w K mg base CX0 8 f fd ["_law_script"] (spLaw K) := by
  have cl_Wheel := TW.cl
  have c_Wheel := TW.mgC
  obtain ⟨fi, fdi, M_Wheel, G_Wheel_init, b_Wheel_init⟩ := hI
  obtain ⟨f__law_source, fd__law_source, ds__law_source, G__law_source, m__law_source, k__law_source, b__law_source, v__law_source⟩ := h1
  obtain ⟨f__law_base, fd__law_base, ds__law_base, G__law_base, m__law_base, k__law_base, b__law_base, v__law_base⟩ := h2
  obtain ⟨f__law_levels, fd__law_levels, ds__law_levels, G__law_levels, m__law_levels, k__law_levels, b__law_levels, v__law_levels⟩ := h3
  obtain ⟨f__law_tick, fd__law_tick, ds__law_tick, G__law_tick, m__law_tick, k__law_tick, b__law_tick, v__law_tick⟩ := h4
  obtain ⟨f__law_used, fd__law_used, ds__law_used, G__law_used, m__law_used, k__law_used, b__law_used, v__law_used⟩ := h5
  obtain ⟨f__law_empty, fd__law_empty, ds__law_empty, G__law_empty, m__law_empty, k__law_empty, b__law_empty, v__law_empty⟩ := h6
  obtain ⟨f__law_next, fd__law_next, ds__law_next, G__law_next, m__law_next, k__law_next, b__law_next, v__law_next⟩ := h7
  obtain ⟨f__law_word, fd__law_word, ds__law_word, G__law_word, m__law_word, k__law_word, b__law_word, v__law_word⟩ := h8
  obtain ⟨g1, gd1, gs1, G_Wheel_timers, M_Wheel_timers, b_Wheel_timers, v_Wheel_timers⟩ := m1
  obtain ⟨g2, gd2, gs2, G_Wheel_now, M_Wheel_now, b_Wheel_now, v_Wheel_now⟩ := m2
  obtain ⟨g3, gd3, gs3, G_Wheel_due, M_Wheel_due, b_Wheel_due, v_Wheel_due⟩ := m3
  obtain ⟨g4, gd4, gs4, G_Wheel_moves_until, M_Wheel_moves_until, b_Wheel_moves_until, v_Wheel_moves_until⟩ := m4
  obtain ⟨g5, gd5, gs5, G_Wheel_cancel, M_Wheel_cancel, b_Wheel_cancel, v_Wheel_cancel⟩ := m5
  obtain ⟨g6, gd6, gs6, G_Wheel_advance, M_Wheel_advance, b_Wheel_advance, v_Wheel_advance⟩ := m6
  obtain ⟨g7, gd7, gs7, G_Wheel_lists, M_Wheel_lists, b_Wheel_lists, v_Wheel_lists⟩ := m7
  obtain ⟨g8, gd8, gs8, G_Wheel_next_event, M_Wheel_next_event, b_Wheel_next_event, v_Wheel_next_event⟩ := m8
  obtain ⟨g9, gd9, gs9, G_Wheel_next_firing, M_Wheel_next_firing, b_Wheel_next_firing, v_Wheel_next_firing⟩ := m9
  refine F.ok sc_law (fun vs H Q E h => ?_) (fun cdv A outer s H vs Q E hr h => ?_)
  · obtain ⟨a, ns, rfl, _⟩ := h
    rfl
  · obtain ⟨a, xs, rfl, hS, hlen, qEnd⟩ := h
    refine ⟨_, (pss_cons (ps_for PassesOwn.never rfl (pi_range1 (by rfl) T.b_range (pa_cons (pe_callB (call_max2 rfl) (by rfl) T.b_max (by decide +kernel) (pa_cons pe_int (pa_cons (pe_callB (call_min2 rfl) (by rfl) T.b_min (by decide +kernel) (pa_cons pe_int (pa_cons (pe_callB (lenK (K := K) rfl) (by rfl) T.b_len PySem.boot_len (pa_cons (pv 0) pa_nil)) pa_nil))) pa_nil))) pa_nil)) (pg_name (i := 1) sc_law.nd rfl (.inl rfl))
        (pss_cons (ps_set (i := 2) sc_law.nd rfl (.inl rfl) (pe_call G__law_source (hr.mono (by decide)) (by rfl) m__law_source k__law_source b__law_source v__law_source pass0 (pa_cons (pv 0) (pa_cons (pv 1) pa_nil))))
        (pss_cons (ps_par (i := 3) (j := 4) (by rfl) sc_law.nd rfl rfl (by decide) rfl rfl (pa_cons (pe_call G__law_base (hr.mono (by decide)) (by rfl) m__law_base k__law_base b__law_base v__law_base pass0 (pa_cons (pv 2) pa_nil)) (pa_cons (pe_call G__law_levels (hr.mono (by decide)) (by rfl) m__law_levels k__law_levels b__law_levels v__law_levels pass0 (pa_cons (pv 2) pa_nil)) pa_nil)) (by rfl))
        (pss_cons (ps_set (i := 5) sc_law.nd rfl (.inl rfl) (pe_op op_add pe_int (pe_call G__law_tick (hr.mono (by decide)) (by rfl) m__law_tick k__law_tick b__law_tick v__law_tick pass0 (pa_cons (pv 2) (pa_cons (pv 3) pa_nil)))))
        (pss_cons (ps_if (pt_not (pt_val (pe_call G__law_empty (hr.mono (by decide)) (by rfl) m__law_empty k__law_empty b__law_empty v__law_empty pass0 (pa_cons (pe_makeK M_Wheel G_Wheel_init (hr.mono (by decide)) (by rfl) c_Wheel b_Wheel_init pass0 (pa_cons (pv 3) (pa_cons (pv 4) pa_nil)) (pk_cons (pv 5) pk_nil)) pa_nil))))
          (pss_one (ps_ret pe_bl))
          pss_nil)
        (pss_cons (ps_set (i := 6) sc_law.nd rfl (.inr rfl) (pe_call G__law_used hr (by rfl) m__law_used k__law_used b__law_used v__law_used pass0 (pa_cons (pv 2) (pa_cons (pv 3) (pa_cons (pv 4) (pa_cons (pv 5) pa_nil))))))
        (pss_cons (ps_par (i := 7) (j := 8) (by rfl) sc_law.nd rfl rfl (by decide) rfl rfl (pa_cons (pe_meth0 (pv 6) cl_Wheel M_Wheel_now G_Wheel_now (hr.mono (by decide)) b_Wheel_now v_Wheel_now pass0) (pa_cons (pe_meth0 (pv 6) cl_Wheel M_Wheel_lists G_Wheel_lists (hr.mono (by decide)) b_Wheel_lists v_Wheel_lists pass0) pa_nil)) (by rfl))
        (pss_cons (ps_set (i := 9) sc_law.nd rfl (.inl rfl) (pe_tup (pa_cons (pe_meth0 (pv 6) cl_Wheel M_Wheel_next_event G_Wheel_next_event (hr.mono (by decide)) b_Wheel_next_event v_Wheel_next_event pass0) (pa_cons (pe_meth0 (pv 6) cl_Wheel M_Wheel_next_firing G_Wheel_next_firing (hr.mono (by decide)) b_Wheel_next_firing v_Wheel_next_firing pass0) pa_nil))))
        (pss_cons (ps_set (i := 10) sc_law.nd rfl (.inl rfl) (pe_lst (pa_cons pe_non (pa_cons (pe_un un_neg pe_int) (pa_cons pe_bl (pa_cons pe_str (pa_cons (pe_lst (pa_cons (pv 7) pa_nil)) (pa_cons (pe_tup (pa_cons (pv 7) pa_nil)) (pa_cons pe_dnewK (pa_cons (pe_op op_sub (pv 7) pe_int) (pa_cons pe_int (pa_cons (pe_op op_sub pe_int (pe_op op_pow pe_int pe_int)) (pa_cons (pe_op op_sub (pe_op op_sub (pv 7) pe_int) (pe_op op_fdivW (pv 7) pe_int)) pa_nil)))))))))))))
        (pss_cons (ps_if (pt_cmpR (op_neK (K := K) rfl hr.units) (pe_lc (own := [("_law_tick_here", 12)]) (g := gName 12) (tt := tYes) rfl sc_law.nd (pi_list (pv 10)) (blkOk_by (own := [("_law_tick_here", 12)]) (N := N_law) (sc := defScope s_law) (by decide +kernel)) (fun _ _ _ _ _ => (pg_name (i := 12) sc_law.nd rfl (.inl rfl))) (fun _ _ _ _ _ => pts_nil) (fun _ _ _ _ _ => (pe_call G__law_word (hr.mono (by decide)) (by rfl) m__law_word k__law_word b__law_word v__law_word pass0 (pa_cons (pv 6) (pa_cons (pv 12) pa_nil))))) (pe_op op_rep (pe_lst (pa_cons pe_str pa_nil)) pe_int) (nomark _))
          (pss_one (ps_ret pe_bl))
          pss_nil)
        (pss_cons (ps_if (PW.pt (pw_or (pt_cmpR op_ne (pe_meth (pv 6) cl_Wheel M_Wheel_moves_until G_Wheel_moves_until (hr.mono (by decide)) b_Wheel_moves_until v_Wheel_moves_until passL (pa_cons (pv 7) pa_nil)) pe_int (nomark _)) (pw_or1 (pt_cmpR op_ne (pe_call G__law_word (hr.mono (by decide)) (by rfl) m__law_word k__law_word b__law_word v__law_word pass0 (pa_cons (pv 6) (pa_cons (pe_op op_sub (pe_op op_pow pe_int pe_int) pe_int) pa_nil))) pe_str (nomark _)))))
          (pss_one (ps_ret pe_bl))
          pss_nil)
        (pss_cons (ps_if (PW.pt (pw_or (pt_cmpR (op_neK (K := K) rfl hr.units) (pe_meth0 (pv 6) cl_Wheel M_Wheel_lists G_Wheel_lists (hr.mono (by decide)) b_Wheel_lists v_Wheel_lists pass0) (pv 8) (nomark _)) (pw_or (pt_cmpR op_ne (pe_meth0 (pv 6) cl_Wheel M_Wheel_now G_Wheel_now (hr.mono (by decide)) b_Wheel_now v_Wheel_now pass0) (pv 7) (nomark _)) (pw_or1 (pt_cmpR (op_neK (K := K) rfl hr.units) (pe_tup (pa_cons (pe_meth0 (pv 6) cl_Wheel M_Wheel_next_event G_Wheel_next_event (hr.mono (by decide)) b_Wheel_next_event v_Wheel_next_event pass0) (pa_cons (pe_meth0 (pv 6) cl_Wheel M_Wheel_next_firing G_Wheel_next_firing (hr.mono (by decide)) b_Wheel_next_firing v_Wheel_next_firing pass0) pa_nil))) (pv 9) (nomark _))))))
          (pss_one (ps_ret pe_bl))
          pss_nil)
        (pss_cons (ps_if (pt_cmpR op_eq (pe_call G__law_next (hr.mono (by decide)) (by rfl) m__law_next k__law_next b__law_next v__law_next pass0 (pa_cons (pv 2) (pa_cons pe_int pa_nil))) pe_int (nomark _))
          (pss_one (ps_for PassesOwn.never rfl (pi_list (pe_meth0 (pv 6) cl_Wheel M_Wheel_timers G_Wheel_timers (hr.mono (by decide)) b_Wheel_timers v_Wheel_timers pass0)) (pg_name (i := 11) sc_law.nd rfl (.inl rfl))
            (pss_one (ps_expr (pe_meth (pv 6) cl_Wheel M_Wheel_cancel G_Wheel_cancel (hr.mono (by decide)) b_Wheel_cancel v_Wheel_cancel pass0 (pa_cons (pv 11) pa_nil))))))
          (pss_one (ps_expr (pe_meth (pv 6) cl_Wheel M_Wheel_advance G_Wheel_advance (hr.mono (by decide)) b_Wheel_advance v_Wheel_advance pass0 (pa_cons (pe_callB (maxK (K := K) rfl rfl) (by rfl) T.b_max (by decide +kernel) (pa_cons (pe_op op_cat (pe_lst (pa_cons (pv 7) pa_nil)) (pe_lc (own := [("_law_number", 11)]) (g := gName 11) (tt := tYes) rfl sc_law.nd (pi_list (pe_meth0 (pv 6) cl_Wheel M_Wheel_timers G_Wheel_timers (hr.mono (by decide)) b_Wheel_timers v_Wheel_timers pass0)) (blkOk_by (own := [("_law_number", 11)]) (N := N_law) (sc := defScope s_law) (by decide +kernel)) (fun _ _ _ _ _ => (pg_name (i := 11) sc_law.nd rfl (.inl rfl))) (fun _ _ _ _ _ => pts_nil) (fun _ _ _ _ _ => (pe_meth (pv 6) cl_Wheel M_Wheel_due G_Wheel_due (hr.mono (by decide)) b_Wheel_due v_Wheel_due pass0 (pa_cons (pv 11) pa_nil))))) pa_nil)) pa_nil)))))
        (pss_one (ps_if (pt_not (pt_val (pe_call G__law_empty (hr.mono (by decide)) (by rfl) m__law_empty k__law_empty b__law_empty v__law_empty pass0 (pa_cons (pv 6) pa_nil))))
          (pss_one (ps_ret pe_bl))
          pss_nil)))))))))))))))
      (pss_one (ps_ret pe_bl))), ?_⟩
    refine ⟨.ref a, rfl, a, xs.map V.int, rfl, .inl hS, 8, _, rfl, 1, _, rfl, _, rfl, ?_, ?_, for_range (Pv := fun i σ H' => SqL K H' a (xs.map V.int) ∧ ∃ y1 y2 y3 y4 y5 y6 y7 y8 y9 y10 y11 y12, σ = [some (.ref a), y1, y2, y3, y4, y5, y6, y7, y8, y9, y10, y11, y12]) ⟨hS, none, none, none, none, none, none, none, none, none, none, none, none, rfl⟩ ?_ ?_⟩
    · split <;> split <;> omega
    · rw [List.length_map]
      split <;> split <;> omega
    · rintro i0 σ H0 hi ⟨hS, y1, y2, y3, y4, y5, y6, y7, y8, y9, y10, y11, y12, rfl⟩
      -- source, base, levels, where it begins
      refine ⟨_, rfl, _, rfl, a, xs, 0 + i0, rfl, hS, fun H1 ps s1 hp0 hsrc => ?_⟩
      refine ⟨_, rfl, ps, rfl, hsrc, fun b H2 hb hb64 s2 => ⟨_, rfl, ps, rfl, s2.src, fun H3 ql ws s3 hql0 hql hne h60 => ⟨_, _, rfl, ?_⟩⟩⟩
      have st3 : Stp ps H1 H3 := s2.trans s3
      have nql : ql ≠ ps := s2.src.ne hql0
      refine ⟨_, rfl, _, rfl, ps, b, rfl, hb, hb64, st3.src, fun n H4 hn s4 => ⟨_, _, rfl, rfl, ?_⟩⟩
      have hq4 := s4.keep _ _ nql hql
      have st4 := st3.trans s4
      -- an empty wheel
      refine ⟨_, rfl, _, rfl, _, rfl, rfl, rfl, fun pe dxe hpe hdxe nex => ?_⟩
      have se : Same H4 (upd (upd H4 dxe (.own pe)) pe (.ins C dxe [])) := fun c o e => by
        rw [upd_ne (ne_of_none e hpe), upd_ne (ne_of_none e hdxe)]
        exact e
      refine ⟨pe, dxe, ql, b, 1 + n, ws, rfl, upd_same, SqL.of (se _ _ hq4), hb, hb64, hne, h60, fun H5 q5 l5 k5 hq5 hl5 hw5 => ⟨rfl, ?_⟩⟩
      have s5 : Same H4 H5 := fun c o e => k5 c o (ne_of_none e hpe) (se _ _ e)
      refine ⟨pe, q5, l5, _, rfl, hw5, ⟨hb, hb64, trim_ne hne, Nat.le_trans (trim_len ws) h60, (fun m h => by cases h), List.nodup_nil, Nat.zero_le _⟩, rfl, fun H6 s6 => ⟨true, rfl, iteF ?_⟩⟩
      have s56 := s5.trans s6
      have st6 : Stp ps H1 H6 := st4.same s56
      -- the wheel
      refine ⟨_, rfl, _, rfl, _, rfl, _, rfl, ps, ql, b, 1 + n, ws, rfl, hb, hb64, st6.src, s56 _ _ hq4, hne, h60, by omega, fun H7 p q l W U7 lo => ?_⟩
      have htick0 : 0 < W.tick := by omega
      clear lo
      obtain rfl := U7.base
      have ok := U7.ok
      have few := U7.few
      have dues : ∀ m ∈ W.live, W.tick < m.due ∧ m.due < 2 ^ 250 := fun m hm => ⟨(ok.tms m hm).due, (ok.tms m hm).big⟩
      obtain ⟨dx7, hp7⟩ := U7.at_.ins
      -- what it tells
      refine ⟨_, rfl, p, dx7, _, rfl, hp7, no_now, p, q, l, W, rfl, U7.at_, _, rfl, p, dx7, _, rfl, hp7, no_li, p, q, l, W, rfl, U7.at_, ok, fun H8 r8 ts8 cs8 s8 hr80 hr8 cr8 il8 => ⟨_, _, rfl, ?_⟩⟩
      have U8 := U7.same s8
      obtain ⟨dx8, hp8⟩ := U8.at_.ins
      refine ⟨_, rfl, p, dx8, _, rfl, hp8, no_ne, p, q, l, W, rfl, U8.at_, hb, hb64, ok.few, dues, fun H9 s9 => ?_⟩
      have U9 := U8.same s9
      obtain ⟨dx9, hp9⟩ := U9.at_.ins
      refine ⟨_, rfl, p, dx9, _, rfl, hp9, no_nf, p, q, l, W, rfl, U9.at_, ok.few, fun H10 s10 => ⟨by simp [sizeLine_eq], fun TP hTP => ?_⟩⟩
      have s11 := s10.trans (same_upd (o := .tup [perV (nextE W.b W.tick W.live), perV (leastD W.live)]) hTP)
      have eTP : (upd H10 TP (.tup [perV (nextE W.b W.tick W.live), perV (leastD W.live)])) TP = some (.tup [perV (nextE W.b W.tick W.live), perV (leastD W.live)]) := upd_same
      generalize upd H10 TP (.tup [perV (nextE W.b W.tick W.live), perV (leastD W.live)]) = H11 at s11 eTP ⊢
      have U11 := U9.same s11
      have s811 := s9.trans s11
      -- what are no ticks
      refine ⟨1, rfl, _, rfl, by simp [sizeLine_eq], fun bl hbl => ?_⟩
      have s12 := same_upd (o := .lst [.int (W.tick : Nat)]) hbl
      have ebl : (upd H11 bl (.lst [.int (W.tick : Nat)])) bl = some (.lst [.int (W.tick : Nat)]) := upd_same
      generalize upd H11 bl (.lst [.int (W.tick : Nat)]) = H12 at s12 ebl ⊢
      refine ⟨_, rfl, by simp [sizeLine_eq], fun bt hbt => ?_⟩
      have s13 := same_upd (o := .tup [.int (W.tick : Nat)]) hbt
      have ebt : (upd H12 bt (.tup [.int (W.tick : Nat)])) bt = some (.tup [.int (W.tick : Nat)]) := upd_same
      generalize upd H12 bt (.tup [.int (W.tick : Nat)]) = H13 at s13 ebt ⊢
      refine fun bd hbd => ?_
      have s14 := same_upd (o := .dK []) hbd
      have ebd : (upd H13 bd (.dK [])) bd = some (.dK []) := upd_same
      generalize upd H13 bd (.dK []) = H14 at s14 ebd ⊢
      refine ⟨_, rfl, (W.tick : Nat), 1, rfl, rfl, 10, 40, rfl, rfl, ⟨by decide, by decide, by decide⟩, 0, _, rfl, rfl, ?_⟩
      refine ⟨_, rfl, (W.tick : Nat), 1, rfl, rfl, _, rfl, (W.tick : Nat), 2, rfl, rfl, div_s (by decide) (by decide), _, _, rfl, rfl, by simp [sizeLine_eq], fun BL hBL => ?_⟩
      have s15 : Same H14 (upd H14 BL (.lst (badL W.tick bl bt bd))) := same_upd hBL
      have eBL : (upd H14 BL (.lst (badL W.tick bl bt bd))) BL = some (.lst (badL W.tick bl bt bd)) := upd_same
      have s1115 := ((s12.trans s13).trans s14).trans s15
      have ebl15 := s15 _ _ (s14 _ _ (s13 _ _ ebl))
      have ebt15 := s15 _ _ (s14 _ _ ebt)
      have ebd15 := s15 _ _ ebd
      have U15 := U11.same s1115
      refine ⟨_, rfl, BL, rfl, ⟨_, SqL.of eBL⟩, fun D hD => lc_list (K := K) (a := BL) (xs := badL W.tick bl bt bd) (fun i H' => Same (upd H14 BL (.lst (badL W.tick bl bt bd))) H' ∧ H' D = some (.lst (List.replicate i (V.str "tick"))))
        ⟨same_upd hD, upd_same⟩ (fun i H' _ ⟨sm, _⟩ => SqL.of (sm _ _ eBL)) ?_ ?_⟩
      · rintro i x H' hx ⟨sm, eD⟩
        have bad := bad_all (K := K) htick0 (sm _ _ ebl15) (sm _ _ ebt15) (sm _ _ ebd15) x (List.mem_of_getElem? hx)
        have hi11 : i < 11 := (List.getElem?_eq_some_iff.mp hx).1
        refine ⟨rfl, yesT (iteT ?_)⟩
        refine ⟨_, rfl, _, rfl, p, q, l, W, x, rfl, (U15.same sm).at_, ok, .inr ⟨bad, fun H'' s'' => ⟨_, s'' _ _ eD, ?_, fun c o e => ?_, ?_⟩⟩⟩
        · rw [List.length_replicate]
          exact sizeLine_ge (by omega)
        · rw [upd_ne (ne_of_none e hD)]
          exact s'' _ _ (sm _ _ e)
        · rw [upd_same, List.replicate_succ']
      rintro H16 ⟨s16, eD⟩
      have eD' : H16 D = some (.lst (List.replicate 11 (V.str "tick"))) := eD
      have U16 := U15.same s16
      refine ⟨by simp [sizeLine_eq], fun rl hrl => ?_⟩
      have s17a := same_upd (o := .lst [.str "tick"]) hrl
      refine ⟨rl, 11, _, rfl, rfl, upd_same, by decide, by decide, by simp [sizeLine_eq], fun r2 hr2 => ?_⟩
      have s17 := s17a.trans (same_upd (o := .lst (List.replicate (11 : Int).toNat [V.str "tick"]).flatten) hr2)
      have U17 := U16.same s17
      refine ⟨.list (List.replicate 11 (.str "tick")), .list (List.replicate 11 (.str "tick")), .lst (SqL.of (s17 _ _ eD')) (dp_rep _ _), .lst (SqL.of (xs := List.replicate 11 (V.str "tick")) upd_same) (dp_rep _ _), tick_shaped, tick_shaped, false, neq_refl tick_lay, iteF ?_⟩
      have s1117 := s1115.trans (s16.trans s17)
      generalize upd (upd H16 rl (.lst [.str "tick"])) r2 (.lst (List.replicate (11 : Int).toNat [V.str "tick"]).flatten) = H17 at s1117 U17 ⊢
      clear s17 s17a s16 s1115 eD' eD
      -- no moves at the present tick, none refused far away
      have moves0 : movesT W.b W.tick W.tick W.live = 0 := moves_now hb _ fun m hm => (dues m hm).1
      have e60 : (10 : Int) ^ (60 : Int).toNat - 1 = ((999999999999999999999999999999999999999999999999999999999999 : Nat) : Int) := by decide
      have htick9 : W.tick ≤ 999999999999999999999999999999999999999999999999999999999999 := Nat.le_trans U17.tick (by decide)
      obtain ⟨dx17, hp17⟩ := U17.at_.ins
      refine ⟨_, rfl, p, dx17, _, rfl, hp17, no_mu, _, rfl, p, q, l, W, _, rfl, U17.at_, hb, hb64, ok.few, dues, .inl ⟨W.tick, rfl, Nat.le_refl _, fun H18 s18 => ⟨rfl, false, nF (vE (b := 0) moves0), iteF ?_⟩⟩⟩
      have U18 := U17.same s18
      refine ⟨_, rfl, 10, 60, rfl, rfl, ⟨by decide, by decide, by decide⟩, _, 1, rfl, rfl, p, q, l, W, _, rfl, U18.at_, ok, .inl ⟨999999999999999999999999999999999999999999999999999999999999, congrArg V.int e60, htick9, fun H19 s19 => ⟨rfl, false, nF rfl, iteF ?_⟩⟩⟩
      have U19 := U18.same s19
      have s1119 := (s1117.trans s18).trans s19
      -- nothing has changed
      obtain ⟨dx19, hp19⟩ := U19.at_.ins
      refine ⟨_, rfl, p, dx19, _, rfl, hp19, no_li, p, q, l, W, rfl, U19.at_, ok, fun H20 r20 ts20 cs20 s20 hr200 hr20 cr20 il20 => ?_⟩
      obtain rfl : cs20 = cs8 := il20.uniq il8
      have U20 := U19.same s20
      have s820 := (s811.trans s1119).trans s20
      refine ⟨_, rfl, .list (cs20.map cellD), .list (cs20.map cellD), .lst (SqL.of hr20) (cells_dp (fun _ _ e => e) cr20), .lst (SqL.of (s820 _ _ hr8)) (cells_dp (fun _ _ e => e) (cr8.frame (fun _ _ e => s820 _ _ e) fun _ _ e => s820 _ _ e)), cells_shaped _, cells_shaped _, false, neq_refl (cells_lay _), iteF ?_⟩
      obtain ⟨dx20, hp20⟩ := U20.at_.ins
      refine ⟨_, rfl, p, dx20, _, rfl, hp20, no_now, p, q, l, W, rfl, U20.at_, _, rfl, rfl, false, nF rfl, iteF ?_⟩
      refine ⟨_, rfl, p, dx20, _, rfl, hp20, no_ne, p, q, l, W, rfl, U20.at_, hb, hb64, ok.few, dues, fun H21 s21 => ?_⟩
      have U21 := U20.same s21
      obtain ⟨dx21, hp21⟩ := U21.at_.ins
      refine ⟨_, rfl, p, dx21, _, rfl, hp21, no_nf, p, q, l, W, rfl, U21.at_, ok.few, fun H22 s22 => ⟨by simp [sizeLine_eq], fun TQ hTQ => ?_⟩⟩
      have s23 := s22.trans (same_upd (o := .tup [perV (nextE W.b W.tick W.live), perV (leastD W.live)]) hTQ)
      have eTQ : (upd H22 TQ (.tup [perV (nextE W.b W.tick W.live), perV (leastD W.live)])) TQ = some (.tup [perV (nextE W.b W.tick W.live), perV (leastD W.live)]) := upd_same
      generalize upd H22 TQ (.tup [perV (nextE W.b W.tick W.live), perV (leastD W.live)]) = H23 at s23 eTQ ⊢
      have U23 := U21.same s23
      refine ⟨_, rfl, _, _, pair_dp eTQ, pair_dp (s23 _ _ (s21 _ _ (s20 _ _ (s1119 _ _ eTP)))), pair_shaped _ _, pair_shaped _ _, false, neq_refl (pair_lay _ _), iteF ?_⟩
      -- all timers go
      refine ⟨_, rfl, ps, 2, rfl, by decide, by decide, U23.st.src, fun r24 H24 hr24 s24 => ?_⟩
      have U24 := U23.step s24
      obtain ⟨dx24, hp24⟩ := U24.at_.ins
      by_cases c24 : r24 = 0
      · refine ⟨rfl, true, dT (by rw [c24]; rfl), iteT ?_⟩
        refine ⟨_, rfl, p, dx24, _, rfl, hp24, no_timers, p, q, l, W, rfl, U24.at_, by omega, fun H25 r25 ns s25 hr250 hr25 hperm hsort => ?_⟩
        have U25 := U24.same s25
        have nsd : ns.Nodup := hperm.nodup_iff.mpr ok.nd
        refine ⟨r25, rfl, ⟨_, SqL.of hr25⟩, for_list (K := K) (a := r25) (xs := ns.map fun x => V.int (x : Nat)) (fun i σ H' => ∃ (W' : WS) (y11 : Option V), σ = [some (.ref a), some (.int (0 + (i0 : Int))), some (.ref ps), some (.int (W.b : Nat)), some (.ref ql), some (.int (1 + (n : Int))), some (.ref p), some (.int (W.tick : Nat)), some (.ref r8), some (.ref TP), some (.ref BL), y11, y12] ∧
            Used C H6 H' ps p q l W' W.b (2 ^ 192) 20 ∧ (∀ m ∈ W'.live, m.num ∈ ns.drop i) ∧ (∀ n ∈ ns.drop i, ∃ m ∈ W'.live, m.num = n) ∧ H' r25 = some (.lst (ns.map fun x => V.int (x : Nat))))
          ⟨W, y11, rfl, U25, fun m hm => hperm.mem_iff.mpr (List.mem_map_of_mem hm), fun n hn => by
            obtain ⟨m, h1, h2⟩ := List.mem_map.mp (hperm.mem_iff.mp hn)
            exact ⟨m, h1, h2⟩, hr25⟩ (fun i σ H' _ ⟨_, _, _, _, _, _, er⟩ => SqL.of er) ?_ ?_⟩
        · rintro i x σ H' hx ⟨W', y11, rfl, U', hin, hex, er⟩
          obtain ⟨y, hy, rfl⟩ := item46 hx
          obtain ⟨hlt, hy2⟩ := List.getElem?_eq_some_iff.mp hy
          have edrop : ns.drop i = y :: ns.drop (i + 1) := by rw [List.drop_eq_getElem_cons hlt, hy2]
          have hnd : y ∉ ns.drop (i + 1) := by
            have z := (List.drop_sublist i ns).nodup nsd
            rw [edrop] at z
            exact (List.nodup_cons.mp z).1
          rw [edrop] at hin hex
          obtain ⟨dx', hp'⟩ := U'.at_.ins
          obtain ⟨kv', hl', _⟩ := U'.at_.live
          have few' := U'.few
          refine ⟨_, rfl, p, dx', _, rfl, hp', no_cancel, _, rfl, p, q, l, W', y, rfl, U'.at_, U'.ok.nd, hex y (List.mem_cons_self ..), fun H'' k'' w'' => ?_⟩
          refine ⟨_, _, rfl, U'.wk k'' w'' (ok_dropW U'.ok) U'.base U'.tick (Nat.le_trans (List.length_filter_le _ _) few') (fun m hm => U'.per m (List.mem_filter.mp hm).1), fun m hm => ?_, fun n hn => ?_, k''.keep _ _ (ne_of er hp' (by intro z; cases z)) (ne_of er hl' (by intro z; cases z)) er⟩
          · obtain ⟨h1, h2⟩ := List.mem_filter.mp hm
            rcases List.mem_cons.mp (hin m h1) with e | h3
            · exact absurd e (of_decide_eq_true h2)
            · exact h3
          · obtain ⟨m, h1, h2⟩ := hex n (List.mem_cons_of_mem _ hn)
            refine ⟨m, List.mem_filter.mpr ⟨h1, decide_eq_true fun e => ?_⟩, h2⟩
            rw [← e, h2] at hnd
            exact hnd hn
        · rintro σ H' ⟨W', y11, rfl, U', hin, hex, er⟩
          rw [List.length_map, List.drop_length] at hin
          have hl : W'.live = [] := List.eq_nil_iff_forall_not_mem.mpr fun m hm => by cases hin m hm
          refine ⟨_, rfl, p, q, l, W', rfl, U'.at_, U'.ok, hl, fun H'' s'' => ⟨true, rfl, iteF ?_⟩⟩
          exact ⟨seq_new hS hp0 s1 (st6.trans (U'.same s'').st), _, _, _, _, _, _, _, _, _, _, _, _, rfl⟩
      · refine ⟨rfl, false, dF (fun z => c24 (Int.ofNat.inj (V.int.inj z))), iteF ?_⟩
        refine ⟨_, rfl, p, dx24, _, rfl, hp24, no_advance, _, rfl, by simp [sizeLine_eq], fun c1 hc1 => ?_⟩
        have s25 := same_upd (o := .lst [.int (W.tick : Nat)]) hc1
        have ec1 : (upd H24 c1 (.lst [.int (W.tick : Nat)])) c1 = some (.lst [.int (W.tick : Nat)]) := upd_same
        generalize upd H24 c1 (.lst [.int (W.tick : Nat)]) = H25 at s25 ec1 ⊢
        have U25 := U24.same s25
        obtain ⟨dx25, hp25⟩ := U25.at_.ins
        refine ⟨_, rfl, p, dx25, _, rfl, hp25, no_timers, p, q, l, W, rfl, U25.at_, by omega, fun H26 r26 ns s26 hr260 hr26 hperm hsort => ?_⟩
        have U26 := U25.same s26
        have hlen : ns.length = W.live.length := by
          have z := hperm.length_eq
          rw [List.length_map] at z
          exact z
        refine ⟨r26, rfl, ⟨_, SqL.of hr26⟩, fun D hD => lc_list (K := K) (a := r26) (xs := ns.map fun x => V.int (x : Nat)) (fun i H' => Same H26 H' ∧ H' D = some (.lst (((ns.take i).map (dueF W.live)).map fun x => V.int (x : Nat))))
          ⟨same_upd hD, upd_same⟩ (fun i H' _ ⟨sm, _⟩ => SqL.of (sm _ _ hr26)) ?_ ?_⟩
        · rintro i x H' hx ⟨sm, eD⟩
          obtain ⟨y, hy, rfl⟩ := item46 hx
          obtain ⟨m, hm, em⟩ := List.mem_map.mp (hperm.mem_iff.mp (List.mem_of_getElem? hy))
          have em' : m.num = y := em
          subst em'
          have U' := U26.same sm
          obtain ⟨dx', hp'⟩ := U'.at_.ins
          refine ⟨rfl, yesT (iteT ?_)⟩
          refine ⟨_, rfl, p, dx', _, rfl, hp', no_due, _, rfl, p, q, l, W, m, rfl, U'.at_, ok.nd, hm, _, eD, ?_, fun c o e => ?_, ?_⟩
          · rw [List.length_map, List.length_map, List.length_take]
            exact sizeLine_ge (by omega)
          · rw [upd_ne (ne_of_none e hD)]
            exact sm _ _ e
          · rw [upd_same, List.take_add_one, hy, ← dueF_of ok.nd hm]
            show _ = some (HO.lst (((ns.take i ++ [m.num]).map (dueF W.live)).map fun x => V.int (x : Nat)))
            rw [List.map_append, List.map_append]
            rfl
        rintro H27 ⟨s27, eD⟩
        rw [List.length_map, List.take_length] at eD
        have U27 := U26.same s27
        generalize hdl : ns.map (dueF W.live) = dl at eD
        have hdp : dl.Perm (W.live.map (·.due)) := by
          rw [← hdl]
          exact dues_perm ok.nd hperm
        have hdl20 : dl.length ≤ 20 := by
          have z := hdp.length_eq
          rw [List.length_map] at z
          omega
        refine ⟨c1, D, _, _, rfl, rfl, s27 _ _ (s26 _ _ ec1), eD, ?_, fun c2 hc2 => ?_⟩
        · rw [List.length_map]
          exact sizeLine_le (by show 1 + dl.length ≤ 1000000; omega)
        have s28 := same_upd (o := .lst ([.int (W.tick : Nat)] ++ dl.map fun x => V.int (x : Nat))) hc2
        have e28 : (upd H27 c2 (.lst ([.int (W.tick : Nat)] ++ dl.map fun x => V.int (x : Nat)))) c2 = some (.lst (((W.tick : Int) :: dl.map fun x : Nat => (x : Int)).map V.int)) := by
          rw [upd_same, vint_map]
          rfl
        generalize upd H27 c2 (.lst ([.int (W.tick : Nat)] ++ dl.map fun x => V.int (x : Nat))) = H28 at s28 e28 ⊢
        have U28 := U27.same s28
        refine ⟨c2, _, rfl, SqL.of e28, Nat.succ_pos _, fun mx hmem hge => ?_⟩
        obtain ⟨t, ht⟩ : ∃ t : Nat, mx = (t : Int) := by
          rcases List.mem_cons.mp hmem with e | h
          · exact ⟨_, e⟩
          · obtain ⟨d, _, e⟩ := List.mem_map.mp h
            exact ⟨d, e.symm⟩
        subst ht
        have htk : W.tick ≤ t := Int.ofNat_le.mp (hge _ (List.mem_cons_self ..))
        have hall : ∀ m ∈ W.live, m.due ≤ t := fun m hm => Int.ofNat_le.mp (hge _ (List.mem_cons_of_mem _ (List.mem_map_of_mem (hdp.mem_iff.mpr (List.mem_map_of_mem hm)))))
        obtain ⟨fired, ms', a1, a2, a3, a4, a5⟩ := adv_exists W.b W.ws t W.live.length W.live (Nat.le_refl _) (fun m hm => (U28.per m hm).1) (fun m hm => ⟨Nat.lt_of_le_of_lt (ok.tms m hm).since (ok.tms m hm).due, (ok.tms m hm).big⟩) ok.nd ok.few
        have hms : ms' = [] := List.eq_nil_iff_forall_not_mem.mpr fun m hm => absurd (hall m (a3 m hm).1) (Nat.not_le_of_lt (a3 m hm).2)
        subst hms
        refine ⟨p, q, l, W, t, fired, [], rfl, U28.at_, hb, hb64, ok.ne, ok.few, htk, a1, by omega, fun H29 r29 l29 ts29 k29 _ _ _ w29 => ?_⟩
        have ok29 : WOk { W with tick := t, live := [] } := ⟨ok.b2, ok.b64, ok.ne, ok.l60, (fun m h => by cases h), List.nodup_nil, Nat.zero_le _⟩
        have U29 := U28.wk (t' := t) (n' := 20) k29 w29 ok29 rfl (Nat.le_refl _) (Nat.zero_le _) fun m hm => by cases hm
        refine ⟨_, rfl, p, q, l29, _, rfl, U29.at_, ok29, rfl, fun H'' s'' => ⟨true, rfl, iteF ?_⟩⟩
        exact ⟨seq_new hS hp0 s1 (st6.trans (U29.same s'').st), _, _, _, _, _, _, _, _, _, _, _, _, rfl⟩
    · rintro σ H' ⟨hS, y1, y2, y3, y4, y5, y6, y7, y8, y9, y10, y11, y12, rfl⟩
      exact qEnd H'
end
theorem all_mk {l : PySem.W.OpenLaw} {w : World} {K : PySem.W.Frag} {h : Heap} {mg : Str → Option Value} {fa : Addr} (X : K.In h) (G : h.Ns mainGlobals mg) (hfa : mg "law" = some (.ref fa))
    {f_WORDS : Addr} {od_WORDS : Option Addr} {tk0_WORDS tk1_WORDS : Tok} {tn_WORDS : Nat} {ts_WORDS : Array (Option Value)}
    {tk_MOST_LEVELS : Tok}
    {tk_MOST_FIRINGS : Tok}
    {f_wall f_is_integer f_is_word f_is_base f_is_length f_are_levels f_is_tick f_is_period f_check_base f_check_levels f_check_tick f_word_at f_level_and_size f_path f_goes_in_front f_with_timer f_firing_order f_without_repeats f_check_period f_order_of_firing f_standing f_least_due f_after_firing f_law_cell_at f_law_mixed f_law_source f_law_next f_law_base f_law_levels f_law_tick f_law_far f_law_used f_law_word f_law_empty f_law : Addr}
    {od_wall an_wall od_is_integer an_is_integer od_is_word an_is_word od_is_base an_is_base od_is_length an_is_length od_are_levels an_are_levels od_is_tick an_is_tick od_is_period an_is_period od_check_base an_check_base od_check_levels an_check_levels od_check_tick an_check_tick od_word_at an_word_at od_level_and_size an_level_and_size od_path an_path od_goes_in_front an_goes_in_front od_with_timer an_with_timer od_firing_order an_firing_order od_without_repeats an_without_repeats od_check_period an_check_period od_order_of_firing an_order_of_firing od_standing an_standing od_least_due an_least_due od_after_firing an_after_firing od_law_cell_at an_law_cell_at od_law_mixed an_law_mixed od_law_source an_law_source od_law_next an_law_next od_law_base an_law_base od_law_levels an_law_levels od_law_tick an_law_tick od_law_far an_law_far od_law_used an_law_used od_law_word an_law_word od_law_empty an_law_empty od_law an_law : Option Addr}
    {sl_wall sl_is_integer sl_is_word sl_is_base sl_is_length sl_are_levels sl_is_tick sl_is_period sl_check_base sl_check_levels sl_check_tick sl_word_at sl_level_and_size sl_path sl_goes_in_front sl_with_timer sl_firing_order sl_without_repeats sl_check_period sl_order_of_firing sl_standing sl_least_due sl_after_firing sl_law_cell_at sl_law_mixed sl_law_source sl_law_next sl_law_base sl_law_levels sl_law_tick sl_law_far sl_law_used sl_law_word sl_law_empty sl_law : Array (Option Value)}
    {oc_wall kV_wall dc_wall pm_wall cd_wall ct_wall oc_is_integer kV_is_integer dc_is_integer pm_is_integer cd_is_integer ct_is_integer oc_is_word kV_is_word dc_is_word pm_is_word cd_is_word ct_is_word oc_is_base kV_is_base dc_is_base pm_is_base cd_is_base ct_is_base oc_is_length kV_is_length dc_is_length pm_is_length cd_is_length ct_is_length oc_are_levels kV_are_levels dc_are_levels pm_are_levels cd_are_levels ct_are_levels oc_is_tick kV_is_tick dc_is_tick pm_is_tick cd_is_tick ct_is_tick oc_is_period kV_is_period dc_is_period pm_is_period cd_is_period ct_is_period oc_check_base kV_check_base dc_check_base pm_check_base cd_check_base ct_check_base oc_check_levels kV_check_levels dc_check_levels pm_check_levels cd_check_levels ct_check_levels oc_check_tick kV_check_tick dc_check_tick pm_check_tick cd_check_tick ct_check_tick oc_word_at kV_word_at dc_word_at pm_word_at cd_word_at ct_word_at oc_level_and_size kV_level_and_size dc_level_and_size pm_level_and_size cd_level_and_size ct_level_and_size oc_path kV_path dc_path pm_path cd_path ct_path oc_goes_in_front kV_goes_in_front dc_goes_in_front pm_goes_in_front cd_goes_in_front ct_goes_in_front oc_with_timer kV_with_timer dc_with_timer pm_with_timer cd_with_timer ct_with_timer oc_firing_order kV_firing_order dc_firing_order pm_firing_order cd_firing_order ct_firing_order oc_without_repeats kV_without_repeats dc_without_repeats pm_without_repeats cd_without_repeats ct_without_repeats oc_check_period kV_check_period dc_check_period pm_check_period cd_check_period ct_check_period oc_order_of_firing kV_order_of_firing dc_order_of_firing pm_order_of_firing cd_order_of_firing ct_order_of_firing oc_standing kV_standing dc_standing pm_standing cd_standing ct_standing oc_least_due kV_least_due dc_least_due pm_least_due cd_least_due ct_least_due oc_after_firing kV_after_firing dc_after_firing pm_after_firing cd_after_firing ct_after_firing oc_law_cell_at kV_law_cell_at dc_law_cell_at pm_law_cell_at cd_law_cell_at ct_law_cell_at oc_law_mixed kV_law_mixed dc_law_mixed pm_law_mixed cd_law_mixed ct_law_mixed oc_law_source kV_law_source dc_law_source pm_law_source cd_law_source ct_law_source oc_law_next kV_law_next dc_law_next pm_law_next cd_law_next ct_law_next oc_law_base kV_law_base dc_law_base pm_law_base cd_law_base ct_law_base oc_law_levels kV_law_levels dc_law_levels pm_law_levels cd_law_levels ct_law_levels oc_law_tick kV_law_tick dc_law_tick pm_law_tick cd_law_tick ct_law_tick oc_law_far kV_law_far dc_law_far pm_law_far cd_law_far ct_law_far oc_law_used kV_law_used dc_law_used pm_law_used cd_law_used ct_law_used oc_law_word kV_law_word dc_law_word pm_law_word cd_law_word ct_law_word oc_law_empty kV_law_empty dc_law_empty pm_law_empty cd_law_empty ct_law_empty oc_law kV_law dc_law pm_law cd_law ct_law : Value}
    {C_ : Addr}
    {f_m_init f_m_check_timer f_m_now f_m_put f_m_cancel f_m_reset f_m_due f_m_timers f_m_advance f_m_next_event f_m_next_firing f_m_moves_until f_m_lists : Addr}
    {od_m_init an_m_init od_m_check_timer an_m_check_timer od_m_now an_m_now od_m_put an_m_put od_m_cancel an_m_cancel od_m_reset an_m_reset od_m_due an_m_due od_m_timers an_m_timers od_m_advance an_m_advance od_m_next_event an_m_next_event od_m_next_firing an_m_next_firing od_m_moves_until an_m_moves_until od_m_lists an_m_lists : Option Addr}
    {sl_m_init sl_m_check_timer sl_m_now sl_m_put sl_m_cancel sl_m_reset sl_m_due sl_m_timers sl_m_advance sl_m_next_event sl_m_next_firing sl_m_moves_until sl_m_lists : Array (Option Value)}
    {oc_m_init dc_m_init pm_m_init cd_m_init ct_m_init oc_m_check_timer dc_m_check_timer pm_m_check_timer cd_m_check_timer ct_m_check_timer kV_m_check_timer oc_m_now dc_m_now pm_m_now cd_m_now ct_m_now kV_m_now oc_m_put dc_m_put pm_m_put cd_m_put ct_m_put oc_m_cancel dc_m_cancel pm_m_cancel cd_m_cancel ct_m_cancel kV_m_cancel oc_m_reset dc_m_reset pm_m_reset cd_m_reset ct_m_reset kV_m_reset oc_m_due dc_m_due pm_m_due cd_m_due ct_m_due kV_m_due oc_m_timers dc_m_timers pm_m_timers cd_m_timers ct_m_timers kV_m_timers oc_m_advance dc_m_advance pm_m_advance cd_m_advance ct_m_advance kV_m_advance oc_m_next_event dc_m_next_event pm_m_next_event cd_m_next_event ct_m_next_event kV_m_next_event oc_m_next_firing dc_m_next_firing pm_m_next_firing cd_m_next_firing ct_m_next_firing kV_m_next_firing oc_m_moves_until dc_m_moves_until pm_m_moves_until cd_m_moves_until ct_m_moves_until kV_m_moves_until oc_m_lists dc_m_lists pm_m_lists cd_m_lists ct_m_lists kV_m_lists : Value}
    {kD_m_init : Addr} {kt_m_init : Tok}
    {kD_m_put : Addr}
    {c_NoTick c_TimerError c_NoBase c_NoLevels c_NoOrder c_NoPeriod c_NoRow c_NoSighting c_NoSnapshot c_NoTimer c_TooMany : Addr}
    {dT_is_tick : Addr} {tc_is_tick : Value} {td_is_tick : Option Addr} {tt_is_tick : Tok} {tn_is_tick : Nat} {ts_is_tick : Array (Option Value)}
    {dT_check_tick : Addr} {tc_check_tick : Value} {td_check_tick : Option Addr} {tt_check_tick : Tok} {tn_check_tick : Nat} {ts_check_tick : Array (Option Value)}
    (a_wall : PySem.W.nsIn K mainGlobals "_wall" = some (some (.ref f_wall)))
    (l_wall : K.lookup f_wall = some ⟨oc_wall, od_wall, .func (PySem.W.fnOf "_wall" "_wall" (defArgs s__wall) (defBody s__wall) (defScope s__wall) .none kV_wall dc_wall pm_wall an_wall cd_wall ct_wall), sl_wall⟩)
    (c_wall : PySem.W.codeIn K cd_wall "_wall" = true) (k_wall : PySem.W.keepIn K (.ref f_wall) = true)
    (a_is_integer : PySem.W.nsIn K mainGlobals "is_integer" = some (some (.ref f_is_integer)))
    (l_is_integer : K.lookup f_is_integer = some ⟨oc_is_integer, od_is_integer, .func (PySem.W.fnOf "is_integer" "is_integer" (defArgs s_is_integer) (defBody s_is_integer) (defScope s_is_integer) .none kV_is_integer dc_is_integer pm_is_integer an_is_integer cd_is_integer ct_is_integer), sl_is_integer⟩)
    (c_is_integer : PySem.W.codeIn K cd_is_integer "is_integer" = true) (k_is_integer : PySem.W.keepIn K (.ref f_is_integer) = true)
    (a_is_word : PySem.W.nsIn K mainGlobals "is_word" = some (some (.ref f_is_word)))
    (l_is_word : K.lookup f_is_word = some ⟨oc_is_word, od_is_word, .func (PySem.W.fnOf "is_word" "is_word" (defArgs s_is_word) (defBody s_is_word) (defScope s_is_word) .none kV_is_word dc_is_word pm_is_word an_is_word cd_is_word ct_is_word), sl_is_word⟩)
    (c_is_word : PySem.W.codeIn K cd_is_word "is_word" = true) (k_is_word : PySem.W.keepIn K (.ref f_is_word) = true)
    (a_is_base : PySem.W.nsIn K mainGlobals "is_base" = some (some (.ref f_is_base)))
    (l_is_base : K.lookup f_is_base = some ⟨oc_is_base, od_is_base, .func (PySem.W.fnOf "is_base" "is_base" (defArgs s_is_base) (defBody s_is_base) (defScope s_is_base) .none kV_is_base dc_is_base pm_is_base an_is_base cd_is_base ct_is_base), sl_is_base⟩)
    (c_is_base : PySem.W.codeIn K cd_is_base "is_base" = true) (k_is_base : PySem.W.keepIn K (.ref f_is_base) = true)
    (a_is_length : PySem.W.nsIn K mainGlobals "is_length" = some (some (.ref f_is_length)))
    (l_is_length : K.lookup f_is_length = some ⟨oc_is_length, od_is_length, .func (PySem.W.fnOf "is_length" "is_length" (defArgs s_is_length) (defBody s_is_length) (defScope s_is_length) .none kV_is_length dc_is_length pm_is_length an_is_length cd_is_length ct_is_length), sl_is_length⟩)
    (c_is_length : PySem.W.codeIn K cd_is_length "is_length" = true) (k_is_length : PySem.W.keepIn K (.ref f_is_length) = true)
    (a_are_levels : PySem.W.nsIn K mainGlobals "are_levels" = some (some (.ref f_are_levels)))
    (l_are_levels : K.lookup f_are_levels = some ⟨oc_are_levels, od_are_levels, .func (PySem.W.fnOf "are_levels" "are_levels" (defArgs s_are_levels) (defBody s_are_levels) (defScope s_are_levels) .none kV_are_levels dc_are_levels pm_are_levels an_are_levels cd_are_levels ct_are_levels), sl_are_levels⟩)
    (c_are_levels : PySem.W.codeIn K cd_are_levels "are_levels" = true) (k_are_levels : PySem.W.keepIn K (.ref f_are_levels) = true)
    (a_is_tick : PySem.W.nsIn K mainGlobals "is_tick" = some (some (.ref f_is_tick)))
    (l_is_tick : K.lookup f_is_tick = some ⟨oc_is_tick, od_is_tick, .func (PySem.W.fnOf "is_tick" "is_tick" (defArgs s_is_tick) (defBody s_is_tick) (defScope s_is_tick) (.ref dT_is_tick) kV_is_tick dc_is_tick pm_is_tick an_is_tick cd_is_tick ct_is_tick), sl_is_tick⟩)
    (t_is_tick : K.lookup dT_is_tick = some ⟨tc_is_tick, td_is_tick, .seq #[.int 0 tt_is_tick] tn_is_tick, ts_is_tick⟩)
    (c_is_tick : PySem.W.codeIn K cd_is_tick "is_tick" = true) (k_is_tick : PySem.W.keepIn K (.ref f_is_tick) = true)
    (a_is_period : PySem.W.nsIn K mainGlobals "is_period" = some (some (.ref f_is_period)))
    (l_is_period : K.lookup f_is_period = some ⟨oc_is_period, od_is_period, .func (PySem.W.fnOf "is_period" "is_period" (defArgs s_is_period) (defBody s_is_period) (defScope s_is_period) .none kV_is_period dc_is_period pm_is_period an_is_period cd_is_period ct_is_period), sl_is_period⟩)
    (c_is_period : PySem.W.codeIn K cd_is_period "is_period" = true) (k_is_period : PySem.W.keepIn K (.ref f_is_period) = true)
    (a_check_base : PySem.W.nsIn K mainGlobals "check_base" = some (some (.ref f_check_base)))
    (l_check_base : K.lookup f_check_base = some ⟨oc_check_base, od_check_base, .func (PySem.W.fnOf "check_base" "check_base" (defArgs s_check_base) (defBody s_check_base) (defScope s_check_base) .none kV_check_base dc_check_base pm_check_base an_check_base cd_check_base ct_check_base), sl_check_base⟩)
    (c_check_base : PySem.W.codeIn K cd_check_base "check_base" = true) (k_check_base : PySem.W.keepIn K (.ref f_check_base) = true)
    (a_check_levels : PySem.W.nsIn K mainGlobals "check_levels" = some (some (.ref f_check_levels)))
    (l_check_levels : K.lookup f_check_levels = some ⟨oc_check_levels, od_check_levels, .func (PySem.W.fnOf "check_levels" "check_levels" (defArgs s_check_levels) (defBody s_check_levels) (defScope s_check_levels) .none kV_check_levels dc_check_levels pm_check_levels an_check_levels cd_check_levels ct_check_levels), sl_check_levels⟩)
    (c_check_levels : PySem.W.codeIn K cd_check_levels "check_levels" = true) (k_check_levels : PySem.W.keepIn K (.ref f_check_levels) = true)
    (a_check_tick : PySem.W.nsIn K mainGlobals "check_tick" = some (some (.ref f_check_tick)))
    (l_check_tick : K.lookup f_check_tick = some ⟨oc_check_tick, od_check_tick, .func (PySem.W.fnOf "check_tick" "check_tick" (defArgs s_check_tick) (defBody s_check_tick) (defScope s_check_tick) (.ref dT_check_tick) kV_check_tick dc_check_tick pm_check_tick an_check_tick cd_check_tick ct_check_tick), sl_check_tick⟩)
    (t_check_tick : K.lookup dT_check_tick = some ⟨tc_check_tick, td_check_tick, .seq #[.int 0 tt_check_tick] tn_check_tick, ts_check_tick⟩)
    (c_check_tick : PySem.W.codeIn K cd_check_tick "check_tick" = true) (k_check_tick : PySem.W.keepIn K (.ref f_check_tick) = true)
    (a_word_at : PySem.W.nsIn K mainGlobals "word_at" = some (some (.ref f_word_at)))
    (l_word_at : K.lookup f_word_at = some ⟨oc_word_at, od_word_at, .func (PySem.W.fnOf "word_at" "word_at" (defArgs s_word_at) (defBody s_word_at) (defScope s_word_at) .none kV_word_at dc_word_at pm_word_at an_word_at cd_word_at ct_word_at), sl_word_at⟩)
    (c_word_at : PySem.W.codeIn K cd_word_at "word_at" = true) (k_word_at : PySem.W.keepIn K (.ref f_word_at) = true)
    (a_level_and_size : PySem.W.nsIn K mainGlobals "level_and_size" = some (some (.ref f_level_and_size)))
    (l_level_and_size : K.lookup f_level_and_size = some ⟨oc_level_and_size, od_level_and_size, .func (PySem.W.fnOf "level_and_size" "level_and_size" (defArgs s_level_and_size) (defBody s_level_and_size) (defScope s_level_and_size) .none kV_level_and_size dc_level_and_size pm_level_and_size an_level_and_size cd_level_and_size ct_level_and_size), sl_level_and_size⟩)
    (c_level_and_size : PySem.W.codeIn K cd_level_and_size "level_and_size" = true) (k_level_and_size : PySem.W.keepIn K (.ref f_level_and_size) = true)
    (a_path : PySem.W.nsIn K mainGlobals "path" = some (some (.ref f_path)))
    (l_path : K.lookup f_path = some ⟨oc_path, od_path, .func (PySem.W.fnOf "path" "path" (defArgs s_path) (defBody s_path) (defScope s_path) .none kV_path dc_path pm_path an_path cd_path ct_path), sl_path⟩)
    (c_path : PySem.W.codeIn K cd_path "path" = true) (k_path : PySem.W.keepIn K (.ref f_path) = true)
    (a_goes_in_front : PySem.W.nsIn K mainGlobals "goes_in_front" = some (some (.ref f_goes_in_front)))
    (l_goes_in_front : K.lookup f_goes_in_front = some ⟨oc_goes_in_front, od_goes_in_front, .func (PySem.W.fnOf "goes_in_front" "goes_in_front" (defArgs s_goes_in_front) (defBody s_goes_in_front) (defScope s_goes_in_front) .none kV_goes_in_front dc_goes_in_front pm_goes_in_front an_goes_in_front cd_goes_in_front ct_goes_in_front), sl_goes_in_front⟩)
    (c_goes_in_front : PySem.W.codeIn K cd_goes_in_front "goes_in_front" = true) (k_goes_in_front : PySem.W.keepIn K (.ref f_goes_in_front) = true)
    (a_with_timer : PySem.W.nsIn K mainGlobals "with_timer" = some (some (.ref f_with_timer)))
    (l_with_timer : K.lookup f_with_timer = some ⟨oc_with_timer, od_with_timer, .func (PySem.W.fnOf "with_timer" "with_timer" (defArgs s_with_timer) (defBody s_with_timer) (defScope s_with_timer) .none kV_with_timer dc_with_timer pm_with_timer an_with_timer cd_with_timer ct_with_timer), sl_with_timer⟩)
    (c_with_timer : PySem.W.codeIn K cd_with_timer "with_timer" = true) (k_with_timer : PySem.W.keepIn K (.ref f_with_timer) = true)
    (a_firing_order : PySem.W.nsIn K mainGlobals "firing_order" = some (some (.ref f_firing_order)))
    (l_firing_order : K.lookup f_firing_order = some ⟨oc_firing_order, od_firing_order, .func (PySem.W.fnOf "firing_order" "firing_order" (defArgs s_firing_order) (defBody s_firing_order) (defScope s_firing_order) .none kV_firing_order dc_firing_order pm_firing_order an_firing_order cd_firing_order ct_firing_order), sl_firing_order⟩)
    (c_firing_order : PySem.W.codeIn K cd_firing_order "firing_order" = true) (k_firing_order : PySem.W.keepIn K (.ref f_firing_order) = true)
    (a_without_repeats : PySem.W.nsIn K mainGlobals "without_repeats" = some (some (.ref f_without_repeats)))
    (l_without_repeats : K.lookup f_without_repeats = some ⟨oc_without_repeats, od_without_repeats, .func (PySem.W.fnOf "without_repeats" "without_repeats" (defArgs s_without_repeats) (defBody s_without_repeats) (defScope s_without_repeats) .none kV_without_repeats dc_without_repeats pm_without_repeats an_without_repeats cd_without_repeats ct_without_repeats), sl_without_repeats⟩)
    (c_without_repeats : PySem.W.codeIn K cd_without_repeats "without_repeats" = true) (k_without_repeats : PySem.W.keepIn K (.ref f_without_repeats) = true)
    (a_check_period : PySem.W.nsIn K mainGlobals "check_period" = some (some (.ref f_check_period)))
    (l_check_period : K.lookup f_check_period = some ⟨oc_check_period, od_check_period, .func (PySem.W.fnOf "check_period" "check_period" (defArgs s_check_period) (defBody s_check_period) (defScope s_check_period) .none kV_check_period dc_check_period pm_check_period an_check_period cd_check_period ct_check_period), sl_check_period⟩)
    (c_check_period : PySem.W.codeIn K cd_check_period "check_period" = true) (k_check_period : PySem.W.keepIn K (.ref f_check_period) = true)
    (a_order_of_firing : PySem.W.nsIn K mainGlobals "order_of_firing" = some (some (.ref f_order_of_firing)))
    (l_order_of_firing : K.lookup f_order_of_firing = some ⟨oc_order_of_firing, od_order_of_firing, .func (PySem.W.fnOf "order_of_firing" "order_of_firing" (defArgs s_order_of_firing) (defBody s_order_of_firing) (defScope s_order_of_firing) .none kV_order_of_firing dc_order_of_firing pm_order_of_firing an_order_of_firing cd_order_of_firing ct_order_of_firing), sl_order_of_firing⟩)
    (c_order_of_firing : PySem.W.codeIn K cd_order_of_firing "order_of_firing" = true) (k_order_of_firing : PySem.W.keepIn K (.ref f_order_of_firing) = true)
    (a_standing : PySem.W.nsIn K mainGlobals "standing" = some (some (.ref f_standing)))
    (l_standing : K.lookup f_standing = some ⟨oc_standing, od_standing, .func (PySem.W.fnOf "standing" "standing" (defArgs s_standing) (defBody s_standing) (defScope s_standing) .none kV_standing dc_standing pm_standing an_standing cd_standing ct_standing), sl_standing⟩)
    (c_standing : PySem.W.codeIn K cd_standing "standing" = true) (k_standing : PySem.W.keepIn K (.ref f_standing) = true)
    (a_least_due : PySem.W.nsIn K mainGlobals "least_due" = some (some (.ref f_least_due)))
    (l_least_due : K.lookup f_least_due = some ⟨oc_least_due, od_least_due, .func (PySem.W.fnOf "least_due" "least_due" (defArgs s_least_due) (defBody s_least_due) (defScope s_least_due) .none kV_least_due dc_least_due pm_least_due an_least_due cd_least_due ct_least_due), sl_least_due⟩)
    (c_least_due : PySem.W.codeIn K cd_least_due "least_due" = true) (k_least_due : PySem.W.keepIn K (.ref f_least_due) = true)
    (a_after_firing : PySem.W.nsIn K mainGlobals "after_firing" = some (some (.ref f_after_firing)))
    (l_after_firing : K.lookup f_after_firing = some ⟨oc_after_firing, od_after_firing, .func (PySem.W.fnOf "after_firing" "after_firing" (defArgs s_after_firing) (defBody s_after_firing) (defScope s_after_firing) .none kV_after_firing dc_after_firing pm_after_firing an_after_firing cd_after_firing ct_after_firing), sl_after_firing⟩)
    (c_after_firing : PySem.W.codeIn K cd_after_firing "after_firing" = true) (k_after_firing : PySem.W.keepIn K (.ref f_after_firing) = true)
    (a_law_cell_at : PySem.W.nsIn K mainGlobals "_law_cell_at" = some (some (.ref f_law_cell_at)))
    (l_law_cell_at : K.lookup f_law_cell_at = some ⟨oc_law_cell_at, od_law_cell_at, .func (PySem.W.fnOf "_law_cell_at" "_law_cell_at" (defArgs s__law_cell_at) (defBody s__law_cell_at) (defScope s__law_cell_at) .none kV_law_cell_at dc_law_cell_at pm_law_cell_at an_law_cell_at cd_law_cell_at ct_law_cell_at), sl_law_cell_at⟩)
    (c_law_cell_at : PySem.W.codeIn K cd_law_cell_at "_law_cell_at" = true) (k_law_cell_at : PySem.W.keepIn K (.ref f_law_cell_at) = true)
    (a_law_mixed : PySem.W.nsIn K mainGlobals "_law_mixed" = some (some (.ref f_law_mixed)))
    (l_law_mixed : K.lookup f_law_mixed = some ⟨oc_law_mixed, od_law_mixed, .func (PySem.W.fnOf "_law_mixed" "_law_mixed" (defArgs s__law_mixed) (defBody s__law_mixed) (defScope s__law_mixed) .none kV_law_mixed dc_law_mixed pm_law_mixed an_law_mixed cd_law_mixed ct_law_mixed), sl_law_mixed⟩)
    (c_law_mixed : PySem.W.codeIn K cd_law_mixed "_law_mixed" = true) (k_law_mixed : PySem.W.keepIn K (.ref f_law_mixed) = true)
    (a_law_source : PySem.W.nsIn K mainGlobals "_law_source" = some (some (.ref f_law_source)))
    (l_law_source : K.lookup f_law_source = some ⟨oc_law_source, od_law_source, .func (PySem.W.fnOf "_law_source" "_law_source" (defArgs s__law_source) (defBody s__law_source) (defScope s__law_source) .none kV_law_source dc_law_source pm_law_source an_law_source cd_law_source ct_law_source), sl_law_source⟩)
    (c_law_source : PySem.W.codeIn K cd_law_source "_law_source" = true) (k_law_source : PySem.W.keepIn K (.ref f_law_source) = true)
    (a_law_next : PySem.W.nsIn K mainGlobals "_law_next" = some (some (.ref f_law_next)))
    (l_law_next : K.lookup f_law_next = some ⟨oc_law_next, od_law_next, .func (PySem.W.fnOf "_law_next" "_law_next" (defArgs s__law_next) (defBody s__law_next) (defScope s__law_next) .none kV_law_next dc_law_next pm_law_next an_law_next cd_law_next ct_law_next), sl_law_next⟩)
    (c_law_next : PySem.W.codeIn K cd_law_next "_law_next" = true) (k_law_next : PySem.W.keepIn K (.ref f_law_next) = true)
    (a_law_base : PySem.W.nsIn K mainGlobals "_law_base" = some (some (.ref f_law_base)))
    (l_law_base : K.lookup f_law_base = some ⟨oc_law_base, od_law_base, .func (PySem.W.fnOf "_law_base" "_law_base" (defArgs s__law_base) (defBody s__law_base) (defScope s__law_base) .none kV_law_base dc_law_base pm_law_base an_law_base cd_law_base ct_law_base), sl_law_base⟩)
    (c_law_base : PySem.W.codeIn K cd_law_base "_law_base" = true) (k_law_base : PySem.W.keepIn K (.ref f_law_base) = true)
    (a_law_levels : PySem.W.nsIn K mainGlobals "_law_levels" = some (some (.ref f_law_levels)))
    (l_law_levels : K.lookup f_law_levels = some ⟨oc_law_levels, od_law_levels, .func (PySem.W.fnOf "_law_levels" "_law_levels" (defArgs s__law_levels) (defBody s__law_levels) (defScope s__law_levels) .none kV_law_levels dc_law_levels pm_law_levels an_law_levels cd_law_levels ct_law_levels), sl_law_levels⟩)
    (c_law_levels : PySem.W.codeIn K cd_law_levels "_law_levels" = true) (k_law_levels : PySem.W.keepIn K (.ref f_law_levels) = true)
    (a_law_tick : PySem.W.nsIn K mainGlobals "_law_tick" = some (some (.ref f_law_tick)))
    (l_law_tick : K.lookup f_law_tick = some ⟨oc_law_tick, od_law_tick, .func (PySem.W.fnOf "_law_tick" "_law_tick" (defArgs s__law_tick) (defBody s__law_tick) (defScope s__law_tick) .none kV_law_tick dc_law_tick pm_law_tick an_law_tick cd_law_tick ct_law_tick), sl_law_tick⟩)
    (c_law_tick : PySem.W.codeIn K cd_law_tick "_law_tick" = true) (k_law_tick : PySem.W.keepIn K (.ref f_law_tick) = true)
    (a_law_far : PySem.W.nsIn K mainGlobals "_law_far" = some (some (.ref f_law_far)))
    (l_law_far : K.lookup f_law_far = some ⟨oc_law_far, od_law_far, .func (PySem.W.fnOf "_law_far" "_law_far" (defArgs s__law_far) (defBody s__law_far) (defScope s__law_far) .none kV_law_far dc_law_far pm_law_far an_law_far cd_law_far ct_law_far), sl_law_far⟩)
    (c_law_far : PySem.W.codeIn K cd_law_far "_law_far" = true) (k_law_far : PySem.W.keepIn K (.ref f_law_far) = true)
    (a_law_used : PySem.W.nsIn K mainGlobals "_law_used" = some (some (.ref f_law_used)))
    (l_law_used : K.lookup f_law_used = some ⟨oc_law_used, od_law_used, .func (PySem.W.fnOf "_law_used" "_law_used" (defArgs s__law_used) (defBody s__law_used) (defScope s__law_used) .none kV_law_used dc_law_used pm_law_used an_law_used cd_law_used ct_law_used), sl_law_used⟩)
    (c_law_used : PySem.W.codeIn K cd_law_used "_law_used" = true) (k_law_used : PySem.W.keepIn K (.ref f_law_used) = true)
    (a_law_word : PySem.W.nsIn K mainGlobals "_law_word" = some (some (.ref f_law_word)))
    (l_law_word : K.lookup f_law_word = some ⟨oc_law_word, od_law_word, .func (PySem.W.fnOf "_law_word" "_law_word" (defArgs s__law_word) (defBody s__law_word) (defScope s__law_word) .none kV_law_word dc_law_word pm_law_word an_law_word cd_law_word ct_law_word), sl_law_word⟩)
    (c_law_word : PySem.W.codeIn K cd_law_word "_law_word" = true) (k_law_word : PySem.W.keepIn K (.ref f_law_word) = true)
    (a_law_empty : PySem.W.nsIn K mainGlobals "_law_empty" = some (some (.ref f_law_empty)))
    (l_law_empty : K.lookup f_law_empty = some ⟨oc_law_empty, od_law_empty, .func (PySem.W.fnOf "_law_empty" "_law_empty" (defArgs s__law_empty) (defBody s__law_empty) (defScope s__law_empty) .none kV_law_empty dc_law_empty pm_law_empty an_law_empty cd_law_empty ct_law_empty), sl_law_empty⟩)
    (c_law_empty : PySem.W.codeIn K cd_law_empty "_law_empty" = true) (k_law_empty : PySem.W.keepIn K (.ref f_law_empty) = true)
    (a_law : PySem.W.nsIn K mainGlobals "law" = some (some (.ref f_law)))
    (l_law : K.lookup f_law = some ⟨oc_law, od_law, .func (PySem.W.fnOf "law" "law" (defArgs s_law) (defBody s_law) (defScope s_law) .none kV_law dc_law pm_law an_law cd_law ct_law), sl_law⟩)
    (c_law : PySem.W.codeIn K cd_law "law" = true) (k_law : PySem.W.keepIn K (.ref f_law) = true)
    (a_Wheel : PySem.W.nsIn K mainGlobals "Wheel" = some (some (.ref C_)))
    (a_m_init : PySem.W.findIn K (.ref C_) "__init__" = some (some (.ref f_m_init))) (i_m_init : PySem.W.isFn K (.ref f_m_init) = true)
    (l_m_init : K.lookup f_m_init = some ⟨oc_m_init, od_m_init, .func (PySem.W.fnOf "__init__" "Wheel.__init__" (defArgs s_Wheel___init__) (defBody s_Wheel___init__) (defScope s_Wheel___init__) .none (.ref kD_m_init) dc_m_init pm_m_init an_m_init cd_m_init ct_m_init), sl_m_init⟩)
    (c_m_init : PySem.W.codeIn K cd_m_init "Wheel.__init__" = true) (k_m_init : PySem.W.keepIn K (.ref f_m_init) = true)
    (d_m_init : PySem.W.nsIn K kD_m_init "start" = some (some (.int 0 kt_m_init)))
    (a_m_check_timer : PySem.W.findIn K (.ref C_) "check_timer" = some (some (.ref f_m_check_timer))) (i_m_check_timer : PySem.W.isFn K (.ref f_m_check_timer) = true)
    (l_m_check_timer : K.lookup f_m_check_timer = some ⟨oc_m_check_timer, od_m_check_timer, .func (PySem.W.fnOf "check_timer" "Wheel.check_timer" (defArgs s_Wheel_check_timer) (defBody s_Wheel_check_timer) (defScope s_Wheel_check_timer) .none kV_m_check_timer dc_m_check_timer pm_m_check_timer an_m_check_timer cd_m_check_timer ct_m_check_timer), sl_m_check_timer⟩)
    (c_m_check_timer : PySem.W.codeIn K cd_m_check_timer "Wheel.check_timer" = true) (k_m_check_timer : PySem.W.keepIn K (.ref f_m_check_timer) = true)
    (a_m_now : PySem.W.findIn K (.ref C_) "now" = some (some (.ref f_m_now))) (i_m_now : PySem.W.isFn K (.ref f_m_now) = true)
    (l_m_now : K.lookup f_m_now = some ⟨oc_m_now, od_m_now, .func (PySem.W.fnOf "now" "Wheel.now" (defArgs s_Wheel_now) (defBody s_Wheel_now) (defScope s_Wheel_now) .none kV_m_now dc_m_now pm_m_now an_m_now cd_m_now ct_m_now), sl_m_now⟩)
    (c_m_now : PySem.W.codeIn K cd_m_now "Wheel.now" = true) (k_m_now : PySem.W.keepIn K (.ref f_m_now) = true)
    (a_m_put : PySem.W.findIn K (.ref C_) "put" = some (some (.ref f_m_put))) (i_m_put : PySem.W.isFn K (.ref f_m_put) = true)
    (l_m_put : K.lookup f_m_put = some ⟨oc_m_put, od_m_put, .func (PySem.W.fnOf "put" "Wheel.put" (defArgs s_Wheel_put) (defBody s_Wheel_put) (defScope s_Wheel_put) .none (.ref kD_m_put) dc_m_put pm_m_put an_m_put cd_m_put ct_m_put), sl_m_put⟩)
    (c_m_put : PySem.W.codeIn K cd_m_put "Wheel.put" = true) (k_m_put : PySem.W.keepIn K (.ref f_m_put) = true)
    (d_m_put : PySem.W.nsIn K kD_m_put "period" = some (some .none))
    (a_m_cancel : PySem.W.findIn K (.ref C_) "cancel" = some (some (.ref f_m_cancel))) (i_m_cancel : PySem.W.isFn K (.ref f_m_cancel) = true)
    (l_m_cancel : K.lookup f_m_cancel = some ⟨oc_m_cancel, od_m_cancel, .func (PySem.W.fnOf "cancel" "Wheel.cancel" (defArgs s_Wheel_cancel) (defBody s_Wheel_cancel) (defScope s_Wheel_cancel) .none kV_m_cancel dc_m_cancel pm_m_cancel an_m_cancel cd_m_cancel ct_m_cancel), sl_m_cancel⟩)
    (c_m_cancel : PySem.W.codeIn K cd_m_cancel "Wheel.cancel" = true) (k_m_cancel : PySem.W.keepIn K (.ref f_m_cancel) = true)
    (a_m_reset : PySem.W.findIn K (.ref C_) "reset" = some (some (.ref f_m_reset))) (i_m_reset : PySem.W.isFn K (.ref f_m_reset) = true)
    (l_m_reset : K.lookup f_m_reset = some ⟨oc_m_reset, od_m_reset, .func (PySem.W.fnOf "reset" "Wheel.reset" (defArgs s_Wheel_reset) (defBody s_Wheel_reset) (defScope s_Wheel_reset) .none kV_m_reset dc_m_reset pm_m_reset an_m_reset cd_m_reset ct_m_reset), sl_m_reset⟩)
    (c_m_reset : PySem.W.codeIn K cd_m_reset "Wheel.reset" = true) (k_m_reset : PySem.W.keepIn K (.ref f_m_reset) = true)
    (a_m_due : PySem.W.findIn K (.ref C_) "due" = some (some (.ref f_m_due))) (i_m_due : PySem.W.isFn K (.ref f_m_due) = true)
    (l_m_due : K.lookup f_m_due = some ⟨oc_m_due, od_m_due, .func (PySem.W.fnOf "due" "Wheel.due" (defArgs s_Wheel_due) (defBody s_Wheel_due) (defScope s_Wheel_due) .none kV_m_due dc_m_due pm_m_due an_m_due cd_m_due ct_m_due), sl_m_due⟩)
    (c_m_due : PySem.W.codeIn K cd_m_due "Wheel.due" = true) (k_m_due : PySem.W.keepIn K (.ref f_m_due) = true)
    (a_m_timers : PySem.W.findIn K (.ref C_) "timers" = some (some (.ref f_m_timers))) (i_m_timers : PySem.W.isFn K (.ref f_m_timers) = true)
    (l_m_timers : K.lookup f_m_timers = some ⟨oc_m_timers, od_m_timers, .func (PySem.W.fnOf "timers" "Wheel.timers" (defArgs s_Wheel_timers) (defBody s_Wheel_timers) (defScope s_Wheel_timers) .none kV_m_timers dc_m_timers pm_m_timers an_m_timers cd_m_timers ct_m_timers), sl_m_timers⟩)
    (c_m_timers : PySem.W.codeIn K cd_m_timers "Wheel.timers" = true) (k_m_timers : PySem.W.keepIn K (.ref f_m_timers) = true)
    (a_m_advance : PySem.W.findIn K (.ref C_) "advance" = some (some (.ref f_m_advance))) (i_m_advance : PySem.W.isFn K (.ref f_m_advance) = true)
    (l_m_advance : K.lookup f_m_advance = some ⟨oc_m_advance, od_m_advance, .func (PySem.W.fnOf "advance" "Wheel.advance" (defArgs s_Wheel_advance) (defBody s_Wheel_advance) (defScope s_Wheel_advance) .none kV_m_advance dc_m_advance pm_m_advance an_m_advance cd_m_advance ct_m_advance), sl_m_advance⟩)
    (c_m_advance : PySem.W.codeIn K cd_m_advance "Wheel.advance" = true) (k_m_advance : PySem.W.keepIn K (.ref f_m_advance) = true)
    (a_m_next_event : PySem.W.findIn K (.ref C_) "next_event" = some (some (.ref f_m_next_event))) (i_m_next_event : PySem.W.isFn K (.ref f_m_next_event) = true)
    (l_m_next_event : K.lookup f_m_next_event = some ⟨oc_m_next_event, od_m_next_event, .func (PySem.W.fnOf "next_event" "Wheel.next_event" (defArgs s_Wheel_next_event) (defBody s_Wheel_next_event) (defScope s_Wheel_next_event) .none kV_m_next_event dc_m_next_event pm_m_next_event an_m_next_event cd_m_next_event ct_m_next_event), sl_m_next_event⟩)
    (c_m_next_event : PySem.W.codeIn K cd_m_next_event "Wheel.next_event" = true) (k_m_next_event : PySem.W.keepIn K (.ref f_m_next_event) = true)
    (a_m_next_firing : PySem.W.findIn K (.ref C_) "next_firing" = some (some (.ref f_m_next_firing))) (i_m_next_firing : PySem.W.isFn K (.ref f_m_next_firing) = true)
    (l_m_next_firing : K.lookup f_m_next_firing = some ⟨oc_m_next_firing, od_m_next_firing, .func (PySem.W.fnOf "next_firing" "Wheel.next_firing" (defArgs s_Wheel_next_firing) (defBody s_Wheel_next_firing) (defScope s_Wheel_next_firing) .none kV_m_next_firing dc_m_next_firing pm_m_next_firing an_m_next_firing cd_m_next_firing ct_m_next_firing), sl_m_next_firing⟩)
    (c_m_next_firing : PySem.W.codeIn K cd_m_next_firing "Wheel.next_firing" = true) (k_m_next_firing : PySem.W.keepIn K (.ref f_m_next_firing) = true)
    (a_m_moves_until : PySem.W.findIn K (.ref C_) "moves_until" = some (some (.ref f_m_moves_until))) (i_m_moves_until : PySem.W.isFn K (.ref f_m_moves_until) = true)
    (l_m_moves_until : K.lookup f_m_moves_until = some ⟨oc_m_moves_until, od_m_moves_until, .func (PySem.W.fnOf "moves_until" "Wheel.moves_until" (defArgs s_Wheel_moves_until) (defBody s_Wheel_moves_until) (defScope s_Wheel_moves_until) .none kV_m_moves_until dc_m_moves_until pm_m_moves_until an_m_moves_until cd_m_moves_until ct_m_moves_until), sl_m_moves_until⟩)
    (c_m_moves_until : PySem.W.codeIn K cd_m_moves_until "Wheel.moves_until" = true) (k_m_moves_until : PySem.W.keepIn K (.ref f_m_moves_until) = true)
    (a_m_lists : PySem.W.findIn K (.ref C_) "lists" = some (some (.ref f_m_lists))) (i_m_lists : PySem.W.isFn K (.ref f_m_lists) = true)
    (l_m_lists : K.lookup f_m_lists = some ⟨oc_m_lists, od_m_lists, .func (PySem.W.fnOf "lists" "Wheel.lists" (defArgs s_Wheel_lists) (defBody s_Wheel_lists) (defScope s_Wheel_lists) .none kV_m_lists dc_m_lists pm_m_lists an_m_lists cd_m_lists ct_m_lists), sl_m_lists⟩)
    (c_m_lists : PySem.W.codeIn K cd_m_lists "Wheel.lists" = true) (k_m_lists : PySem.W.keepIn K (.ref f_m_lists) = true)
    (pg : PySem.W.plainGet K C_ Str.empty = true)
    (hd : PySem.W.hasDictIn K C_ = true)
    (po : PySem.W.plainOver K C_ = true)
    (sa : PySem.W.findIn K (.ref C_) "__setattr__" = some (some (.builtin "object.__setattr__")))
    (mkC : PySem.W.makesIn K C_ = true)
    (kc : PySem.W.keepIn K (.ref C_) = true)
    (n_base : PySem.W.findIn K (.ref C_) "base" = some none)
    (n_words : PySem.W.findIn K (.ref C_) "words" = some none)
    (n_tick : PySem.W.findIn K (.ref C_) "tick" = some none)
    (n_following : PySem.W.findIn K (.ref C_) "following" = some none)
    (n_live : PySem.W.findIn K (.ref C_) "live" = some none)
    (a_NoTick : PySem.W.nsIn K mainGlobals "NoTick" = some (some (.ref c_NoTick)))
    (a_TimerError : PySem.W.nsIn K mainGlobals "TimerError" = some (some (.ref c_TimerError)))
    (a_NoBase : PySem.W.nsIn K mainGlobals "NoBase" = some (some (.ref c_NoBase)))
    (a_NoLevels : PySem.W.nsIn K mainGlobals "NoLevels" = some (some (.ref c_NoLevels)))
    (a_NoOrder : PySem.W.nsIn K mainGlobals "NoOrder" = some (some (.ref c_NoOrder)))
    (a_NoPeriod : PySem.W.nsIn K mainGlobals "NoPeriod" = some (some (.ref c_NoPeriod)))
    (a_NoRow : PySem.W.nsIn K mainGlobals "NoRow" = some (some (.ref c_NoRow)))
    (a_NoSighting : PySem.W.nsIn K mainGlobals "NoSighting" = some (some (.ref c_NoSighting)))
    (a_NoSnapshot : PySem.W.nsIn K mainGlobals "NoSnapshot" = some (some (.ref c_NoSnapshot)))
    (a_NoTimer : PySem.W.nsIn K mainGlobals "NoTimer" = some (some (.ref c_NoTimer)))
    (a_TooMany : PySem.W.nsIn K mainGlobals "TooMany" = some (some (.ref c_TooMany)))
    (x_NoTick : PySem.W.excIn K c_NoTick [.type "ValueError", .type "Exception", .type "BaseException", .type "object"] "ValueError.__new__" = true)
    (kp_NoTick : PySem.W.keepIn K (.ref c_NoTick) = true)
    (bx_NoTick : PySem.W.subIn K (.ref c_NoTick) (.type "BaseException") = some true)
    (tx_NoTick : PySem.W.typeIn K (.ref c_NoTick) = some (.type "type"))
    (ga_NoTick : PySem.W.findIn K (.ref c_NoTick) "__getattribute__" = some (some (.builtin "BaseException.__getattribute__")))
    (gg_NoTick : PySem.W.findIn K (.ref c_NoTick) "__getattr__" = some none)
    (hx_NoTick : PySem.W.hasDictIn K c_NoTick = true)
    (cc_NoTick : PySem.W.findIn K (.ref c_NoTick) "__class__" = some (some (.builtin "object.__class__")))
    (mo_NoTick : PySem.W.mroIn K c_NoTick (.type "object") = some true)
    (ss_NoTick : PySem.W.subIn K (.ref c_NoTick) (.ref c_NoTick) = some true)
    (sp_get : PySem.W.specialIn K (.builtin "object.__class__") "__get__" = some (some (.builtin "getset_descriptor.__get__")))
    (tk_cls : PySem.W.takesIn K (.builtin "object.__class__") = some true)
    (bx_TimerError : PySem.W.subIn K (.ref c_TimerError) (.type "BaseException") = some true)
    (hx_TimerError : PySem.W.hasDictIn K c_TimerError = true)
    (tx_TimerError : PySem.W.typeIn K (.ref c_TimerError) = some (.type "type"))
    (ss_NoTick_TimerError : PySem.W.subIn K (.ref c_NoTick) (.ref c_TimerError) = some true)
    (hx_NoBase : PySem.W.hasDictIn K c_NoBase = true)
    (tx_NoBase : PySem.W.typeIn K (.ref c_NoBase) = some (.type "type"))
    (ss_NoTick_NoBase : PySem.W.subIn K (.ref c_NoTick) (.ref c_NoBase) = some false)
    (hx_NoLevels : PySem.W.hasDictIn K c_NoLevels = true)
    (tx_NoLevels : PySem.W.typeIn K (.ref c_NoLevels) = some (.type "type"))
    (ss_NoTick_NoLevels : PySem.W.subIn K (.ref c_NoTick) (.ref c_NoLevels) = some false)
    (hx_NoOrder : PySem.W.hasDictIn K c_NoOrder = true)
    (tx_NoOrder : PySem.W.typeIn K (.ref c_NoOrder) = some (.type "type"))
    (ss_NoTick_NoOrder : PySem.W.subIn K (.ref c_NoTick) (.ref c_NoOrder) = some false)
    (hx_NoPeriod : PySem.W.hasDictIn K c_NoPeriod = true)
    (tx_NoPeriod : PySem.W.typeIn K (.ref c_NoPeriod) = some (.type "type"))
    (ss_NoTick_NoPeriod : PySem.W.subIn K (.ref c_NoTick) (.ref c_NoPeriod) = some false)
    (hx_NoRow : PySem.W.hasDictIn K c_NoRow = true)
    (tx_NoRow : PySem.W.typeIn K (.ref c_NoRow) = some (.type "type"))
    (ss_NoTick_NoRow : PySem.W.subIn K (.ref c_NoTick) (.ref c_NoRow) = some false)
    (hx_NoSighting : PySem.W.hasDictIn K c_NoSighting = true)
    (tx_NoSighting : PySem.W.typeIn K (.ref c_NoSighting) = some (.type "type"))
    (ss_NoTick_NoSighting : PySem.W.subIn K (.ref c_NoTick) (.ref c_NoSighting) = some false)
    (hx_NoSnapshot : PySem.W.hasDictIn K c_NoSnapshot = true)
    (tx_NoSnapshot : PySem.W.typeIn K (.ref c_NoSnapshot) = some (.type "type"))
    (ss_NoTick_NoSnapshot : PySem.W.subIn K (.ref c_NoTick) (.ref c_NoSnapshot) = some false)
    (hx_NoTimer : PySem.W.hasDictIn K c_NoTimer = true)
    (tx_NoTimer : PySem.W.typeIn K (.ref c_NoTimer) = some (.type "type"))
    (ss_NoTick_NoTimer : PySem.W.subIn K (.ref c_NoTick) (.ref c_NoTimer) = some false)
    (hx_TooMany : PySem.W.hasDictIn K c_TooMany = true)
    (tx_TooMany : PySem.W.typeIn K (.ref c_TooMany) = some (.type "type"))
    (ss_NoTick_TooMany : PySem.W.subIn K (.ref c_NoTick) (.ref c_TooMany) = some false)
    (z_isinstance : PySem.W.nsIn K mainGlobals "isinstance" = some none)
    (z_int : PySem.W.nsIn K mainGlobals "int" = some none)
    (z_bool : PySem.W.nsIn K mainGlobals "bool" = some none)
    (z_str : PySem.W.nsIn K mainGlobals "str" = some none)
    (z_all : PySem.W.nsIn K mainGlobals "all" = some none)
    (z_list : PySem.W.nsIn K mainGlobals "list" = some none)
    (z_len : PySem.W.nsIn K mainGlobals "len" = some none)
    (z_min : PySem.W.nsIn K mainGlobals "min" = some none)
    (z_sorted : PySem.W.nsIn K mainGlobals "sorted" = some none)
    (z_dict : PySem.W.nsIn K mainGlobals "dict" = some none)
    (z_range : PySem.W.nsIn K mainGlobals "range" = some none)
    (z_max : PySem.W.nsIn K mainGlobals "max" = some none)
    (a_WORDS : PySem.W.nsIn K mainGlobals "WORDS" = some (some (.ref f_WORDS)))
    (l_WORDS : K.lookup f_WORDS = some ⟨.type "tuple", od_WORDS, .seq #[.str "stack" tk0_WORDS, .str "queue" tk1_WORDS] tn_WORDS, ts_WORDS⟩)
    (a_MOST_LEVELS : PySem.W.nsIn K mainGlobals "MOST_LEVELS" = some (some (.int 60 tk_MOST_LEVELS)))
    (a_MOST_FIRINGS : PySem.W.nsIn K mainGlobals "MOST_FIRINGS" = some (some (.int 2000 tk_MOST_FIRINGS)))
    : ∃ fd : FuncData, (∀ (s : Shared) (v : Value), BindsTo s fd ⟨[v], []⟩ [("_law_script", v)]) ∧ ∀ base : Heap, K.In base → base.Ns mainGlobals mg → FnOk l.prog w K mg base CX0 8 fa fd ["_law_script"] (spLaw K) := by
  have e := hfa.symm.trans (PySem.W.mg_of X G a_law)
  cases e
  have T : Tx K mg := ⟨PySem.W.mg_none_of X G z_isinstance, PySem.W.mg_none_of X G z_int, PySem.W.mg_none_of X G z_bool, PySem.W.mg_none_of X G z_str, PySem.W.mg_none_of X G z_all, PySem.W.mg_none_of X G z_list, PySem.W.mg_none_of X G z_len, PySem.W.mg_none_of X G z_min, PySem.W.mg_none_of X G z_sorted, PySem.W.mg_none_of X G z_dict, PySem.W.mg_none_of X G z_range, PySem.W.mg_none_of X G z_max⟩
  have h_WORDS : ∃ a, mg "WORDS" = some (.ref a) ∧ ∀ H, SqT K H a [.str "stack", .str "queue"] := ⟨f_WORDS, PySem.W.mg_of X G a_WORDS, fun H => .inr ⟨_, _, _, l_WORDS, rfl, rfl, by simp [sizeLine_eq], .cons ⟨_, rfl⟩ (.cons ⟨_, rfl⟩ (.nil))⟩⟩
  have h_MOST_LEVELS : mg "MOST_LEVELS" = some (.int 60 tk_MOST_LEVELS) := PySem.W.mg_of X G a_MOST_LEVELS
  have h_MOST_FIRINGS : mg "MOST_FIRINGS" = some (.int 2000 tk_MOST_FIRINGS) := PySem.W.mg_of X G a_MOST_FIRINGS
  have D_wall : Df K mg "_wall" s__wall ["k"] := by
    have F := fun_mk (st := s__wall) l_wall c_wall k_wall
    exact ⟨_, _, F, PySem.W.mg_of X G a_wall, F.binds (ps := ["k"]) fun _ _ _ _ _ _ us hl => match us, hl with | [_], _ => rfl⟩
  have D_is_integer : Df K mg "is_integer" s_is_integer ["given"] := by
    have F := fun_mk (st := s_is_integer) l_is_integer c_is_integer k_is_integer
    exact ⟨_, _, F, PySem.W.mg_of X G a_is_integer, F.binds (ps := ["given"]) fun _ _ _ _ _ _ us hl => match us, hl with | [_], _ => rfl⟩
  have D_is_word : Df K mg "is_word" s_is_word ["given"] := by
    have F := fun_mk (st := s_is_word) l_is_word c_is_word k_is_word
    exact ⟨_, _, F, PySem.W.mg_of X G a_is_word, F.binds (ps := ["given"]) fun _ _ _ _ _ _ us hl => match us, hl with | [_], _ => rfl⟩
  have D_is_base : Df K mg "is_base" s_is_base ["given"] := by
    have F := fun_mk (st := s_is_base) l_is_base c_is_base k_is_base
    exact ⟨_, _, F, PySem.W.mg_of X G a_is_base, F.binds (ps := ["given"]) fun _ _ _ _ _ _ us hl => match us, hl with | [_], _ => rfl⟩
  have D_is_length : Df K mg "is_length" s_is_length ["given"] := by
    have F := fun_mk (st := s_is_length) l_is_length c_is_length k_is_length
    exact ⟨_, _, F, PySem.W.mg_of X G a_is_length, F.binds (ps := ["given"]) fun _ _ _ _ _ _ us hl => match us, hl with | [_], _ => rfl⟩
  have D_are_levels : Df K mg "are_levels" s_are_levels ["given"] := by
    have F := fun_mk (st := s_are_levels) l_are_levels c_are_levels k_are_levels
    exact ⟨_, _, F, PySem.W.mg_of X G a_are_levels, F.binds (ps := ["given"]) fun _ _ _ _ _ _ us hl => match us, hl with | [_], _ => rfl⟩
  have D_is_tick : Dd K mg "is_tick" s_is_tick ["given", "least"] (.int 0) := by
    have F : FunD K "is_tick" "is_tick" (defArgs s_is_tick) (defBody s_is_tick) (defScope s_is_tick) [(.int 0)] [] _ _ := ⟨⟨_, _, _, _, _, _, _, _, _, _, rfl, l_is_tick, c_is_tick, .inr ⟨by simp, dT_is_tick, _, [_], _, rfl, t_is_tick, rfl, .cons ⟨_, rfl⟩ .nil⟩, .inl rfl⟩, k_is_tick⟩
    exact ⟨_, _, F, PySem.W.mg_of X G a_is_tick,
      FunD.binds1 (ps := ["given", "least"]) F 1 0 (by simp) rfl fun _ _ _ _ _ _ _ us its hu hi => match us, its, hu, hi with | [_], [_], _, _ => ⟨_, rfl, rfl⟩,
      by obtain ⟨ds, r, b⟩ := FunD.binds1 (ps := ["given", "least"]) F 2 1 (by simp) rfl fun _ _ _ _ _ _ _ us its hu hi => match us, its, hu, hi with | [_, _], [_], _, _ => ⟨_, rfl, rfl⟩
         cases r
         exact b⟩
  have D_is_period : Df K mg "is_period" s_is_period ["given"] := by
    have F := fun_mk (st := s_is_period) l_is_period c_is_period k_is_period
    exact ⟨_, _, F, PySem.W.mg_of X G a_is_period, F.binds (ps := ["given"]) fun _ _ _ _ _ _ us hl => match us, hl with | [_], _ => rfl⟩
  have D_check_base : Df K mg "check_base" s_check_base ["base"] := by
    have F := fun_mk (st := s_check_base) l_check_base c_check_base k_check_base
    exact ⟨_, _, F, PySem.W.mg_of X G a_check_base, F.binds (ps := ["base"]) fun _ _ _ _ _ _ us hl => match us, hl with | [_], _ => rfl⟩
  have D_check_levels : Df K mg "check_levels" s_check_levels ["levels"] := by
    have F := fun_mk (st := s_check_levels) l_check_levels c_check_levels k_check_levels
    exact ⟨_, _, F, PySem.W.mg_of X G a_check_levels, F.binds (ps := ["levels"]) fun _ _ _ _ _ _ us hl => match us, hl with | [_], _ => rfl⟩
  have D_check_tick : Dd K mg "check_tick" s_check_tick ["tick", "least"] (.int 0) := by
    have F : FunD K "check_tick" "check_tick" (defArgs s_check_tick) (defBody s_check_tick) (defScope s_check_tick) [(.int 0)] [] _ _ := ⟨⟨_, _, _, _, _, _, _, _, _, _, rfl, l_check_tick, c_check_tick, .inr ⟨by simp, dT_check_tick, _, [_], _, rfl, t_check_tick, rfl, .cons ⟨_, rfl⟩ .nil⟩, .inl rfl⟩, k_check_tick⟩
    exact ⟨_, _, F, PySem.W.mg_of X G a_check_tick,
      FunD.binds1 (ps := ["tick", "least"]) F 1 0 (by simp) rfl fun _ _ _ _ _ _ _ us its hu hi => match us, its, hu, hi with | [_], [_], _, _ => ⟨_, rfl, rfl⟩,
      by obtain ⟨ds, r, b⟩ := FunD.binds1 (ps := ["tick", "least"]) F 2 1 (by simp) rfl fun _ _ _ _ _ _ _ us its hu hi => match us, its, hu, hi with | [_, _], [_], _, _ => ⟨_, rfl, rfl⟩
         cases r
         exact b⟩
  have D_word_at : Df K mg "word_at" s_word_at ["levels", "level"] := by
    have F := fun_mk (st := s_word_at) l_word_at c_word_at k_word_at
    exact ⟨_, _, F, PySem.W.mg_of X G a_word_at, F.binds (ps := ["levels", "level"]) fun _ _ _ _ _ _ us hl => match us, hl with | [_, _], _ => rfl⟩
  have D_level_and_size : Df K mg "level_and_size" s_level_and_size ["base", "now", "due"] := by
    have F := fun_mk (st := s_level_and_size) l_level_and_size c_level_and_size k_level_and_size
    exact ⟨_, _, F, PySem.W.mg_of X G a_level_and_size, F.binds (ps := ["base", "now", "due"]) fun _ _ _ _ _ _ us hl => match us, hl with | [_, _, _], _ => rfl⟩
  have D_path : Df K mg "path" s_path ["base", "now", "due"] := by
    have F := fun_mk (st := s_path) l_path c_path k_path
    exact ⟨_, _, F, PySem.W.mg_of X G a_path, F.binds (ps := ["base", "now", "due"]) fun _ _ _ _ _ _ us hl => match us, hl with | [_, _, _], _ => rfl⟩
  have D_goes_in_front : Df K mg "goes_in_front" s_goes_in_front ["base", "levels", "now", "due", "lowest"] := by
    have F := fun_mk (st := s_goes_in_front) l_goes_in_front c_goes_in_front k_goes_in_front
    exact ⟨_, _, F, PySem.W.mg_of X G a_goes_in_front, F.binds (ps := ["base", "levels", "now", "due", "lowest"]) fun _ _ _ _ _ _ us hl => match us, hl with | [_, _, _, _, _], _ => rfl⟩
  have D_with_timer : Df K mg "with_timer" s_with_timer ["numbers", "number", "front"] := by
    have F := fun_mk (st := s_with_timer) l_with_timer c_with_timer k_with_timer
    exact ⟨_, _, F, PySem.W.mg_of X G a_with_timer, F.binds (ps := ["numbers", "number", "front"]) fun _ _ _ _ _ _ us hl => match us, hl with | [_, _, _], _ => rfl⟩
  have D_firing_order : Df K mg "firing_order" s_firing_order ["base", "levels", "due", "settings"] := by
    have F := fun_mk (st := s_firing_order) l_firing_order c_firing_order k_firing_order
    exact ⟨_, _, F, PySem.W.mg_of X G a_firing_order, F.binds (ps := ["base", "levels", "due", "settings"]) fun _ _ _ _ _ _ us hl => match us, hl with | [_, _, _, _], _ => rfl⟩
  have D_without_repeats : Df K mg "without_repeats" s_without_repeats ["levels"] := by
    have F := fun_mk (st := s_without_repeats) l_without_repeats c_without_repeats k_without_repeats
    exact ⟨_, _, F, PySem.W.mg_of X G a_without_repeats, F.binds (ps := ["levels"]) fun _ _ _ _ _ _ us hl => match us, hl with | [_], _ => rfl⟩
  have D_check_period : Df K mg "check_period" s_check_period ["period"] := by
    have F := fun_mk (st := s_check_period) l_check_period c_check_period k_check_period
    exact ⟨_, _, F, PySem.W.mg_of X G a_check_period, F.binds (ps := ["period"]) fun _ _ _ _ _ _ us hl => match us, hl with | [_], _ => rfl⟩
  have D_order_of_firing : Df K mg "order_of_firing" s_order_of_firing ["base", "levels", "live", "tick"] := by
    have F := fun_mk (st := s_order_of_firing) l_order_of_firing c_order_of_firing k_order_of_firing
    exact ⟨_, _, F, PySem.W.mg_of X G a_order_of_firing, F.binds (ps := ["base", "levels", "live", "tick"]) fun _ _ _ _ _ _ us hl => match us, hl with | [_, _, _, _], _ => rfl⟩
  have D_standing : Df K mg "standing" s_standing ["base", "levels", "live", "tick"] := by
    have F := fun_mk (st := s_standing) l_standing c_standing k_standing
    exact ⟨_, _, F, PySem.W.mg_of X G a_standing, F.binds (ps := ["base", "levels", "live", "tick"]) fun _ _ _ _ _ _ us hl => match us, hl with | [_, _, _, _], _ => rfl⟩
  have D_least_due : Df K mg "least_due" s_least_due ["live"] := by
    have F := fun_mk (st := s_least_due) l_least_due c_least_due k_least_due
    exact ⟨_, _, F, PySem.W.mg_of X G a_least_due, F.binds (ps := ["live"]) fun _ _ _ _ _ _ us hl => match us, hl with | [_], _ => rfl⟩
  have D_after_firing : Df K mg "after_firing" s_after_firing ["live", "numbers", "tick"] := by
    have F := fun_mk (st := s_after_firing) l_after_firing c_after_firing k_after_firing
    exact ⟨_, _, F, PySem.W.mg_of X G a_after_firing, F.binds (ps := ["live", "numbers", "tick"]) fun _ _ _ _ _ _ us hl => match us, hl with | [_, _, _], _ => rfl⟩
  have D_law_cell_at : Df K mg "_law_cell_at" s__law_cell_at ["_law_script", "_law_k"] := by
    have F := fun_mk (st := s__law_cell_at) l_law_cell_at c_law_cell_at k_law_cell_at
    exact ⟨_, _, F, PySem.W.mg_of X G a_law_cell_at, F.binds (ps := ["_law_script", "_law_k"]) fun _ _ _ _ _ _ us hl => match us, hl with | [_, _], _ => rfl⟩
  have D_law_mixed : Df K mg "_law_mixed" s__law_mixed ["_law_cell", "_law_k"] := by
    have F := fun_mk (st := s__law_mixed) l_law_mixed c_law_mixed k_law_mixed
    exact ⟨_, _, F, PySem.W.mg_of X G a_law_mixed, F.binds (ps := ["_law_cell", "_law_k"]) fun _ _ _ _ _ _ us hl => match us, hl with | [_, _], _ => rfl⟩
  have D_law_source : Df K mg "_law_source" s__law_source ["_law_script", "_law_k"] := by
    have F := fun_mk (st := s__law_source) l_law_source c_law_source k_law_source
    exact ⟨_, _, F, PySem.W.mg_of X G a_law_source, F.binds (ps := ["_law_script", "_law_k"]) fun _ _ _ _ _ _ us hl => match us, hl with | [_, _], _ => rfl⟩
  have D_law_next : Df K mg "_law_next" s__law_next ["_law_source_here", "_law_many"] := by
    have F := fun_mk (st := s__law_next) l_law_next c_law_next k_law_next
    exact ⟨_, _, F, PySem.W.mg_of X G a_law_next, F.binds (ps := ["_law_source_here", "_law_many"]) fun _ _ _ _ _ _ us hl => match us, hl with | [_, _], _ => rfl⟩
  have D_law_base : Df K mg "_law_base" s__law_base ["_law_source_here"] := by
    have F := fun_mk (st := s__law_base) l_law_base c_law_base k_law_base
    exact ⟨_, _, F, PySem.W.mg_of X G a_law_base, F.binds (ps := ["_law_source_here"]) fun _ _ _ _ _ _ us hl => match us, hl with | [_], _ => rfl⟩
  have D_law_levels : Df K mg "_law_levels" s__law_levels ["_law_source_here"] := by
    have F := fun_mk (st := s__law_levels) l_law_levels c_law_levels k_law_levels
    exact ⟨_, _, F, PySem.W.mg_of X G a_law_levels, F.binds (ps := ["_law_source_here"]) fun _ _ _ _ _ _ us hl => match us, hl with | [_], _ => rfl⟩
  have D_law_tick : Df K mg "_law_tick" s__law_tick ["_law_source_here", "_law_base_here"] := by
    have F := fun_mk (st := s__law_tick) l_law_tick c_law_tick k_law_tick
    exact ⟨_, _, F, PySem.W.mg_of X G a_law_tick, F.binds (ps := ["_law_source_here", "_law_base_here"]) fun _ _ _ _ _ _ us hl => match us, hl with | [_, _], _ => rfl⟩
  have D_law_far : Df K mg "_law_far" s__law_far ["_law_source_here", "_law_base_here", "_law_now"] := by
    have F := fun_mk (st := s__law_far) l_law_far c_law_far k_law_far
    exact ⟨_, _, F, PySem.W.mg_of X G a_law_far, F.binds (ps := ["_law_source_here", "_law_base_here", "_law_now"]) fun _ _ _ _ _ _ us hl => match us, hl with | [_, _, _], _ => rfl⟩
  have D_law_used : Df K mg "_law_used" s__law_used ["_law_source_here", "_law_base_here", "_law_levels_here", "_law_now"] := by
    have F := fun_mk (st := s__law_used) l_law_used c_law_used k_law_used
    exact ⟨_, _, F, PySem.W.mg_of X G a_law_used, F.binds (ps := ["_law_source_here", "_law_base_here", "_law_levels_here", "_law_now"]) fun _ _ _ _ _ _ us hl => match us, hl with | [_, _, _, _], _ => rfl⟩
  have D_law_word : Df K mg "_law_word" s__law_word ["_law_wheel", "_law_tick_here"] := by
    have F := fun_mk (st := s__law_word) l_law_word c_law_word k_law_word
    exact ⟨_, _, F, PySem.W.mg_of X G a_law_word, F.binds (ps := ["_law_wheel", "_law_tick_here"]) fun _ _ _ _ _ _ us hl => match us, hl with | [_, _], _ => rfl⟩
  have D_law_empty : Df K mg "_law_empty" s__law_empty ["_law_wheel"] := by
    have F := fun_mk (st := s__law_empty) l_law_empty c_law_empty k_law_empty
    exact ⟨_, _, F, PySem.W.mg_of X G a_law_empty, F.binds (ps := ["_law_wheel"]) fun _ _ _ _ _ _ us hl => match us, hl with | [_], _ => rfl⟩
  have D_law : Df K mg "law" s_law ["_law_script"] := by
    have F := fun_mk (st := s_law) l_law c_law k_law
    exact ⟨_, _, F, PySem.W.mg_of X G a_law, F.binds (ps := ["_law_script"]) fun _ _ _ _ _ _ us hl => match us, hl with | [_], _ => rfl⟩
  have TW : TxW K mg C_ := ⟨⟨pg, hd, po, sa⟩, n_base, n_words, n_tick, n_following, n_live, PySem.W.mg_of X G a_Wheel⟩
  have F_m_init : FunD K "__init__" "Wheel.__init__" (defArgs s_Wheel___init__) (defBody s_Wheel___init__) (defScope s_Wheel___init__) [] [("start", .int 0)] _ _ := ⟨⟨_, _, _, _, _, _, _, _, _, _, rfl, l_m_init, c_m_init, .inl ⟨rfl, rfl⟩, .inr ⟨_, rfl, fun q hq => by rw [List.mem_singleton.mp hq]; exact ⟨_, d_m_init, ⟨_, rfl⟩⟩⟩⟩, k_m_init⟩
  obtain ⟨ds_m_init, V_m_init, B_m_init⟩ := FunD.binds0 (ps := ["self", "base", "levels", "start"]) F_m_init 3 (by simp) rfl fun _ _ _ _ _ _ us ks hl hk => match us, ks, hl, hk with | [_, _, _], [_], _, _ => ⟨_, _, _, _, _, _, rfl, rfl, rfl⟩
  have F_m_check_timer := fun_mk (st := s_Wheel_check_timer) l_m_check_timer c_m_check_timer k_m_check_timer
  have B_m_check_timer := F_m_check_timer.binds (ps := ["self", "timer"]) fun _ _ _ _ _ _ us hl => match us, hl with | [_, _], _ => rfl
  have F_m_now := fun_mk (st := s_Wheel_now) l_m_now c_m_now k_m_now
  have B_m_now := F_m_now.binds (ps := ["self"]) fun _ _ _ _ _ _ us hl => match us, hl with | [_], _ => rfl
  have F_m_put : FunD K "put" "Wheel.put" (defArgs s_Wheel_put) (defBody s_Wheel_put) (defScope s_Wheel_put) [] [("period", .non)] _ _ := ⟨⟨_, _, _, _, _, _, _, _, _, _, rfl, l_m_put, c_m_put, .inl ⟨rfl, rfl⟩, .inr ⟨_, rfl, fun q hq => by rw [List.mem_singleton.mp hq]; exact ⟨_, d_m_put, rfl⟩⟩⟩, k_m_put⟩
  obtain ⟨ds_m_put, V_m_put, B_m_put⟩ := FunD.binds0 (ps := ["self", "due", "period"]) F_m_put 2 (by simp) rfl fun _ _ _ _ _ _ us ks hl hk => match us, ks, hl, hk with | [_, _], [_], _, _ => ⟨_, _, _, _, _, _, rfl, rfl, rfl⟩
  have F_m_cancel := fun_mk (st := s_Wheel_cancel) l_m_cancel c_m_cancel k_m_cancel
  have B_m_cancel := F_m_cancel.binds (ps := ["self", "timer"]) fun _ _ _ _ _ _ us hl => match us, hl with | [_, _], _ => rfl
  have F_m_reset := fun_mk (st := s_Wheel_reset) l_m_reset c_m_reset k_m_reset
  have B_m_reset := F_m_reset.binds (ps := ["self", "timer", "due"]) fun _ _ _ _ _ _ us hl => match us, hl with | [_, _, _], _ => rfl
  have F_m_due := fun_mk (st := s_Wheel_due) l_m_due c_m_due k_m_due
  have B_m_due := F_m_due.binds (ps := ["self", "timer"]) fun _ _ _ _ _ _ us hl => match us, hl with | [_, _], _ => rfl
  have F_m_timers := fun_mk (st := s_Wheel_timers) l_m_timers c_m_timers k_m_timers
  have B_m_timers := F_m_timers.binds (ps := ["self"]) fun _ _ _ _ _ _ us hl => match us, hl with | [_], _ => rfl
  have F_m_advance := fun_mk (st := s_Wheel_advance) l_m_advance c_m_advance k_m_advance
  have B_m_advance := F_m_advance.binds (ps := ["self", "tick"]) fun _ _ _ _ _ _ us hl => match us, hl with | [_, _], _ => rfl
  have F_m_next_event := fun_mk (st := s_Wheel_next_event) l_m_next_event c_m_next_event k_m_next_event
  have B_m_next_event := F_m_next_event.binds (ps := ["self"]) fun _ _ _ _ _ _ us hl => match us, hl with | [_], _ => rfl
  have F_m_next_firing := fun_mk (st := s_Wheel_next_firing) l_m_next_firing c_m_next_firing k_m_next_firing
  have B_m_next_firing := F_m_next_firing.binds (ps := ["self"]) fun _ _ _ _ _ _ us hl => match us, hl with | [_], _ => rfl
  have F_m_moves_until := fun_mk (st := s_Wheel_moves_until) l_m_moves_until c_m_moves_until k_m_moves_until
  have B_m_moves_until := F_m_moves_until.binds (ps := ["self", "tick"]) fun _ _ _ _ _ _ us hl => match us, hl with | [_, _], _ => rfl
  have F_m_lists := fun_mk (st := s_Wheel_lists) l_m_lists c_m_lists k_m_lists
  have B_m_lists := F_m_lists.binds (ps := ["self"]) fun _ _ _ _ _ _ us hl => match us, hl with | [_], _ => rfl
  have X_NoTick : EC K mg "NoTick" c_NoTick := ⟨PySem.W.mg_of X G a_NoTick, x_NoTick, kp_NoTick, bx_NoTick, tx_NoTick⟩
  have EX_NoTick : ExcC K c_NoTick := ⟨ga_NoTick, gg_NoTick, bx_NoTick, hx_NoTick, cc_NoTick, sp_get, tk_cls, mo_NoTick⟩
  have XG_TimerError : EG mg "TimerError" c_TimerError := ⟨PySem.W.mg_of X G a_TimerError⟩
  have XG_NoBase : EG mg "NoBase" c_NoBase := ⟨PySem.W.mg_of X G a_NoBase⟩
  have XG_NoLevels : EG mg "NoLevels" c_NoLevels := ⟨PySem.W.mg_of X G a_NoLevels⟩
  have XG_NoOrder : EG mg "NoOrder" c_NoOrder := ⟨PySem.W.mg_of X G a_NoOrder⟩
  have XG_NoPeriod : EG mg "NoPeriod" c_NoPeriod := ⟨PySem.W.mg_of X G a_NoPeriod⟩
  have XG_NoRow : EG mg "NoRow" c_NoRow := ⟨PySem.W.mg_of X G a_NoRow⟩
  have XG_NoSighting : EG mg "NoSighting" c_NoSighting := ⟨PySem.W.mg_of X G a_NoSighting⟩
  have XG_NoSnapshot : EG mg "NoSnapshot" c_NoSnapshot := ⟨PySem.W.mg_of X G a_NoSnapshot⟩
  have XG_NoTimer : EG mg "NoTimer" c_NoTimer := ⟨PySem.W.mg_of X G a_NoTimer⟩
  have XG_TooMany : EG mg "TooMany" c_TooMany := ⟨PySem.W.mg_of X G a_TooMany⟩
  refine ⟨PySem.W.fnOf "law" "law" (defArgs s_law) (defBody s_law) (defScope s_law) .none kV_law dc_law pm_law an_law cd_law ct_law, fun s v => .of_eq rfl, fun base _ _ => ?_⟩
  have h_is_integer : Has l.prog w K mg base 1 "is_integer" ["given"] [] spIsInt := D_is_integer.has fun _ _ F => ok_is_integer F T
  have h2_is_tick : Has l.prog w K mg base 2 "is_tick" ["given", "least"] [.int 0] spIsTick ∧ Has l.prog w K mg base 2 "is_tick" ["given", "least"] [] spIsTick := D_is_tick.has fun _ _ F => ok_is_tick F T h_is_integer
  have h_is_base : Has l.prog w K mg base 2 "is_base" ["given"] [] spIsBase := D_is_base.has fun _ _ F => ok_is_base F h_is_integer
  have h_check_base : Has l.prog w K mg base 3 "check_base" ["base"] [] spCheckBase := D_check_base.has fun _ _ F => ok_check_base F h_is_base
  have h2_check_tick : Has l.prog w K mg base 3 "check_tick" ["tick", "least"] [.int 0] spCheckTick ∧ Has l.prog w K mg base 3 "check_tick" ["tick", "least"] [] spCheckTick := D_check_tick.has fun _ _ F => ok_check_tick F h2_is_tick.2
  have h_level_and_size : Has l.prog w K mg base 1 "level_and_size" ["base", "now", "due"] [] spLevel := D_level_and_size.has fun _ _ F => ok_level_and_size F 
  have h_path : Has l.prog w K mg base 2 "path" ["base", "now", "due"] [] spPath := D_path.has fun _ _ F => ok_path F h_level_and_size
  have h_word_at : Has l.prog w K mg base 1 "word_at" ["levels", "level"] [] (spWordAt K) := D_word_at.has fun _ _ F => ok_word_at F T
  have h_is_word : Has l.prog w K mg base 1 "is_word" ["given"] [] spIsWord := D_is_word.has fun _ _ F => ok_is_word F T h_WORDS
  have h_is_length : Has l.prog w K mg base 2 "is_length" ["given"] [] spIsLength := D_is_length.has fun _ _ F => ok_is_length F ⟨_, h_MOST_LEVELS⟩ h_is_integer
  have h_are_levels : Has l.prog w K mg base 3 "are_levels" ["given"] [] (spAreLevels K) := D_are_levels.has fun _ _ F => ok_are_levels F T h_is_length h_is_word
  have h_check_levels : Has l.prog w K mg base 4 "check_levels" ["levels"] [] (spCheckLevels K) := D_check_levels.has fun _ _ F => ok_check_levels F h_are_levels
  have h_goes_in_front : Has l.prog w K mg base 3 "goes_in_front" ["base", "levels", "now", "due", "lowest"] [] (spFront K) := D_goes_in_front.has fun _ _ F => ok_goes_in_front F h_path h_word_at
  have h_without_repeats : Has l.prog w K mg base 1 "without_repeats" ["levels"] [] (spRepeats K) := D_without_repeats.has fun _ _ F => ok_repeats F T
  have h_is_period : Has l.prog w K mg base 2 "is_period" ["given"] [] spIsPeriod := D_is_period.has fun _ _ F => ok_is_period F h_is_integer
  have h_check_period : Has l.prog w K mg base 3 "check_period" ["period"] [] spCheckPeriod := D_check_period.has fun _ _ F => ok_check_period F h_is_period
  have h_with_timer : Has l.prog w K mg base 1 "with_timer" ["numbers", "number", "front"] [] spWithTimer := D_with_timer.has fun _ _ F => ok_with_timer F 
  have h_firing_order : Has l.prog w K mg base 4 "firing_order" ["base", "levels", "due", "settings"] [] (spFiringOrder K) := D_firing_order.has fun _ _ F => ok_firing_order F h_with_timer h_goes_in_front
  have h_order_of_firing : Has l.prog w K mg base 5 "order_of_firing" ["base", "levels", "live", "tick"] [] (spOrder K) := D_order_of_firing.has fun _ _ F => ok_order F h_firing_order
  have h_least_due : Has l.prog w K mg base 1 "least_due" ["live"] [] spLeast := D_least_due.has fun _ _ F => ok_least_due F T
  have h_after_firing : Has l.prog w K mg base 1 "after_firing" ["live", "numbers", "tick"] [] spAfter := D_after_firing.has fun _ _ F => ok_after F T
  have M_init : ∃ (fi : Addr) (fdi : FuncData), Mk K C_ fi ∧ FnOk l.prog w K mg base CX0 5 fi fdi ["self", "base", "levels", "start"] (spInit C_ K) ∧ KBn K fdi ["self", "base", "levels", "start"] 3 [Str.ofString "start"] (fun us ws => us ++ ws) (fun vs zs => vs ++ zs) := by
    obtain ⟨mv, hb⟩ := FunD.kbinds0 (ps := ["self", "base", "levels", "start"]) F_m_init 3 [Str.ofString "start"] [] (fun us _ ws => us ++ ws) (by simp) (fun q hq => by cases hq) (fun h1 _ h3 => h1.append h3) fun _ _ _ _ _ _ us mv ws h1 h2 h3 => match us, mv, ws, h1, h2, h3 with | [_, _, _], [], [_], _, _, _ => rfl
    exact ⟨_, _, ⟨mkC, a_m_init, i_m_init, kc⟩, ok_init F_m_init TW h_check_base h2_check_tick.1 h_check_levels h_without_repeats, hb⟩
  have M_check_timer : HasM l.prog w K mg base 2 C_ "check_timer" ["self", "timer"] [] (spCheckTimer C_) := ⟨_, _, [], ok_check_timer F_m_check_timer TW h_is_integer, ⟨a_m_check_timer, i_m_check_timer, k_m_check_timer⟩, B_m_check_timer, .nil⟩
  have M_now : HasM l.prog w K mg base 1 C_ "now" ["self"] [] (spNow C_) := ⟨_, _, [], ok_now F_m_now TW, ⟨a_m_now, i_m_now, k_m_now⟩, B_m_now, .nil⟩
  have M_put : HasM l.prog w K mg base 4 C_ "put" ["self", "due", "period"] [.non] (spPut C_) := ⟨_, _, ds_m_put, ok_put F_m_put TW h2_check_tick.2 h_check_period, ⟨a_m_put, i_m_put, k_m_put⟩, B_m_put, V_m_put⟩
  have M_cancel : HasM l.prog w K mg base 3 C_ "cancel" ["self", "timer"] [] (spCancel C_) := ⟨_, _, [], ok_cancel F_m_cancel TW M_check_timer, ⟨a_m_cancel, i_m_cancel, k_m_cancel⟩, B_m_cancel, .nil⟩
  have M_reset : HasM l.prog w K mg base 4 C_ "reset" ["self", "timer", "due"] [] (spReset C_) := ⟨_, _, [], ok_reset F_m_reset TW M_check_timer h2_check_tick.2, ⟨a_m_reset, i_m_reset, k_m_reset⟩, B_m_reset, .nil⟩
  have M_due : HasM l.prog w K mg base 3 C_ "due" ["self", "timer"] [] (spDue C_) := ⟨_, _, [], ok_due F_m_due TW M_check_timer, ⟨a_m_due, i_m_due, k_m_due⟩, B_m_due, .nil⟩
  have M_timers : HasM l.prog w K mg base 1 C_ "timers" ["self"] [] (spTimers C_) := ⟨_, _, [], ok_timers F_m_timers T TW, ⟨a_m_timers, i_m_timers, k_m_timers⟩, B_m_timers, .nil⟩
  have M_advance : HasM l.prog w K mg base 6 C_ "advance" ["self", "tick"] [] (spAdvance C_) := ⟨_, _, [], ok_advance F_m_advance T TW ⟨_, h_MOST_FIRINGS⟩ h2_check_tick.2 h_least_due h_order_of_firing h_after_firing, ⟨a_m_advance, i_m_advance, k_m_advance⟩, B_m_advance, .nil⟩
  have M_next_event : HasM l.prog w K mg base 2 C_ "next_event" ["self"] [] (spNextEvent C_) := ⟨_, _, [], ok_next_event F_m_next_event T TW h_level_and_size, ⟨a_m_next_event, i_m_next_event, k_m_next_event⟩, B_m_next_event, .nil⟩
  have M_next_firing : HasM l.prog w K mg base 2 C_ "next_firing" ["self"] [] (spNextFiring C_) := ⟨_, _, [], ok_next_firing F_m_next_firing TW h_least_due, ⟨a_m_next_firing, i_m_next_firing, k_m_next_firing⟩, B_m_next_firing, .nil⟩
  have h_standing : Has l.prog w K mg base 4 "standing" ["base", "levels", "live", "tick"] [] (spStanding K) := D_standing.has fun _ _ F => ok_standing F T h_level_and_size h_with_timer h_goes_in_front
  have M_lists : HasM l.prog w K mg base 5 C_ "lists" ["self"] [] (spLists C_) := ⟨_, _, [], ok_lists F_m_lists TW h_standing, ⟨a_m_lists, i_m_lists, k_m_lists⟩, B_m_lists, .nil⟩
  have hA_is_integer : Has l.prog w K mg base 1 "is_integer" ["given"] [] (spIsIntX K) := D_is_integer.has fun _ _ F => okA_is_integer F T
  have hA_is_tick := D_is_tick.has (P := l.prog) (w := w) (base := base) (k := 2) (sp := spIsTickX K) fun _ _ F => okA_is_tick F hA_is_integer
  have hX_check_tick := (D_check_tick.hasX (P := l.prog) (w := w) (base := base) (k := 3) (sp := spCheckTickX K c_NoTick) fun _ _ F => okX_check_tick F T X_NoTick hA_is_tick.2).2
  have MX_moves_until : HasMX l.prog w K mg base 4 C_ "moves_until" ["self", "tick"] [] (spMovesX K C_ c_NoTick) := ⟨_, _, [], okX_moves_until F_m_moves_until T TW hX_check_tick h_path, ⟨a_m_moves_until, i_m_moves_until, k_m_moves_until⟩, B_m_moves_until, .nil⟩
  have EF : ErrF K c_NoTick c_TimerError [c_NoBase, c_NoLevels, c_NoOrder, c_NoPeriod, c_NoRow, c_NoSighting, c_NoSnapshot, c_NoTimer, c_TooMany] := ⟨EX_NoTick, PySem.W.exm_ref bx_TimerError hx_TimerError tx_TimerError ss_NoTick_TimerError, fun c hc => by
    simp only [List.mem_cons, List.not_mem_nil, or_false] at hc
    rcases hc with rfl | rfl | rfl | rfl | rfl | rfl | rfl | rfl | rfl
    · exact kit_no ss_NoTick hx_NoBase tx_NoBase ss_NoTick_NoBase
    · exact kit_no ss_NoTick hx_NoLevels tx_NoLevels ss_NoTick_NoLevels
    · exact kit_no ss_NoTick hx_NoOrder tx_NoOrder ss_NoTick_NoOrder
    · exact kit_no ss_NoTick hx_NoPeriod tx_NoPeriod ss_NoTick_NoPeriod
    · exact kit_no ss_NoTick hx_NoRow tx_NoRow ss_NoTick_NoRow
    · exact kit_no ss_NoTick hx_NoSighting tx_NoSighting ss_NoTick_NoSighting
    · exact kit_no ss_NoTick hx_NoSnapshot tx_NoSnapshot ss_NoTick_NoSnapshot
    · exact kit_no ss_NoTick hx_NoTimer tx_NoTimer ss_NoTick_NoTimer
    · exact kit_no ss_NoTick hx_TooMany tx_TooMany ss_NoTick_TooMany⟩
  have h_law_word : Has l.prog w K mg base 5 "_law_word" ["_law_wheel", "_law_tick_here"] [] (spLawWord K C_) := D_law_word.has fun _ _ F => ok_word F T TW EF ⟨X_NoTick.g⟩ XG_TimerError XG_NoBase XG_NoLevels XG_NoOrder XG_NoPeriod XG_NoRow XG_NoSighting XG_NoSnapshot XG_NoTimer XG_TooMany MX_moves_until
  have h_law_empty : Has l.prog w K mg base 5 "_law_empty" ["_law_wheel"] [] (spLawEmpty C_) := D_law_empty.has fun _ _ F => ok_empty F TW MX_moves_until M_next_event M_next_firing M_now
  have h_law_cell_at : Has l.prog w K mg base 1 "_law_cell_at" ["_law_script", "_law_k"] [] (spCellAt K) := D_law_cell_at.has fun _ _ F => ok_cell_at F T
  have h_law_mixed : Has l.prog w K mg base 1 "_law_mixed" ["_law_cell", "_law_k"] [] spMixed := D_law_mixed.has fun _ _ F => ok_mixed F 
  have h_law_source : Has l.prog w K mg base 2 "_law_source" ["_law_script", "_law_k"] [] (spSource K) := D_law_source.has fun _ _ F => ok_source F T h_law_cell_at h_law_mixed
  have h_law_next : Has l.prog w K mg base 2 "_law_next" ["_law_source_here", "_law_many"] [] spNext := D_law_next.has fun _ _ F => ok_next F h_law_mixed
  have h_law_base : Has l.prog w K mg base 3 "_law_base" ["_law_source_here"] [] spBase := D_law_base.has fun _ _ F => ok_base F h_law_next
  have h_law_tick : Has l.prog w K mg base 3 "_law_tick" ["_law_source_here", "_law_base_here"] [] spTick := D_law_tick.has fun _ _ F => ok_tick F T h_law_next
  have h_law_levels : Has l.prog w K mg base 3 "_law_levels" ["_law_source_here"] [] spLevels := D_law_levels.has fun _ _ F => ok_levels F T h_law_next
  have h_law_far : Has l.prog w K mg base 4 "_law_far" ["_law_source_here", "_law_base_here", "_law_now"] [] spFar := D_law_far.has fun _ _ F => ok_far F h_law_next h_law_tick
  have h_law_used : Has l.prog w K mg base 7 "_law_used" ["_law_source_here", "_law_base_here", "_law_levels_here", "_law_now"] [] (spUsed C_) := D_law_used.has fun _ _ F => ok_used F T TW M_init h_law_next h_law_far M_timers M_now M_put M_cancel M_reset M_advance
  exact ok_law (fun_mk (st := s_law) l_law c_law k_law) T TW M_init h_law_source h_law_base h_law_levels h_law_tick h_law_used h_law_empty h_law_next h_law_word M_timers M_now M_due MX_moves_until M_cancel M_advance M_lists M_next_event M_next_firing
end Td
open PySem PySem.W PyProof.Rows in
set_option maxRecDepth 100000 in
set_option maxHeartbeats 0 in
theorem PySem.Challenge.cw_timerdeque_k46_what_moves_until_refuses_holds : PySem.Challenge.rw_timerdeque_k46_what_moves_until_refuses.Holds := by
  w_on; o_law; k_head; (case hw => w_witness2)
  k_fill
  refine L2.walk_of (l := PySem.Challenge.rw_timerdeque_k46_what_moves_until_refuses) (n := 63) (k := 8) (x := "_law_script") (CX := fun _ => L2.CX0) (sp := fun w => Td.spLaw _) rfl (by decide) rfl ⟨rfl, by decide, by decide⟩ (fun w h Y => PySem.W.kIn_of Y) ?F (fun _ _ a ns hl _ hS => ⟨a, ns, rfl, hS, hl, fun _ => rfl⟩) (fun _ _ _ _ _ h => h)
  case F =>
    intro w mg fa h KX G hmg
    refine' Td.all_mk KX G hmg ?a_wall ?l_wall ?c_wall ?k_wall ?a_is_integer ?l_is_integer ?c_is_integer ?k_is_integer ?a_is_word ?l_is_word ?c_is_word ?k_is_word ?a_is_base ?l_is_base ?c_is_base ?k_is_base ?a_is_length ?l_is_length ?c_is_length ?k_is_length ?a_are_levels ?l_are_levels ?c_are_levels ?k_are_levels ?a_is_tick ?l_is_tick ?t_is_tick ?c_is_tick ?k_is_tick ?a_is_period ?l_is_period ?c_is_period ?k_is_period ?a_check_base ?l_check_base ?c_check_base ?k_check_base ?a_check_levels ?l_check_levels ?c_check_levels ?k_check_levels ?a_check_tick ?l_check_tick ?t_check_tick ?c_check_tick ?k_check_tick ?a_word_at ?l_word_at ?c_word_at ?k_word_at ?a_level_and_size ?l_level_and_size ?c_level_and_size ?k_level_and_size ?a_path ?l_path ?c_path ?k_path ?a_goes_in_front ?l_goes_in_front ?c_goes_in_front ?k_goes_in_front ?a_with_timer ?l_with_timer ?c_with_timer ?k_with_timer ?a_firing_order ?l_firing_order ?c_firing_order ?k_firing_order ?a_without_repeats ?l_without_repeats ?c_without_repeats ?k_without_repeats ?a_check_period ?l_check_period ?c_check_period ?k_check_period ?a_order_of_firing ?l_order_of_firing ?c_order_of_firing ?k_order_of_firing ?a_standing ?l_standing ?c_standing ?k_standing ?a_least_due ?l_least_due ?c_least_due ?k_least_due ?a_after_firing ?l_after_firing ?c_after_firing ?k_after_firing ?a_law_cell_at ?l_law_cell_at ?c_law_cell_at ?k_law_cell_at ?a_law_mixed ?l_law_mixed ?c_law_mixed ?k_law_mixed ?a_law_source ?l_law_source ?c_law_source ?k_law_source ?a_law_next ?l_law_next ?c_law_next ?k_law_next ?a_law_base ?l_law_base ?c_law_base ?k_law_base ?a_law_levels ?l_law_levels ?c_law_levels ?k_law_levels ?a_law_tick ?l_law_tick ?c_law_tick ?k_law_tick ?a_law_far ?l_law_far ?c_law_far ?k_law_far ?a_law_used ?l_law_used ?c_law_used ?k_law_used ?a_law_word ?l_law_word ?c_law_word ?k_law_word ?a_law_empty ?l_law_empty ?c_law_empty ?k_law_empty ?a_law ?l_law ?c_law ?k_law ?a_Wheel ?a_m_init ?i_m_init ?l_m_init ?c_m_init ?k_m_init ?d_m_init ?a_m_check_timer ?i_m_check_timer ?l_m_check_timer ?c_m_check_timer ?k_m_check_timer ?a_m_now ?i_m_now ?l_m_now ?c_m_now ?k_m_now ?a_m_put ?i_m_put ?l_m_put ?c_m_put ?k_m_put ?d_m_put ?a_m_cancel ?i_m_cancel ?l_m_cancel ?c_m_cancel ?k_m_cancel ?a_m_reset ?i_m_reset ?l_m_reset ?c_m_reset ?k_m_reset ?a_m_due ?i_m_due ?l_m_due ?c_m_due ?k_m_due ?a_m_timers ?i_m_timers ?l_m_timers ?c_m_timers ?k_m_timers ?a_m_advance ?i_m_advance ?l_m_advance ?c_m_advance ?k_m_advance ?a_m_next_event ?i_m_next_event ?l_m_next_event ?c_m_next_event ?k_m_next_event ?a_m_next_firing ?i_m_next_firing ?l_m_next_firing ?c_m_next_firing ?k_m_next_firing ?a_m_moves_until ?i_m_moves_until ?l_m_moves_until ?c_m_moves_until ?k_m_moves_until ?a_m_lists ?i_m_lists ?l_m_lists ?c_m_lists ?k_m_lists ?pg ?hd ?po ?sa ?mkC ?kc ?n_base ?n_words ?n_tick ?n_following ?n_live ?a_NoTick ?a_TimerError ?a_NoBase ?a_NoLevels ?a_NoOrder ?a_NoPeriod ?a_NoRow ?a_NoSighting ?a_NoSnapshot ?a_NoTimer ?a_TooMany ?x_NoTick ?kp_NoTick ?bx_NoTick ?tx_NoTick ?ga_NoTick ?gg_NoTick ?hx_NoTick ?cc_NoTick ?mo_NoTick ?ss_NoTick ?sp_get ?tk_cls ?bx_TimerError ?hx_TimerError ?tx_TimerError ?ss_NoTick_TimerError ?hx_NoBase ?tx_NoBase ?ss_NoTick_NoBase ?hx_NoLevels ?tx_NoLevels ?ss_NoTick_NoLevels ?hx_NoOrder ?tx_NoOrder ?ss_NoTick_NoOrder ?hx_NoPeriod ?tx_NoPeriod ?ss_NoTick_NoPeriod ?hx_NoRow ?tx_NoRow ?ss_NoTick_NoRow ?hx_NoSighting ?tx_NoSighting ?ss_NoTick_NoSighting ?hx_NoSnapshot ?tx_NoSnapshot ?ss_NoTick_NoSnapshot ?hx_NoTimer ?tx_NoTimer ?ss_NoTick_NoTimer ?hx_TooMany ?tx_TooMany ?ss_NoTick_TooMany ?z_isinstance ?z_int ?z_bool ?z_str ?z_all ?z_list ?z_len ?z_min ?z_sorted ?z_dict ?z_range ?z_max ?a_WORDS ?l_WORDS ?a_MOST_LEVELS ?a_MOST_FIRINGS
    (case a_wall => k_is)
    (case l_wall => k_is)
    (case c_wall => k_is)
    (case k_wall => k_is)
    (case a_is_integer => k_is)
    (case l_is_integer => k_is)
    (case c_is_integer => k_is)
    (case k_is_integer => k_is)
    (case a_is_word => k_is)
    (case l_is_word => k_is)
    (case c_is_word => k_is)
    (case k_is_word => k_is)
    (case a_is_base => k_is)
    (case l_is_base => k_is)
    (case c_is_base => k_is)
    (case k_is_base => k_is)
    (case a_is_length => k_is)
    (case l_is_length => k_is)
    (case c_is_length => k_is)
    (case k_is_length => k_is)
    (case a_are_levels => k_is)
    (case l_are_levels => k_is)
    (case c_are_levels => k_is)
    (case k_are_levels => k_is)
    (case a_is_tick => k_is)
    (case l_is_tick => k_is)
    (case t_is_tick => k_is)
    (case c_is_tick => k_is)
    (case k_is_tick => k_is)
    (case a_is_period => k_is)
    (case l_is_period => k_is)
    (case c_is_period => k_is)
    (case k_is_period => k_is)
    (case a_check_base => k_is)
    (case l_check_base => k_is)
    (case c_check_base => k_is)
    (case k_check_base => k_is)
    (case a_check_levels => k_is)
    (case l_check_levels => k_is)
    (case c_check_levels => k_is)
    (case k_check_levels => k_is)
    (case a_check_tick => k_is)
    (case l_check_tick => k_is)
    (case t_check_tick => k_is)
    (case c_check_tick => k_is)
    (case k_check_tick => k_is)
    (case a_word_at => k_is)
    (case l_word_at => k_is)
    (case c_word_at => k_is)
    (case k_word_at => k_is)
    (case a_level_and_size => k_is)
    (case l_level_and_size => k_is)
    (case c_level_and_size => k_is)
    (case k_level_and_size => k_is)
    (case a_path => k_is)
    (case l_path => k_is)
    (case c_path => k_is)
    (case k_path => k_is)
    (case a_goes_in_front => k_is)
    (case l_goes_in_front => k_is)
    (case c_goes_in_front => k_is)
    (case k_goes_in_front => k_is)
    (case a_with_timer => k_is)
    (case l_with_timer => k_is)
    (case c_with_timer => k_is)
    (case k_with_timer => k_is)
    (case a_firing_order => k_is)
    (case l_firing_order => k_is)
    (case c_firing_order => k_is)
    (case k_firing_order => k_is)
    (case a_without_repeats => k_is)
    (case l_without_repeats => k_is)
    (case c_without_repeats => k_is)
    (case k_without_repeats => k_is)
    (case a_check_period => k_is)
    (case l_check_period => k_is)
    (case c_check_period => k_is)
    (case k_check_period => k_is)
    (case a_order_of_firing => k_is)
    (case l_order_of_firing => k_is)
    (case c_order_of_firing => k_is)
    (case k_order_of_firing => k_is)
    (case a_standing => k_is)
    (case l_standing => k_is)
    (case c_standing => k_is)
    (case k_standing => k_is)
    (case a_least_due => k_is)
    (case l_least_due => k_is)
    (case c_least_due => k_is)
    (case k_least_due => k_is)
    (case a_after_firing => k_is)
    (case l_after_firing => k_is)
    (case c_after_firing => k_is)
    (case k_after_firing => k_is)
    (case a_law_cell_at => k_is)
    (case l_law_cell_at => k_is)
    (case c_law_cell_at => k_is)
    (case k_law_cell_at => k_is)
    (case a_law_mixed => k_is)
    (case l_law_mixed => k_is)
    (case c_law_mixed => k_is)
    (case k_law_mixed => k_is)
    (case a_law_source => k_is)
    (case l_law_source => k_is)
    (case c_law_source => k_is)
    (case k_law_source => k_is)
    (case a_law_next => k_is)
    (case l_law_next => k_is)
    (case c_law_next => k_is)
    (case k_law_next => k_is)
    (case a_law_base => k_is)
    (case l_law_base => k_is)
    (case c_law_base => k_is)
    (case k_law_base => k_is)
    (case a_law_levels => k_is)
    (case l_law_levels => k_is)
    (case c_law_levels => k_is)
    (case k_law_levels => k_is)
    (case a_law_tick => k_is)
    (case l_law_tick => k_is)
    (case c_law_tick => k_is)
    (case k_law_tick => k_is)
    (case a_law_far => k_is)
    (case l_law_far => k_is)
    (case c_law_far => k_is)
    (case k_law_far => k_is)
    (case a_law_used => k_is)
    (case l_law_used => k_is)
    (case c_law_used => k_is)
    (case k_law_used => k_is)
    (case a_law_word => k_is)
    (case l_law_word => k_is)
    (case c_law_word => k_is)
    (case k_law_word => k_is)
    (case a_law_empty => k_is)
    (case l_law_empty => k_is)
    (case c_law_empty => k_is)
    (case k_law_empty => k_is)
    (case a_law => k_is)
    (case l_law => k_is)
    (case c_law => k_is)
    (case k_law => k_is)
    (case a_Wheel => k_is)
    (case a_m_init => k_is)
    (case i_m_init => k_is)
    (case l_m_init => k_is)
    (case c_m_init => k_is)
    (case k_m_init => k_is)
    (case d_m_init => k_is)
    (case a_m_check_timer => k_is)
    (case i_m_check_timer => k_is)
    (case l_m_check_timer => k_is)
    (case c_m_check_timer => k_is)
    (case k_m_check_timer => k_is)
    (case a_m_now => k_is)
    (case i_m_now => k_is)
    (case l_m_now => k_is)
    (case c_m_now => k_is)
    (case k_m_now => k_is)
    (case a_m_put => k_is)
    (case i_m_put => k_is)
    (case l_m_put => k_is)
    (case c_m_put => k_is)
    (case k_m_put => k_is)
    (case d_m_put => k_is)
    (case a_m_cancel => k_is)
    (case i_m_cancel => k_is)
    (case l_m_cancel => k_is)
    (case c_m_cancel => k_is)
    (case k_m_cancel => k_is)
    (case a_m_reset => k_is)
    (case i_m_reset => k_is)
    (case l_m_reset => k_is)
    (case c_m_reset => k_is)
    (case k_m_reset => k_is)
    (case a_m_due => k_is)
    (case i_m_due => k_is)
    (case l_m_due => k_is)
    (case c_m_due => k_is)
    (case k_m_due => k_is)
    (case a_m_timers => k_is)
    (case i_m_timers => k_is)
    (case l_m_timers => k_is)
    (case c_m_timers => k_is)
    (case k_m_timers => k_is)
    (case a_m_advance => k_is)
    (case i_m_advance => k_is)
    (case l_m_advance => k_is)
    (case c_m_advance => k_is)
    (case k_m_advance => k_is)
    (case a_m_next_event => k_is)
    (case i_m_next_event => k_is)
    (case l_m_next_event => k_is)
    (case c_m_next_event => k_is)
    (case k_m_next_event => k_is)
    (case a_m_next_firing => k_is)
    (case i_m_next_firing => k_is)
    (case l_m_next_firing => k_is)
    (case c_m_next_firing => k_is)
    (case k_m_next_firing => k_is)
    (case a_m_moves_until => k_is)
    (case i_m_moves_until => k_is)
    (case l_m_moves_until => k_is)
    (case c_m_moves_until => k_is)
    (case k_m_moves_until => k_is)
    (case a_m_lists => k_is)
    (case i_m_lists => k_is)
    (case l_m_lists => k_is)
    (case c_m_lists => k_is)
    (case k_m_lists => k_is)
    (case pg => k_is)
    (case hd => k_is)
    (case po => k_is)
    (case sa => k_is)
    (case mkC => k_is)
    (case kc => k_is)
    (case n_base => k_is)
    (case n_words => k_is)
    (case n_tick => k_is)
    (case n_following => k_is)
    (case n_live => k_is)
    (case a_NoTick => k_is)
    (case a_TimerError => k_is)
    (case a_NoBase => k_is)
    (case a_NoLevels => k_is)
    (case a_NoOrder => k_is)
    (case a_NoPeriod => k_is)
    (case a_NoRow => k_is)
    (case a_NoSighting => k_is)
    (case a_NoSnapshot => k_is)
    (case a_NoTimer => k_is)
    (case a_TooMany => k_is)
    (case x_NoTick => k_exc)
    (case kp_NoTick => k_is)
    (case bx_NoTick => k_is)
    (case tx_NoTick => k_is)
    (case ga_NoTick => k_is)
    (case gg_NoTick => k_is)
    (case hx_NoTick => k_is)
    (case cc_NoTick => k_is)
    (case mo_NoTick => k_is)
    (case ss_NoTick => k_is)
    (case sp_get => k_is)
    (case tk_cls => k_is)
    (case bx_TimerError => k_is)
    (case hx_TimerError => k_is)
    (case tx_TimerError => k_is)
    (case ss_NoTick_TimerError => k_is)
    (case hx_NoBase => k_is)
    (case tx_NoBase => k_is)
    (case ss_NoTick_NoBase => k_is)
    (case hx_NoLevels => k_is)
    (case tx_NoLevels => k_is)
    (case ss_NoTick_NoLevels => k_is)
    (case hx_NoOrder => k_is)
    (case tx_NoOrder => k_is)
    (case ss_NoTick_NoOrder => k_is)
    (case hx_NoPeriod => k_is)
    (case tx_NoPeriod => k_is)
    (case ss_NoTick_NoPeriod => k_is)
    (case hx_NoRow => k_is)
    (case tx_NoRow => k_is)
    (case ss_NoTick_NoRow => k_is)
    (case hx_NoSighting => k_is)
    (case tx_NoSighting => k_is)
    (case ss_NoTick_NoSighting => k_is)
    (case hx_NoSnapshot => k_is)
    (case tx_NoSnapshot => k_is)
    (case ss_NoTick_NoSnapshot => k_is)
    (case hx_NoTimer => k_is)
    (case tx_NoTimer => k_is)
    (case ss_NoTick_NoTimer => k_is)
    (case hx_TooMany => k_is)
    (case tx_TooMany => k_is)
    (case ss_NoTick_TooMany => k_is)
    (case z_isinstance => k_is)
    (case z_int => k_is)
    (case z_bool => k_is)
    (case z_str => k_is)
    (case z_all => k_is)
    (case z_list => k_is)
    (case z_len => k_is)
    (case z_min => k_is)
    (case z_sorted => k_is)
    (case z_dict => k_is)
    (case z_range => k_is)
    (case z_max => k_is)
    (case a_WORDS => k_is)
    (case l_WORDS => k_is)
    (case a_MOST_LEVELS => k_is)
    (case a_MOST_FIRINGS => k_is)
