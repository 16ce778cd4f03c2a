import PyProof.Rows.All
import Wide.All
import OpenK.AllK
import Wide.FinOn
import HandS.ForMost
import HandS.IsInst
import HandS.Wide
import HandS.WideBits
import HandS.Iter
import HandS.NoneIn
import PyProof.LongRange
import HandS.Defaults
import HandS.Zip
import HandS.Flow
import HandS.SortKw
import HandS.SortOrd
import KE.DatumOrd
import HandS.Conv
import HandS.More
import HandS.Small
import HandS.Exc
import HandS.ExcOwn
import HandS.ExcIs
import HandS.TryOnly
import HandS.WordsExc
import HandS.Lambda
import HandS.EndTab
import PyProof.ReprRoads
import PyProof.Rows.RegFStrParts
import PySem.Challenge.RW_timerdeque_k28_wheels_compared_gone_thro
set_option Elab.async false
set_option linter.all false
set_option maxRecDepth 100000
set_option maxHeartbeats 4000000
set_option exponentiation.threshold 10000
namespace Td
open PySem PySem.Spec PyProof.Rows L2
/-! ### small things: promises by name, heaps, numbers -/
section
variable {P : Program} {w : World} {K : PySem.W.Frag} {mg : Str → Option Value} {base : Heap}
/-- the module's name x holds a def that keeps the promise sp, its last parameters filled up by dvs -/
def Has (P : Program) (w : World) (K : PySem.W.Frag) (mg : Str → Option Value) (base : Heap) (k : Nat) (x : Str) (ps : List Str) (dvs : List V) (sp : Sp) : Prop :=
  ∃ (f : Addr) (fd : FuncData) (ds : List Value), FnOk P w K mg base CX0 k f fd ps sp ∧ mg x = some (.ref f) ∧ PySem.W.keepIn K (.ref f) = true ∧ Binds K fd ps ds ∧ Vals dvs ds
/-- what the top says of a def without defaults -/
def Df (K : PySem.W.Frag) (mg : Str → Option Value) (x : Str) (st : Stmt) (ps : List Str) : Prop :=
  ∃ (f : Addr) (fd : FuncData), Fun K x x st f fd ∧ mg x = some (.ref f) ∧ Binds K fd ps []
theorem Df.has {k : Nat} {x : Str} {st : Stmt} {ps : List Str} {sp : Sp} (D : Df K mg x st ps) (ok : ∀ f fd, Fun K x x st f fd → FnOk P w K mg base CX0 k f fd ps sp) : Has P w K mg base k x ps [] sp := by
  obtain ⟨f, fd, F, m, b⟩ := D
  exact ⟨f, fd, [], ok f fd F, m, F.kp, b, .nil⟩
/-- a def with one default, the last parameter's -/
def Dd (K : PySem.W.Frag) (mg : Str → Option Value) (x : Str) (st : Stmt) (ps : List Str) (d : V) : Prop :=
  ∃ (f : Addr) (fd : FuncData), FunD K x x (defArgs st) (defBody st) (defScope st) [d] [] f fd ∧ mg x = some (.ref f) ∧ (∃ ds, Vals [d] ds ∧ Binds K fd ps ds) ∧ Binds K fd ps []
theorem Dd.has {k : Nat} {x : Str} {st : Stmt} {ps : List Str} {d : V} {sp : Sp} (D : Dd K mg x st ps d) (ok : ∀ f fd, FunD K x x (defArgs st) (defBody st) (defScope st) [d] [] f fd → FnOk P w K mg base CX0 k f fd ps sp) :
    Has P w K mg base k x ps [d] sp ∧ Has P w K mg base k x ps [] sp := by
  obtain ⟨f, fd, F, m, ⟨ds, r, b⟩, b0⟩ := D
  exact ⟨⟨f, fd, ds, ok f fd F, m, F.kp, b, r⟩, ⟨f, fd, [], ok f fd F, m, F.kp, b0, .nil⟩⟩
end
section
variable {X : Cx}
/-- a product of which one side is small, or both are not too great -/
def CMulA (i j : Int) : Prop := IntMulOk i j
theorem op_mulA : OpR X (binaryOp .Mult) (rI CMulA fun i j => .int (i * j)) := opI fun _ _ _ _ _ _ _ hc q => mul_int q hc
end
/-! x *= e, ints -/
section
variable {X : Cx}
def ipC (C : Int → Int → Prop) (f : Int → Int → Int) : TIp := fun x y H Q => ∃ i j, x = .int i ∧ y = .int j ∧ C i j ∧ Q (.int (f i j)) H
theorem ip_mulA : PIp X .Mult (ipC CMulA fun i j => i * j) := by
  intro pins s σ H x y v u Q I r1 r2 h
  obtain ⟨i, j, rfl, rfl, hm, q⟩ := h
  obtain ⟨t, rfl⟩ := r1
  obtain ⟨t', rfl⟩ := r2
  exact imul_int ⟨.int _, H, I.tok _, ⟨_, rfl⟩, q⟩ hm
end
theorem mul_l {i j : Int} (h1 : -(2 ^ 64) < i) (h2 : i < 2 ^ 64) : CMulA i j := CMul.ok (.inl ⟨h1, h2⟩)
theorem mul_r {i j : Int} (h1 : -(2 ^ 64) < j) (h2 : j < 2 ^ 64) : CMulA i j := CMul.ok (.inr ⟨h1, h2⟩)
theorem mul_w {i j : Int} (a b : Nat) (ha : i.natAbs < 2 ^ a) (hb : j.natAbs < 2 ^ b) (h0 : 0 < a := by decide) (h1 : 0 < b := by decide) (h : a + b ≤ 1000000 := by decide) : CMulA i j := (wide_mul ha hb h0 h1 h).ok
theorem div_s {i j : Int} (h : 0 < j) (h2 : j < 2 ^ 300) : CDivW i j := wide_div (b := 300) h (by omega) (by decide) (by decide)
theorem div_b {i j : Int} (b : Nat) (h : 0 < j) (h2 : j < 2 ^ b) (h0 : 0 < b := by decide) (h9 : b ≤ 9000 := by decide) : CDivW i j := by
  refine wide_div (b := b) h ?_ h0 h9
  have e : ((2 ^ b : Nat) : Int) = (2 : Int) ^ b := by
    rw [Int.natCast_pow]
    rfl
  omega
theorem same_upd {H : Hp} {p : Addr} {o : HO} (h : H p = none) : Same H (upd H p o) := fun b x e => by
  rw [upd_ne (ne_of_none e h)]
  exact e
theorem sizeLine_ge {n : Nat} (h : n ≤ 1000000) : n < sizeLine := by
  rw [sizeLine_eq]
  omega
theorem sizeLine_le {n : Nat} (h : n ≤ 1000000) : n ≤ sizeLine := Nat.le_of_lt (sizeLine_ge h)
theorem pos_of {a c : Nat} (h : a ≤ c) (n : ¬ a = c) : 0 < c := by omega
/-! ### operators on numbers that are not negative -/
def rN (C : Nat → Nat → Prop) (g : Nat → Nat → Nat) : R2 := fun x y H Q => ∃ a b : Nat, x = .int (a : Nat) ∧ y = .int (b : Nat) ∧ C a b ∧ Q (.int ((g a b : Nat) : Int)) H
section
variable {X : Cx}
theorem opN {f : Value → Value → Sem Value} {C : Nat → Nat → Prop} {g : Nat → Nat → Nat} {CI : Int → Int → Prop} {gI : Int → Int → V} (h : OpR X f (rI CI gI)) (e : ∀ a b : Nat, C a b → CI (a : Nat) (b : Nat) ∧ gI (a : Nat) (b : Nat) = .int ((g a b : Nat) : Int)) : OpR X f (rN C g) := by
  intro pins s σ H x y v u Q I rx ry hq
  obtain ⟨a, b, ex, ey, hc, q⟩ := hq
  obtain ⟨h1, h2⟩ := e a b hc
  exact h pins s σ H x y v u Q I rx ry ⟨_, _, ex, ey, h1, by rw [h2]; exact q⟩
theorem opN0 {f : Value → Value → Sem Value} {C : Nat → Nat → Prop} {g : Nat → Nat → Nat} {gI : Int → Int → V} (h : OpR X f (rI0 gI)) (e : ∀ a b : Nat, C a b → gI (a : Nat) (b : Nat) = .int ((g a b : Nat) : Int)) : OpR X f (rN C g) := by
  intro pins s σ H x y v u Q I rx ry hq
  obtain ⟨a, b, ex, ey, hc, q⟩ := hq
  exact h pins s σ H x y v u Q I rx ry ⟨_, _, ex, ey, by rw [e a b hc]; exact q⟩
def NDiv (_ b : Nat) : Prop := 0 < b ∧ b < 2 ^ 9000
def NMod (_ b : Nat) : Prop := 0 < b
def NSub (a b : Nat) : Prop := b ≤ a
def NMul (a b : Nat) : Prop := IntMulOk (a : Int) (b : Int)
def NAny (_ _ : Nat) : Prop := True
theorem op_divN : OpR X (binaryOp .FloorDiv) (rN NDiv fun a b => a / b) := opN op_fdivW fun a b h => ⟨wide_div (b := 9000) (Int.natCast_pos.mpr h.1) h.2 (by decide) (Nat.le_refl _), rfl⟩
theorem op_remN : OpR X (binaryOp .Mod) (rN NMod fun a b => a % b) := opN op_mod fun a b h => ⟨Int.natCast_pos.mpr h, rfl⟩
theorem op_mulN : OpR X (binaryOp .Mult) (rN NMul fun a b => a * b) := opN op_mulA fun a b h => ⟨h, congrArg V.int (Int.natCast_mul a b).symm⟩
theorem op_addN : OpR X (binaryOp .Add) (rN NAny fun a b => a + b) := opN0 op_add fun _ _ _ => rfl
theorem op_subN : OpR X (binaryOp .Sub) (rN NSub fun a b => a - b) := opN0 op_sub fun a b h => congrArg V.int (Int.natCast_sub h).symm
end
theorem ndiv {a b : Nat} (t : Nat) (h : 0 < b) (h2 : b < 2 ^ t) (ht : t ≤ 9000 := by decide) : NDiv a b := ⟨h, Nat.lt_of_lt_of_le h2 (Nat.pow_le_pow_right (by decide) ht)⟩
theorem nmul_l {a b : Nat} (h : a < 2 ^ 64) : NMul a b := mul_l (by omega) (by omega)
theorem nmul_r {a b : Nat} (h : b < 2 ^ 64) : NMul a b := mul_r (by omega) (by omega)
theorem nmul_w {a b : Nat} (i j : Nat) (ha : a < 2 ^ i) (hb : b < 2 ^ j) (h0 : 0 < i := by decide) (h1 : 0 < j := by decide) (h : i + j ≤ 1000000 := by decide) : NMul a b := mul_w i j ha hb h0 h1 h
theorem int_ne {a b : Nat} (h : a ≠ b) : decide (V.int (a : Nat) = V.int (b : Nat)) = false := decide_eq_false fun e => h (Int.ofNat.inj (V.int.inj e))
theorem dT {p : Prop} [Decidable p] (h : p) : V.bl (decide p) = V.bl true := congrArg V.bl (decide_eq_true h)
theorem dF {p : Prop} [Decidable p] (h : ¬ p) : V.bl (decide p) = V.bl false := congrArg V.bl (decide_eq_false h)
theorem nT {p : Prop} [Decidable p] (h : ¬ p) : V.bl (!decide p) = V.bl true := congrArg V.bl (congrArg (!·) (decide_eq_false h))
theorem nF {p : Prop} [Decidable p] (h : p) : V.bl (!decide p) = V.bl false := congrArg V.bl (congrArg (!·) (decide_eq_true h))
theorem vN {a b : Nat} (h : a ≠ b) : ¬ V.int (a : Nat) = V.int (b : Nat) := fun e => h (Int.ofNat.inj (V.int.inj e))
theorem vE {a b : Nat} (h : a = b) : V.int (a : Nat) = V.int (b : Nat) := congrArg (fun c : Nat => V.int (c : Nat)) h
theorem vI {a b : Int} (h : a ≠ b) : ¬ V.int a = V.int b := fun e => h (V.int.inj e)
/-! ### rules with the written part named (within a comprehension's block) -/
section
variable {X : Cx} {K : PySem.W.Frag}
theorem ix_tupK (e : X.K = K) : IxR X (rIxT K) := by subst e; exact ix_tup
theorem ix_listK (e : X.K = K) : IxR X (rIxL K) := by subst e; exact ix_list
theorem sl_tupK (e : X.K = K) : SlR X (rSlT K) := by subst e; exact sl_tup
theorem sl_listK (e : X.K = K) : SlR X (rSlL K) := by subst e; exact sl_list
theorem op_eqK (e : X.K = K) (hu : X.A.units + 64 < cLine) : OpR X (compareOp .Eq) (rEqD K) := by subst e; exact op_eqD hu
theorem op_neK (e : X.K = K) (hu : X.A.units + 64 < cLine) : OpR X (compareOp .NotEq) (rNeD K) := by subst e; exact op_neD hu
theorem isiK (e : X.K = K) : CallR X (.builtin "isinstance") (rIsi K) := by subst e; exact call_isi
def rLenK (K : PySem.W.Frag) : List V → Hp → VK → Prop := fun xs H Q => ∃ p ys, xs = [.ref p] ∧ (SqL K H p ys ∨ SqT K H p ys) ∧ Q (.int ys.length) H
theorem lenK (e : X.K = K) : CallR X (.builtin "len") (rLenK K) := by subst e; exact call_len_seq
theorem allK (e : X.K = K) (hc : X.calm = true) : CallR X (.builtin "all") (rAll K) := by subst e; exact cr_all hc
theorem sumK (e : X.K = K) (hc : X.calm = true) : CallR X (.builtin "sum") (rSum K) := by subst e; exact cr_sum hc
theorem maxK (e : X.K = K) (hc : X.calm = true) : CallR X (.builtin "max") (rMax K) := by subst e; exact cr_max hc
theorem minK (e : X.K = K) (hc : X.calm = true) : CallR X (.builtin "min") (rMin K) := by subst e; exact cr_min hc
theorem anyK (e : X.K = K) (hc : X.calm = true) : CallR X (.builtin "any") (rAny K) := by subst e; exact cr_any hc
end
section
variable {X : Cx} {K : PySem.W.Frag}
theorem ix_ltK (e : X.K = K) : IxR X (fun x y H Q => rIxL K x y H Q ∨ rIxT K x y H Q) := by subst e; exact ix_list.or ix_tup
theorem pe_orTK {a b : Expr} {ta tb : TE} {rest : List Expr} {pos : Pos} (e : X.K = K) (ha : PE X a ta) (hb : PE X (.BoolOp .Or (b :: rest) pos) tb) : PE X (.BoolOp .Or (a :: b :: rest) pos) (tOrT K ta tb) := by subst e; exact pe_orT ha hb
end
theorem yesT {σ : L2.St} {H : Hp} {Q : Bool → Hp → Prop} (h : Q true H) : tYes σ H Q := h
section
variable {X : Cx} {K : PySem.W.Frag}
theorem pg_tupK {es : List Expr} {k : Nat} {t : TGs} {n : Nat} {pos : Pos} (e : X.K = K) (hc : X.calm = true) (h : PGs X es t)
    (hn : (assignEach es X.env).length = n := by rfl) (hst : (assignEach es X.env).findIdx? (·.1) = none := by rfl) : PG X (.Tuple es k pos) (gTup K n t) := by
  subst e
  exact pg_tup hc h hn hst
end
theorem tyx_list {K : PySem.W.Frag} {H : Hp} {a : Addr} {xs : List V} (h : SqL K H a xs) : TyX K H (.ref a) (.type "list") := by
  rcases h with (h | ⟨o, h⟩) | ⟨o, its, n, h, hc, _⟩
  · exact .base (.lst h)
  · exact .base (.frz h)
  · exact .kList h hc
/-- max and min of two numbers that are not negative -/
def rNN (g : Nat → Nat → Nat) : List V → Hp → VK → Prop := fun xs H Q => ∃ a b : Nat, xs = [.int (a : Nat), .int (b : Nat)] ∧ Q (.int ((g a b : Nat) : Int)) H
section
variable {X : Cx}
theorem max2N (hc : X.calm = true) : CallR X (.builtin "max") (rNN max) := by
  intro pins s σ H xs us Q I r h
  obtain ⟨a, b, rfl, q⟩ := h
  refine call_max2 hc pins s σ H _ us Q I r ⟨_, _, rfl, ?_⟩
  have e : (if (b : Int) > (a : Int) then (b : Int) else (a : Int)) = ((max a b : Nat) : Int) := by split <;> omega
  rw [e]
  exact q
theorem max0N (hc : X.calm = true) : CallR X (.builtin "max") (fun xs H Q => ∃ (z : Int) (n : Nat), xs = [.int 0, .int z] ∧ (if z > 0 then z else 0) = (n : Int) ∧ Q (.int (n : Nat)) H) := by
  intro pins s σ H xs us Q I r h
  obtain ⟨z, n, rfl, e, q⟩ := h
  refine call_max2 hc pins s σ H _ us Q I r ⟨0, z, rfl, ?_⟩
  rw [e]
  exact q
theorem min2N (hc : X.calm = true) : CallR X (.builtin "min") (rNN min) := by
  intro pins s σ H xs us Q I r h
  obtain ⟨a, b, rfl, q⟩ := h
  refine call_min2 hc pins s σ H _ us Q I r ⟨_, _, rfl, ?_⟩
  have e : (if (b : Int) < (a : Int) then (b : Int) else (a : Int)) = ((min a b : Nat) : Int) := by split <;> omega
  rw [e]
  exact q
end
/-- one rest behind several ways -/
theorem cut_at {α : Type} {I : α → Hp → Prop} {G : Prop} (R : α → Hp → Prop) (h1 : (∀ a H, I a H → R a H) → G) (h2 : ∀ a H, I a H → R a H) : G := h1 h2
theorem cut_rest {I : Hp → Prop} {G : Prop} (R : Hp → Prop) (h1 : (∀ H, I H → R H) → G) (h2 : ∀ H, I H → R H) : G := h1 h2
/-! ### digits: the mathematics -/
/-- k is the level of d at n -/
def IsLev (b n d k : Nat) : Prop := n / b ^ (k + 1) = d / b ^ (k + 1) ∧ ∀ j, j < k → n / b ^ (j + 1) ≠ d / b ^ (j + 1)
abbrev Row3 := Nat × Nat × Nat
/-- the stations below level k -/
def tailOf (b d : Nat) : Nat → List Row3
  | 0 => []
  | k + 1 => if d / b ^ k % b ≠ 0 then (k, d / b ^ k % b, d / b ^ (k + 1) * b ^ (k + 1)) :: tailOf b d k else tailOf b d k
/-- the stations of a timer set at n, k its level -/
def rowsOf (b n d k : Nat) : List Row3 := (k, d / b ^ k % b, n) :: tailOf b d k
theorem div_succ (n b k : Nat) : n / b ^ (k + 1) = n / b ^ k / b := by
  rw [Nat.pow_succ, Nat.div_div_eq_div_mul]
theorem pow_pos' {b : Nat} (h : 2 ≤ b) (k : Nat) : 0 < b ^ k := Nat.pow_pos (by omega)
theorem IsLev.uniq {b n d k k' : Nat} (h : IsLev b n d k) (h' : IsLev b n d k') : k = k' := by
  rcases Nat.lt_trichotomy k k' with l | l | l
  · exact absurd h.1 (h'.2 k l)
  · exact l
  · exact absurd h'.1 (h.2 k' l)
theorem IsLev.ne {b n d k : Nat} (h : IsLev b n d k) (hnd : n < d) : n / b ^ k < d / b ^ k := by
  cases k with
  | zero =>
    rw [Nat.pow_zero, Nat.div_one, Nat.div_one]
    exact hnd
  | succ j =>
    have h1 := h.2 j (Nat.lt_succ_self j)
    have h2 : n / b ^ (j + 1) ≤ d / b ^ (j + 1) := Nat.div_le_div_right (Nat.le_of_lt hnd)
    omega
theorem IsLev.size {b n d k : Nat} (h : IsLev b n d k) (hb : 2 ≤ b) (hnd : n < d) : b ^ k ≤ d := by
  have h1 := h.ne hnd
  have h2 : 0 < d / b ^ k := Nat.lt_of_le_of_lt (Nat.zero_le _) h1
  exact (Nat.div_pos_iff.mp h2).2
theorem IsLev.digit {b n d k : Nat} (h : IsLev b n d k) (hnd : n < d) : n / b ^ k % b < d / b ^ k % b := by
  have h1 := h.ne hnd
  have h2 := h.1
  rw [div_succ, div_succ] at h2
  have e1 := Nat.div_add_mod (n / b ^ k) b
  have e2 := Nat.div_add_mod (d / b ^ k) b
  rw [h2] at e1
  omega
theorem pow_two_le {b : Nat} (hb : 2 ≤ b) (k : Nat) : 2 ^ k ≤ b ^ k := Nat.pow_le_pow_left hb k
theorem lev_small {b n d k t : Nat} (h : IsLev b n d k) (hb : 2 ≤ b) (hnd : n < d) (hd : d < 2 ^ t) : k < t := by
  have h1 := h.size hb hnd
  have h2 := pow_two_le hb k
  exact (Nat.pow_lt_pow_iff_right (by decide : 1 < 2)).mp (Nat.lt_of_le_of_lt (Nat.le_trans h2 h1) hd)
/-- cutting below: what two cuts beside one another differ by -/
theorem cut_step (b d k : Nat) : d / b ^ k * b ^ k = d / b ^ (k + 1) * b ^ (k + 1) + d / b ^ k % b * b ^ k := by
  rw [div_succ]
  have e := Nat.div_add_mod (d / b ^ k) b
  have e2 : b ^ (k + 1) = b * b ^ k := by rw [Nat.pow_succ, Nat.mul_comm]
  rw [e2, ← Nat.mul_assoc, ← Nat.add_mul, Nat.mul_comm (d / b ^ k / b) b, e]
theorem cut_le (b d k : Nat) : d / b ^ k * b ^ k ≤ d := Nat.div_mul_le_self d (b ^ k)
theorem cut_mono (b d : Nat) {j k : Nat} (h : j ≤ k) : d / b ^ k * b ^ k ≤ d / b ^ j * b ^ j := by
  induction k with
  | zero =>
    have e : j = 0 := by omega
    rw [e]
    exact Nat.le_refl _
  | succ k ih =>
    by_cases e : j = k + 1
    · rw [e]
      exact Nat.le_refl _
    · have h1 := ih (by omega)
      have h2 := cut_step b d k
      omega
theorem lt_cut {b n d k : Nat} (hb : 2 ≤ b) (h : n / b ^ k < d / b ^ k) : n < d / b ^ k * b ^ k := by
  have hp := pow_pos' hb k
  exact (Nat.div_lt_iff_lt_mul hp).mp h
theorem tail_len (b d : Nat) : ∀ k, (tailOf b d k).length ≤ k
  | 0 => Nat.le_refl _
  | k + 1 => by
    have ih := tail_len b d k
    unfold tailOf
    split
    · rw [List.length_cons]
      omega
    · omega
/-- a later tick that lies ahead of the next cut has the same level -/
theorem IsLev.later {b n d k t : Nat} (hb : 2 ≤ b) (h : IsLev b n d k) (hnd : n < d) (h1 : n ≤ t) (h2 : t < d / b ^ k * b ^ k) : IsLev b t d k := by
  have hp := pow_pos' hb k
  have hp1 := pow_pos' hb (k + 1)
  have htd : t < d := Nat.lt_of_lt_of_le h2 (cut_le b d k)
  refine ⟨?_, fun j hj => ?_⟩
  · have a1 : n / b ^ (k + 1) ≤ t / b ^ (k + 1) := Nat.div_le_div_right h1
    have a2 : t / b ^ (k + 1) ≤ d / b ^ (k + 1) := Nat.div_le_div_right (Nat.le_of_lt htd)
    have a3 := h.1
    omega
  · have a1 : t / b ^ k < d / b ^ k := (Nat.div_lt_iff_lt_mul hp).mpr h2
    intro e
    have e2 : k = (j + 1) + (k - (j + 1)) := by omega
    rw [e2, Nat.pow_add, ← Nat.div_div_eq_div_mul, ← Nat.div_div_eq_div_mul, e] at a1
    omega
/-! ### rules that the layer lacks: min(.., default=None), sorted of a dict with pairs of ints as its keys -/
theorem minOf_spec : ∀ (x : Int) (xs : List Int), PySem.W.minOf x xs ∈ x :: xs ∧ ∀ y ∈ x :: xs, PySem.W.minOf x xs ≤ y := by
  intro x xs
  unfold PySem.W.minOf
  induction xs generalizing x with
  | nil =>
    refine ⟨List.mem_cons_self .., fun y hy => ?_⟩
    rcases List.mem_cons.mp hy with e | hy
    · rw [e]
      exact Int.le_refl _
    · cases hy
  | cons z zs ih =>
    have e : (PySem.W.DatumOrd.lt z x = true) ↔ z < x := by
      show decide (z < x) = true ↔ z < x
      exact decide_eq_true_iff
    rw [List.foldl_cons]
    obtain ⟨h1, h2⟩ := ih (if PySem.W.DatumOrd.lt z x = true then z else x)
    refine ⟨?_, fun y hy => ?_⟩
    · rcases List.mem_cons.mp h1 with e1 | h1
      · rw [e1]
        split
        · exact List.mem_cons_of_mem _ (List.mem_cons_self ..)
        · exact List.mem_cons_self ..
      · exact List.mem_cons_of_mem _ (List.mem_cons_of_mem _ h1)
    · have h3 := h2 _ (List.mem_cons_self ..)
      rcases List.mem_cons.mp hy with e1 | hy
      · rw [e1]
        by_cases c : z < x
        · rw [if_pos (e.mpr c)] at h3 ⊢
          omega
        · rw [if_neg (fun q => c (e.mp q))] at h3 ⊢
          exact h3
      · rcases List.mem_cons.mp hy with e1 | hy
        · rw [e1]
          by_cases c : z < x
          · rw [if_pos (e.mpr c)] at h3 ⊢
            exact h3
          · rw [if_neg (fun q => c (e.mp q))] at h3 ⊢
            omega
        · exact h2 y (List.mem_cons_of_mem _ hy)
def rMinD (K : PySem.W.Frag) : List V → List V → Hp → VK → Prop := fun vs zs H Q => ∃ (a : Addr) (ns : List Int), vs = [V.ref a] ∧ zs = [.non] ∧ SqL K H a (ns.map V.int) ∧ (ns = [] → Q .non H) ∧ ∀ v ∈ ns, (∀ x ∈ ns, v ≤ x) → Q (.int v) H
section
variable {X : Cx} {K : PySem.W.Frag}
theorem minDef (e : X.K = K) (hc : X.calm = true) (hu : X.A.units + 64 < cLine) : CallRK X (.builtin "min") [Str.ofString "default"] (rMinD K) := by
  subst e
  intro pins s σ H vs zs us ws Q I r rz h
  obtain ⟨a, ns, rfl, rfl, hs, q0, q1⟩ := h
  obtain ⟨its, rv, hl, hz⟩ := I.list hs
  obtain ⟨w1, rfl, e1⟩ := vals1 rz
  obtain rfl : w1 = Value.none := e1
  rw [Vals.ref1 r]
  have hi := rv.ints
  refine PySem.W.min_list_datum_default (α := Int) (xs := ns) (I.ok.hd hc) hl.isList (PySem.W.HoldAll.of_ints hi) (by show X.A.units + 1 + 0 < cLine; omega) (fun en h' tk hk => ?_) (fun y ys i v h' tk en hv hh hk => ?_)
  · exact ⟨.non, H, I.kept hk, rfl, q0 en⟩
  · obtain ⟨as, hr⟩ := hh
    have hm := minOf_spec y ys
    have ev : ∃ t, v = Value.int (PySem.W.minOf y ys) t := by
      cases hr
      exact ⟨_, rfl⟩
    obtain ⟨t, rfl⟩ := ev
    subst en
    exact ⟨.int _, H, I.kept hk, ⟨_, rfl⟩, q1 _ hm.1 hm.2⟩
end
/-! ### lambdas: a def whose code object is told, tables of code objects -/
section
variable {P : Program} {w : World} {K : PySem.W.Frag} {mg : Str → Option Value} {base : Heap}
/-- the name that the lambdas of the def q bear -/
def lamQ (q : Str) : Str := (q ++ ".<locals>.") ++ "<lambda>"
/-- a def as it stands behind the top, its code object told -/
structure FunC (K : PySem.W.Frag) (x : Str) (st : Stmt) (f : Addr) (fd : FuncData) (cdv : Value) : Prop where
  at_ : ∃ (oc kV doc pm ct : Value) (od an : Option Addr) (osl : Array (Option Value)),
    fd = PySem.W.fnOf x x (defArgs st) (defBody st) (defScope st) .none kV doc pm an cdv ct ∧ K.lookup f = some ⟨oc, od, .func fd, osl⟩ ∧ PySem.W.codeIn K cdv x = true
  kp : PySem.W.keepIn K (.ref f) = true
theorem funC_mk {x : Str} {st : Stmt} {f : Addr} {oc : Value} {od an : Option Addr} {osl : Array (Option Value)} {kV doc pm cdv ct : Value} (l : K.lookup f = some ⟨oc, od, .func (PySem.W.fnOf x x (defArgs st) (defBody st) (defScope st) .none kV doc pm an cdv ct), osl⟩)
    (c : PySem.W.codeIn K cdv x = true) (k : PySem.W.keepIn K (.ref f) = true) : FunC K x st f (PySem.W.fnOf x x (defArgs st) (defBody st) (defScope st) .none kV doc pm an cdv ct) cdv := ⟨⟨oc, kV, doc, pm, ct, od, an, osl, rfl, l, c⟩, k⟩
theorem FunC.fn {x : Str} {st : Stmt} {f : Addr} {fd : FuncData} {cdv : Value} (F : FunC K x st f fd cdv) : Fun K x x st f fd := by
  obtain ⟨⟨oc, kV, doc, pm, ct, od, an, osl, e1, e2, e3⟩, kp⟩ := F
  exact ⟨⟨oc, od, kV, doc, pm, an, cdv, ct, osl, e1, e2, e3⟩, kp⟩
theorem FunC.ok {x : Str} {st : Stmt} {f : Addr} {fd : FuncData} {cdv : Value} {N ps : List Str} {k : Nat} {sp : Sp} (F : FunC K x st f fd cdv) (S : FnScope N ps (defScope st)) (len : ∀ vs H Q E, sp vs H Q E → vs.length = ps.length)
    (hb : ∀ (A : Around) (outer : List Env) (s : Shared) (H : Hp) (vs : List V) (Q : VK) (E : XK), Room k (A.deeper (envOfC x (defScope st) s.heap.objs.size f cdv)) → sp vs H Q E →
      ∃ t, PSs (cxOf CX0 P w K mg base N x (defScope st) f cdv A outer s H E).nox (defBody st) t ∧ t { nx := fun _ H' => Q .non H', rt := Q } (start N vs) H) : FnOk P w K mg base CX0 (k + 1) f fd ps sp := by
  obtain ⟨⟨oc, kV, doc, pm, ct, od, an, osl, e1, e2, e3⟩, kp⟩ := F
  subst e1
  refine fn_of e2 e3 S len fun A outer s H vs Q E hr' hs' => ?_
  obtain ⟨t, h1, h2⟩ := hb A outer s H vs Q E hr' hs'
  exact ⟨t, h1.nox, h2⟩
end
theorem extN_same {H H1 : Hp} (s : Same H H1) : LamX.ExtN H H1 := fun b o e _ => s b o e
theorem ExtN.seq {K : PySem.W.Frag} {H H1 : Hp} {a : Addr} {xs : List V} (e : LamX.ExtN H H1) (h : SqL K H a xs) : SqL K H1 a xs := by
  rcases h with (h | ⟨o, h⟩) | h
  · exact .inl (.inl (e _ _ h (fun ps z => by cases z)))
  · exact .inl (.inr ⟨o, e _ _ h (fun ps z => by cases z)⟩)
  · exact .inr h
theorem Tabs.same {T : List (Addr × Str)} {H H1 : Hp} (t : LamX.Tabs T H) (s : Same H H1) : LamX.Tabs T H1 := t.ext s
/-! ### the law's own body, where no repr is under way -/
section
variable {P : Program} {w : World} {K : PySem.W.Frag} {mg mb : Str → Option Value} {base : Heap}
/-- a promise of a def that is called where no repr is under way -/
structure FnG (P : Program) (w : World) (K : PySem.W.Frag) (mg : Str → Option Value) (base : Heap) (k : Nat) (f : Addr) (fd : FuncData) (ps : List Str) (sp : Sp) : Prop where
  go : ∀ (A : Around) (outer : List Env) (s : Shared) (H : Hp) (args : Args) (us : List Value) (vs : List V) (Q : VK), A.guards = some [] → Room k A → Env0 P w K mg base A outer s H → BindsTo s fd args (ps.zip us) → Vals vs us → sp vs H Q E0 →
    codeAny (model P w) A (.call (.ref f) args) (CR CX0 outer P w H s Q E0) s
theorem FunC.okG {x : Str} {st : Stmt} {f : Addr} {fd : FuncData} {cdv : Value} {N ps : List Str} {k : Nat} {sp : Sp} (F : FunC K x st f fd cdv) (S : FnScope N ps (defScope st)) (len : ∀ vs H Q E, sp vs H Q E → vs.length = ps.length)
    (hb : ∀ (A : Around) (outer : List Env) (s : Shared) (H : Hp) (vs : List V) (Q : VK), (A.deeper (envOfC x (defScope st) s.heap.objs.size f cdv)).guards = some [] → Room k (A.deeper (envOfC x (defScope st) s.heap.objs.size f cdv)) → sp vs H Q E0 →
      ∃ t, PSs (cxOf CX0 P w K mg base N x (defScope st) f cdv A outer s H E0).nox (defBody st) t ∧ t { nx := fun _ H' => Q .non H', rt := Q } (start N vs) H) : FnG P w K mg base (k + 1) f fd ps sp := by
  obtain ⟨⟨oc, kV, doc, pm, ct, od, an, osl, e1, e2, e3⟩, kp⟩ := F
  subst e1
  constructor
  intro A outer s H args us vs Q hg hr e0 hbi hv hsp
  refine LamX.run_ofS e2 e3 S hr e0 hbi hv (len _ _ _ _ hsp) fun hr2 => ?_
  obtain ⟨t, h1, h2⟩ := hb A outer s H vs Q hg hr2 hsp
  exact ⟨t, h1.nox, h2⟩
/-- the script alone, and only where it is none of the module's own objects -/
def scriptH (K : PySem.W.Frag) (a : Addr) (vs : List Value) (ns : List Int) : Hp := fun b => if b = a ∧ K.lookup a = none then some (.frz { cls := .type "list", data := .seq vs.toArray } (.lst (ns.map V.int))) else none
theorem scriptH_some {a b : Addr} {vs : List Value} {ns : List Int} {u : HO} (h : scriptH K a vs ns b = some u) : b = a ∧ K.lookup a = none ∧ u = .frz { cls := .type "list", data := .seq vs.toArray } (.lst (ns.map V.int)) := by
  unfold scriptH at h
  split at h
  · rename_i c
    exact ⟨c.1, c.2, (Option.some.inj h).symm⟩
  · cases h
theorem scriptH_none {a b : Addr} {vs : List Value} {ns : List Int} (h : ¬ (b = a ∧ K.lookup a = none)) : scriptH K a vs ns b = none := if_neg h
/-- the state at the law's call, and what it means that the law gives True -/
theorem law_start {s₁ : Shared} {a : Addr} {vs : List Value} {ns : List Int} (KX : K.In s₁.heap) (hns : s₁.heap.Ns mainGlobals mg) (hb : s₁.heap.Ns builtinsNs mb) (hbb : ∀ x : Str, x ≠ "__name__" → mb x = bootBuiltins x) (hlim : s₁.heap.NoLimit) (hg : s₁.gens = #[])
    (ha : s₁.heap.get? a = some { cls := .type "list", data := .seq vs.toArray }) (hi : IntsAre vs ns) (hl : ns.length ≤ sizeLine) :
    Env0 P w K mg (hidT s₁.heap (scriptH K a vs ns)) PySem.callerA [] s₁ (scriptH K a vs ns) ∧ SqL K (scriptH K a vs ns) a (ns.map V.int) ∧
      ∀ (u : Value) (s' : Shared), CE [] P w (scriptH K a vs ns) s₁ (fun v _ => v = .bl true) u s' → u = .bool true ∧ PySem.OldK s₁.heap s'.heap ∧ s'.os = s₁.os ∧ AllBare s'.gens := by
  have rv := vals_ints hi
  have hok : HOk P w (scriptH K a vs ns) s₁.heap := fun b u e => by
    obtain ⟨rfl, _, rfl⟩ := scriptH_some e
    exact ⟨ha, by rw [List.length_map]; exact hl, vs, _, rv, ha⟩
  have dictN : ∀ {b : Addr} {m : Str → Option Value}, s₁.heap.Ns b m → (hidT s₁.heap (scriptH K a vs ns)).Ns b m := fun {b m} h => by
    obtain ⟨o, es, ep, e, d, r⟩ := h
    refine ⟨o, es, ep, hidT_get e (scriptH_none fun z => ?_), d, r⟩
    rw [z.1, ha] at e
    cases e
    cases d
  have kin : K.In (hidT s₁.heap (scriptH K a vs ns)) := fun b o e => hidT_get (KX b o e) (scriptH_none fun z => by
    rw [z.1, z.2] at e
    cases e)
  obtain ⟨mc, l1, l2⟩ := hlim
  refine ⟨⟨rfl, ⟨kin, dictN hns, ⟨mb, dictN hb, hbb⟩, ⟨mc, dictN l1, l2⟩⟩, fun b o e => of_hidT e, Nat.le_of_eq (hidT_size _ _), trivial, (fun b z => by cases z), hok, .of_eq hg⟩, ?_, fun u s' h => ?_⟩
  · cases hk : K.lookup a with
    | none => exact .inl (.inr ⟨{ cls := .type "list", data := .seq vs.toArray }, if_pos ⟨rfl, hk⟩⟩)
    | some o =>
      have e := KX a o hk
      rw [ha] at e
      cases e
      exact .inr ⟨_, vs.toArray, _, hk, rfl, rfl, rfl, by rw [List.size_toArray, hi.length]; exact hl, by simpa using rv⟩
  · obtain ⟨v, H', e1, e2, un, ok2, r, q⟩ := h
    cases q
    refine ⟨r, PySem.OldK.of_keep fun b o e => ?_, e1, e2⟩
    by_cases c : b = a ∧ K.lookup a = none
    · obtain ⟨rfl, c2⟩ := c
      have z : scriptH K b vs ns b = some (.frz { cls := .type "list", data := .seq vs.toArray } (.lst (ns.map V.int))) := if_pos ⟨rfl, c2⟩
      rw [ha] at e
      cases e
      exact (ok2 _ _ (un.frzs _ _ _ z)).1
    · exact un.keep b o e (scriptH_none c) (fun z => by cases z) (fun z => by cases z)
end
/-- the end of a law whose body asks what is under way -/
theorem walk_guard {l : PySem.W.OpenLaw} {n k : Nat} {q : Program} {loose : List Str} {XP : (Str → Option Value) → Heap → Prop} {YP : World → Heap → Prop} {d : DefRec} {K : Params → PySem.W.Frag} {x : Str}
    (hn : l.most = some n) (hn2 : n ≤ sizeLine) (hdf : d.params.defaults = []) (hr : Room k PySem.callerA) (hY : ∀ (w : World) (h : Heap), YP w h → (K w.params).In h)
    (F : ∀ (w : World) (mg : Str → Option Value) (fa : Addr) (h : Heap), (K w.params).In h → h.Ns mainGlobals mg → mg d.name = some (.ref fa) → ∃ (fd : FuncData) (sp : Sp), (∀ (s : Shared) (u : Value), BindsTo s fd ⟨[u], []⟩ [(x, u)]) ∧
      (∀ (H : Hp) (a : Addr) (ns : List Int), ns.length ≤ n → SqL (K w.params) H a (ns.map V.int) → sp [.ref a] H (fun v _ => v = .bl true) E0) ∧ ∀ base : Heap, (K w.params).In base → base.Ns mainGlobals mg → FnG l.prog w (K w.params) mg base k fa fd [x] sp) :
    PySem.W.WalkO q loose XP YP l.row.toRowW d [] (fun f vs => PySem.call f vs) := by
  apply Att.attach_call hn hdf
  intro w s₀ s₁ mg mb fa o pm cd doc a vs ns G Y _ _ _ hmg hobj hints hlen hg
  obtain ⟨fd, sp, b1, b2, b3⟩ := F w mg fa s₁.heap (hY w _ Y) G.T.g hmg
  obtain ⟨e0, hS, fin⟩ := law_start (P := l.prog) (w := w) (hY w _ Y) G.T.g G.T.b G.T.builtins G.T.nolimit hg hobj hints (Nat.le_trans hlen hn2)
  refine codeAny_mono ((b3 _ e0.mod.kin e0.mod.glob).go PySem.callerA [] s₁ _ ⟨[.ref a], []⟩ [.ref a] [.ref a] (fun v _ => v = .bl true) rfl hr e0 (b1 s₁ (.ref a)) (.cons rfl .nil) (b2 _ a ns hlen hS)) fun r s' h => ?_
  match r, h with
  | .ok (.ret u), h =>
    obtain ⟨rfl, h2⟩ := fin u s' h
    exact ⟨rfl, h2⟩
section
variable {X : Cx}
/-- repr(x) of data, where no repr is under way -/
theorem call_reprG (hg : X.A.guards = some []) (hu : X.A.units + 64 < cLine) : CallR X (.builtin "repr") (fun xs H Q => ∃ (a : Addr) (d : PyData), xs = [.ref a] ∧ Dp X.K H (.ref a) d ∧ d.depth ≤ 50 ∧ d.showable = true ∧ d.hasDict = false ∧ d.shown.length ≤ sizeLine ∧ Q (.str d.shown) H) := by
  intro pins s σ H xs us Q I r h
  obtain ⟨a, d, rfl, hd, h1, h2, h3, h4, q⟩ := h
  rw [Vals.ref1 r]
  obtain ⟨as, rd⟩ := Dp.reads I d (.ref a) (.ref a) hd rfl
  exact PySem.repr_of_reads' rd h2 (fun z => by rw [h3] at z; cases z) hg (by omega) (fun b o e => e) (fun h' u tk hk => ⟨.str d.shown, H, I.kept hk, ⟨u, rfl⟩, q⟩) h4
end
/-! ### words of levels, sides -/
def lvV (b : Bool) : V := if b then .str "stack" else .str "queue"
def sdV (b : Bool) : V := if b then .str "front" else .str "back"
theorem lv_ne : ¬ (V.str "queue" = V.str "stack") := by decide
theorem lv_dec (b : Bool) : decide (lvV b = .str "stack") = b := by
  cases b
  · exact decide_eq_false lv_ne
  · exact decide_eq_true rfl
def wordAt (ws : List Bool) (k : Nat) : Bool := ws.getD (min k (ws.length - 1)) false
theorem word_get {ws : List Bool} (h : ws ≠ []) (k : Nat) : (ws.map lvV)[min k (ws.length - 1)]? = some (lvV (wordAt ws k)) := by
  have hl : min k (ws.length - 1) < ws.length := by
    have : 0 < ws.length := List.length_pos_iff.mpr h
    omega
  rw [List.getElem?_map, List.getElem?_eq_getElem hl]
  unfold wordAt
  rw [List.getD_eq_getElem?_getD, List.getElem?_eq_getElem hl]
  rfl
/-- whether an odd number of the rows, at levels from lo on, have the word stack -/
def frontOf (ws : List Bool) (lo : Nat) (rs : List Row3) : Bool := decide (rs.countP (fun r => decide (lo ≤ r.1) && wordAt ws r.1) % 2 = 1)
theorem odd_succ (c : Nat) : decide ((c + 1) % 2 = 1) = !decide (c % 2 = 1) := by
  by_cases h : c % 2 = 1
  · rw [decide_eq_true h, decide_eq_false (by omega)]
    rfl
  · rw [decide_eq_false h, decide_eq_true (by omega)]
    rfl
theorem front_snoc (ws : List Bool) (lo : Nat) (rs : List Row3) (r : Row3) : frontOf ws lo (rs ++ [r]) = if (decide (lo ≤ r.1) && wordAt ws r.1) = true then !frontOf ws lo rs else frontOf ws lo rs := by
  unfold frontOf
  rw [List.countP_append, List.countP_singleton]
  split
  · exact odd_succ _
  · rw [Nat.add_zero]
/-! ### sides by counting digits: the mathematics -/
/-- of the indexes below j, how many have a digit other than 0 of d and the word stack -/
def cntW (ws : List Bool) (b d : Nat) : Nat → Nat
  | 0 => 0
  | k + 1 => cntW ws b d k + if d / b ^ k % b ≠ 0 ∧ wordAt ws k = true then 1 else 0
theorem tail_cnt (ws : List Bool) (b d : Nat) : ∀ k, (tailOf b d k).countP (fun r => decide (0 ≤ r.1) && wordAt ws r.1) = cntW ws b d k
  | 0 => rfl
  | k + 1 => by
    have ih := tail_cnt ws b d k
    unfold tailOf cntW
    by_cases h : d / b ^ k % b ≠ 0
    · rw [if_pos h, List.countP_cons, ih, decide_eq_true (Nat.zero_le _), Bool.true_and]
      cases hw : wordAt ws k with
      | true => rw [if_pos rfl, if_pos (show d / b ^ k % b ≠ 0 ∧ true = true from ⟨h, rfl⟩)]
      | false => rw [if_neg (by simp), if_neg (by simp)]
    · rw [if_neg h, ih, if_neg (fun z => h z.1), Nat.add_zero]
theorem front_cnt {ws : List Bool} {b n d k : Nat} (h : IsLev b n d k) (hnd : n < d) : frontOf ws 0 (rowsOf b n d k) = decide (cntW ws b d (k + 1) % 2 = 1) := by
  have hd := h.digit hnd
  have h0 : d / b ^ k % b ≠ 0 := by omega
  unfold frontOf
  have e : (rowsOf b n d k).countP (fun r => decide (0 ≤ r.1) && wordAt ws r.1) = cntW ws b d (k + 1) := by
    unfold rowsOf cntW
    rw [List.countP_cons, tail_cnt, decide_eq_true (Nat.zero_le _), Bool.true_and]
    cases hw : wordAt ws k with
    | true => rw [if_pos rfl, if_pos (show d / b ^ k % b ≠ 0 ∧ true = true from ⟨h0, rfl⟩)]
    | false => rw [if_neg (by simp), if_neg (by simp)]
  rw [e]
/-- which of two periodic timers goes ahead, where both fire again -/
def IsAhead (b : Nat) (ws : List Bool) (p1 p2 d : Nat) (v : Bool) : Prop :=
  (p1 < p2 → ∀ k, IsLev b (d - p1) d k → v = frontOf ws 0 (rowsOf b (d - p1) d k)) ∧ (¬ p1 < p2 → ∀ k, IsLev b (d - p2) d k → v = !frontOf ws 0 (rowsOf b (d - p2) d k))
/-! ### levels compared -/
theorem lev_le {b n d k : Nat} (h : IsLev b n d k) (hnd : n < d) {j : Nat} (hj : j ≤ k) : n / b ^ j < d / b ^ j := by
  have h2 : n / b ^ j ≤ d / b ^ j := Nat.div_le_div_right (Nat.le_of_lt hnd)
  rcases Nat.eq_or_lt_of_le h2 with e | l
  · cases j with
    | zero =>
      rw [Nat.pow_zero, Nat.div_one, Nat.div_one] at e
      omega
    | succ i => exact absurd e (h.2 i (by omega))
  · exact l
theorem lev_gt {b n d k : Nat} (h : IsLev b n d k) {j : Nat} (hj : k < j) : n / b ^ j = d / b ^ j := by
  have e : j = (k + 1) + (j - (k + 1)) := by omega
  rw [e, Nat.pow_add, ← Nat.div_div_eq_div_mul, ← Nat.div_div_eq_div_mul, h.1]
theorem lev_any {b n d : Nat} (hb : 2 ≤ b) (hnd : n < d) : ∃ k, IsLev b n d k := by
  have H : ∀ t, n / b ^ t = d / b ^ t → ∃ k, IsLev b n d k := by
    intro t
    induction t with
    | zero =>
      intro e
      rw [Nat.pow_zero, Nat.div_one, Nat.div_one] at e
      omega
    | succ t ih =>
      intro e
      by_cases c : n / b ^ t = d / b ^ t
      · exact ih c
      · refine ⟨t, e, fun j hj z => c ?_⟩
        have e2 : t = (j + 1) + (t - (j + 1)) := by omega
        rw [e2, Nat.pow_add, ← Nat.div_div_eq_div_mul, ← Nat.div_div_eq_div_mul, z]
  have hl : d < b ^ d := Nat.lt_of_lt_of_le Nat.lt_two_pow_self (Nat.pow_le_pow_left hb d)
  refine H d ?_
  rw [Nat.div_eq_of_lt hl, Nat.div_eq_of_lt (by omega)]
/-! ### how often one timer goes first: the mathematics -/
/-- whether a timer set at n and due at d goes in front -/
noncomputable def frB (ws : List Bool) (b n d : Nat) : Bool := @decide (∃ k, IsLev b n d k ∧ frontOf ws 0 (rowsOf b n d k) = true) (Classical.propDecidable _)
theorem frB_eq {ws : List Bool} {b n d k : Nat} (hk : IsLev b n d k) : frB ws b n d = frontOf ws 0 (rowsOf b n d k) := by
  unfold frB
  cases h : frontOf ws 0 (rowsOf b n d k) with
  | true => exact @decide_eq_true _ (Classical.propDecidable _) ⟨k, hk, h⟩
  | false =>
    refine @decide_eq_false _ (Classical.propDecidable _) fun ⟨k', hk', h'⟩ => ?_
    rw [hk'.uniq hk, h] at h'
    cases h'
noncomputable def ahB (ws : List Bool) (b p q t : Nat) : Bool := if p < q then frB ws b (t - p) t else !frB ws b (t - q) t
theorem IsAhead.eq {b p q t : Nat} {ws : List Bool} {v : Bool} (h : IsAhead b ws p q t v) (hb : 2 ≤ b) (hp : 1 ≤ p) (hq : 1 ≤ q) (hpt : p ≤ t) (hqt : q ≤ t) : v = ahB ws b p q t := by
  unfold ahB
  by_cases c : p < q
  · obtain ⟨k, hk⟩ := lev_any (n := t - p) (d := t) hb (by omega)
    rw [if_pos c, h.1 c k hk, frB_eq hk]
  · obtain ⟨k, hk⟩ := lev_any (n := t - q) (d := t) hb (by omega)
    rw [if_neg c, h.2 c k hk, frB_eq hk]
theorem ahB_swap {ws : List Bool} {b p q t : Nat} (h : p ≠ q) : ahB ws b q p t = !ahB ws b p q t := by
  unfold ahB
  by_cases c : p < q
  · rw [if_pos c, if_neg (by omega)]
  · rw [if_neg c, if_pos (by omega), Bool.not_not]
def fireB (a p t : Nat) : Bool := decide (a < t ∧ (t - a) % p = 0)
theorem fire_ge {a p t : Nat} (hp : 1 ≤ p) : (a + p ≤ t ∧ (t - a) % p = 0) ↔ (a < t ∧ (t - a) % p = 0) := by
  constructor
  · rintro ⟨h1, h2⟩
    exact ⟨by omega, h2⟩
  · rintro ⟨h1, h2⟩
    have := Nat.le_of_dvd (by omega) (Nat.dvd_of_mod_eq_zero h2)
    exact ⟨by omega, h2⟩
def bothB (a p o q t : Nat) : Bool := fireB a p t && fireB o q t
theorem bothB_iff {a p o q t : Nat} : bothB a p o q t = true ↔ (a < t ∧ (t - a) % p = 0) ∧ (o < t ∧ (t - o) % q = 0) := by
  unfold bothB fireB
  rw [Bool.and_eq_true, decide_eq_true_iff, decide_eq_true_iff]
/-- how many of n numbers from lo on have a property -/
def cntP (P : Nat → Bool) (lo : Nat) : Nat → Nat
  | 0 => 0
  | n + 1 => cntP P lo n + if P (lo + n) = true then 1 else 0
theorem cntP_zero {P : Nat → Bool} {lo : Nat} : ∀ n, (∀ t, lo ≤ t → t < lo + n → P t = false) → cntP P lo n = 0
  | 0, _ => rfl
  | n + 1, h => by
    unfold cntP
    rw [cntP_zero n (fun t h1 h2 => h t h1 (by omega)), h (lo + n) (by omega) (by omega)]
    rfl
theorem cntP_add (P : Nat → Bool) (lo m : Nat) : ∀ n, cntP P lo (m + n) = cntP P lo m + cntP P (lo + m) n
  | 0 => rfl
  | n + 1 => by
    show cntP P lo (m + n) + (if P (lo + (m + n)) = true then 1 else 0) = cntP P lo m + (cntP P (lo + m) n + if P (lo + m + n) = true then 1 else 0)
    rw [cntP_add P lo m n, show lo + (m + n) = lo + m + n by omega]
    omega
theorem cntP_congr {P R : Nat → Bool} {lo : Nat} : ∀ n, (∀ t, lo ≤ t → t < lo + n → P t = R t) → cntP P lo n = cntP R lo n
  | 0, _ => rfl
  | n + 1, h => by
    unfold cntP
    rw [cntP_congr n (fun t h1 h2 => h t h1 (by omega)), h (lo + n) (by omega) (by omega)]
/-- of n numbers from m on, e apart -/
def cntW2 (P : Nat → Bool) (m e : Nat) : Nat → Nat
  | 0 => 0
  | n + 1 => cntW2 P m e n + if P (m + n * e) = true then 1 else 0
theorem cntW2_windows {P : Nat → Bool} {m e : Nat} (he : 1 ≤ e) (h : ∀ t, P t = true → m ≤ t → e ∣ t - m) : ∀ n, cntP P m (n * e) = cntW2 P m e n
  | 0 => by
    rw [Nat.zero_mul]
    rfl
  | n + 1 => by
    have ih := cntW2_windows he h n
    have e1 : (n + 1) * e = n * e + (1 + (e - 1)) := by
      rw [Nat.succ_mul]
      omega
    rw [e1, cntP_add, ih, cntP_add]
    have z : cntP P (m + n * e + 1) (e - 1) = 0 := by
      refine cntP_zero _ fun t h1 h2 => ?_
      cases hp : P t with
      | false => rfl
      | true =>
        obtain ⟨k, hk⟩ := h t hp (by omega)
        have a1 : n * e < e * k := by omega
        have a2 : e * k < (n + 1) * e := by
          rw [Nat.succ_mul]
          omega
        rw [Nat.mul_comm e k] at a1 a2
        have b1 := Nat.lt_of_mul_lt_mul_right a1
        have b2 := Nat.lt_of_mul_lt_mul_right a2
        omega
    rw [z]
    show cntW2 P m e n + (0 + (if P (m + n * e + 0) = true then 1 else 0) + 0) = cntW2 P m e n + if P (m + n * e) = true then 1 else 0
    rw [Nat.add_zero, Nat.add_zero, Nat.zero_add]
def meetM (f e x : Nat) : Nat := f + (x - f + (e - 1)) / e * e
def meetN (m e y : Nat) : Nat := (y - m + (e - 1)) / e
theorem up_ge {x e : Nat} (he : 1 ≤ e) : x ≤ (x + (e - 1)) / e * e := by
  have h1 := Nat.div_add_mod (x + (e - 1)) e
  have h2 := Nat.mod_lt (x + (e - 1)) (show 0 < e by omega)
  rw [Nat.mul_comm] at h1
  omega
theorem up_lt {x e k : Nat} (he : 1 ≤ e) (hk : k < (x + (e - 1)) / e) : k * e < x := by
  have h1 : (k + 1) * e ≤ x + (e - 1) := by
    have := (Nat.le_div_iff_mul_le (show 0 < e by omega)).mp hk
    exact this
  rw [Nat.succ_mul] at h1
  omega
theorem meetM_ge {f e x : Nat} (he : 1 ≤ e) : x ≤ meetM f e x := by
  unfold meetM
  have := up_ge (x := x - f) he
  omega
theorem meetM_le {f e x t : Nat} (he : 1 ≤ e) (h1 : x ≤ t) (h2 : f ≤ t) (h3 : e ∣ t - f) : meetM f e x ≤ t := by
  obtain ⟨k, hk⟩ := h3
  unfold meetM
  rcases Nat.lt_or_ge k ((x - f + (e - 1)) / e) with l | l
  · have := up_lt he l
    rw [Nat.mul_comm] at this
    omega
  · have z : (x - f + (e - 1)) / e * e ≤ k * e := Nat.mul_le_mul_right e l
    rw [Nat.mul_comm k e] at z
    omega
theorem meet_dvd {f e x t : Nat} (h1 : meetM f e x ≤ t) (h3 : e ∣ t - f) : e ∣ t - meetM f e x := by
  unfold meetM at h1 ⊢
  have z : t - (f + (x - f + (e - 1)) / e * e) = (t - f) - (x - f + (e - 1)) / e * e := by omega
  rw [z]
  exact Nat.dvd_sub h3 (Nat.dvd_mul_left e _)
theorem meetM_dvd {f e x k : Nat} : e ∣ meetM f e x + k * e - f := by
  unfold meetM
  have z : f + (x - f + (e - 1)) / e * e + k * e - f = (x - f + (e - 1)) / e * e + k * e := by omega
  rw [z]
  exact Nat.dvd_add (Nat.dvd_mul_left e _) (Nat.dvd_mul_left e _)
/-- a range counted by the ticks at which both fire -/
theorem cnt_range {P : Nat → Bool} {f e x y : Nat} (he : 1 ≤ e) (hxy : x ≤ y) (h : ∀ t, P t = true → f ≤ t ∧ e ∣ t - f) : cntP P x (y - x) = cntW2 P (meetM f e x) e (meetN (meetM f e x) e y) := by
  have hx := meetM_ge (f := f) (x := x) he
  have hle : ∀ t, P t = true → x ≤ t → meetM f e x ≤ t := fun t hp ht => meetM_le he ht (h t hp).1 (h t hp).2
  have hdv : ∀ t, P t = true → meetM f e x ≤ t → e ∣ t - meetM f e x := fun t hp ht => meet_dvd ht (h t hp).2
  rw [← cntW2_windows he hdv]
  have hge : ∀ k, k < meetN (meetM f e x) e y → meetM f e x + k * e < y := fun k hk => by
    have := up_lt he hk
    omega
  have hup : y ≤ meetM f e x + meetN (meetM f e x) e y * e := by
    have := up_ge (x := y - meetM f e x) he
    unfold meetN
    omega
  generalize meetM f e x = m at *
  generalize meetN m e y = n at *
  have e1 : cntP P x (m - x + n * e) = cntP P m (n * e) := by
    rw [cntP_add, cntP_zero (m - x), Nat.zero_add, show x + (m - x) = m by omega]
    intro t h1 h2
    cases hp : P t with
    | false => rfl
    | true =>
      have := hle t hp h1
      omega
  have e2 : cntP P x (m - x + n * e) = cntP P x (y - x) := by
    rw [show m - x + n * e = (y - x) + (m + n * e - y) by omega, cntP_add, cntP_zero (m + n * e - y), Nat.add_zero]
    intro t h1 h2
    cases hp : P t with
    | false => rfl
    | true =>
      have h3 := hle t hp (by omega)
      obtain ⟨k, hk⟩ := hdv t hp h3
      rw [Nat.mul_comm] at hk
      have h4 : k * e < n * e := by omega
      have h5 := hge k (Nat.lt_of_mul_lt_mul_right h4)
      omega
  rw [← e2, e1]
/-- the ticks of a progression that lie behind a tick -/
def tickL (m e M : Nat) : Nat → List Nat
  | 0 => []
  | n + 1 => tickL m e M n ++ if M < m + n * e then [m + n * e] else []
theorem tickL_len (m e M : Nat) : ∀ n, (tickL m e M n).length ≤ n
  | 0 => Nat.le_refl _
  | n + 1 => by
    have ih := tickL_len m e M n
    unfold tickL
    rw [List.length_append]
    split
    · rw [List.length_singleton]
      omega
    · rw [List.length_nil]
      omega
theorem tickL_cnt {P A : Nat → Bool} {m e M : Nat} : ∀ n, (∀ k, k < n → P (m + k * e) = (decide (M < m + k * e) && A (m + k * e))) → (tickL m e M n).countP A = cntW2 P m e n
  | 0, _ => rfl
  | n + 1, h => by
    have ih := tickL_cnt n (fun k hk => h k (by omega))
    unfold tickL cntW2
    rw [List.countP_append, ih, h n (by omega)]
    by_cases c : M < m + n * e
    · rw [if_pos c, decide_eq_true c, Bool.true_and, List.countP_singleton]
    · rw [if_neg c, decide_eq_false c, Bool.false_and, List.countP_nil]
      rfl
theorem tickL_mem {m e M t : Nat} : ∀ {n}, t ∈ tickL m e M n → ∃ k, k < n ∧ t = m + k * e ∧ M < t
  | 0, h => by cases h
  | n + 1, h => by
    rcases List.mem_append.mp h with h | h
    · obtain ⟨k, h1, h2⟩ := tickL_mem h
      exact ⟨k, by omega, h2⟩
    · by_cases c : M < m + n * e
      · rw [if_pos c] at h
        have := List.mem_singleton.mp h
        exact ⟨n, by omega, this, by omega⟩
      · rw [if_neg c] at h
        cases h
/-! ### two wheels told apart: the mathematics -/
theorem fr_at {ws : List Bool} {b n d k : Nat} (hk : IsLev b n d k) (hnd : n < d) : frB ws b n d = decide (cntW ws b d (k + 1) % 2 = 1) := by
  rw [frB_eq hk, front_cnt hk hnd]
/-- they go to unlike sides -/
def Dif (b1 : Nat) (w1 : List Bool) (b2 : Nat) (w2 : List Bool) (n d : Nat) : Prop := frB w1 b1 n d ≠ frB w2 b2 n d
theorem Dif.swap {b1 b2 n d : Nat} {w1 w2 : List Bool} (h : Dif b1 w1 b2 w2 n d) : Dif b2 w2 b1 w1 n d := fun z => h z.symm
theorem cntW_zero {ws : List Bool} {b d : Nat} : ∀ j, (∀ i, i < j → wordAt ws i = false ∨ d / b ^ i % b = 0) → cntW ws b d j = 0
  | 0, _ => rfl
  | j + 1, h => by
    unfold cntW
    rw [cntW_zero j (fun i hi => h i (by omega)), Nat.zero_add]
    refine if_neg fun z => ?_
    rcases h j (by omega) with e | e
    · rw [e] at z
      exact absurd z.2 (by decide)
    · exact z.1 e
/-- from an index on where a stack stands with queues below it -/
theorem cntW_first {ws : List Bool} {b d i : Nat} (hq : ∀ j, j < i → wordAt ws j = false) (hs : wordAt ws i = true) : cntW ws b d (i + 1) = if d / b ^ i % b ≠ 0 then 1 else 0 := by
  unfold cntW
  rw [cntW_zero i fun j hj => .inl (hq j hj), Nat.zero_add]
  by_cases c : d / b ^ i % b ≠ 0
  · rw [if_pos c, if_pos ⟨c, hs⟩]
  · rw [if_neg c, if_neg fun z => c z.1]
/-- queues alone below: behind -/
theorem fr_queues {ws : List Bool} {b n d i : Nat} (hb : 2 ≤ b) (hnd : n < d) (hd : d < b ^ i) (hq : ∀ j, j < i → wordAt ws j = false) : frB ws b n d = false := by
  obtain ⟨k, hk⟩ := lev_any (n := n) (d := d) hb hnd
  have h1 := hk.size hb hnd
  have hki : k < i := by
    rcases Nat.lt_or_ge k i with l | l
    · exact l
    · have := Nat.pow_le_pow_right (show 0 < b by omega) l
      omega
  rw [fr_at hk hnd, cntW_zero _ fun j hj => .inl (hq j (by omega))]
  rfl
theorem fr_noStack {ws : List Bool} {b n d : Nat} (hb : 2 ≤ b) (hnd : n < d) (hq : ∀ j, wordAt ws j = false) : frB ws b n d = false :=
  fr_queues (i := d) hb hnd (Nat.lt_of_lt_of_le Nat.lt_two_pow_self (Nat.pow_le_pow_left hb d)) fun j _ => hq j
/-- a power of the base, set ahead of all: one station -/
theorem lev_zero_pow {b i : Nat} (hb : 2 ≤ b) (m : Nat) (hm : 0 < m) (hmb : m < b) : IsLev b 0 (m * b ^ i) i := by
  have hp : 0 < b ^ i := pow_pos' hb i
  constructor
  · rw [Nat.zero_div, Nat.div_eq_of_lt]
    rw [Nat.pow_succ, Nat.mul_comm]
    exact Nat.mul_lt_mul_of_pos_left hmb hp
  · intro j hj
    rw [Nat.zero_div]
    have h1 : b ^ (j + 1) ≤ b ^ i := Nat.pow_le_pow_right (by omega) (by omega)
    have h2 : 0 < m * b ^ i / b ^ (j + 1) := Nat.div_pos (Nat.le_trans h1 (Nat.le_mul_of_pos_left _ hm)) (pow_pos' hb _)
    omega
theorem dig_pow {b i : Nat} (hb : 2 ≤ b) (m : Nat) (hmb : m < b) : m * b ^ i / b ^ i % b = m := by
  rw [Nat.mul_div_cancel _ (pow_pos' hb i), Nat.mod_eq_of_lt hmb]
theorem dig_pow_low {b i j : Nat} (hb : 2 ≤ b) (m : Nat) (hj : j < i) : m * b ^ i / b ^ j % b = 0 := by
  have e : m * b ^ i = m * b ^ (i - j) * b ^ j := by rw [Nat.mul_assoc, ← Nat.pow_add, show i - j + j = i by omega]
  rw [e, Nat.mul_div_cancel _ (pow_pos' hb j), show i - j = (i - j - 1) + 1 by omega, Nat.pow_succ, ← Nat.mul_assoc]
  exact Nat.mul_mod_left _ _
/-- the side of a number with one digit alone, set at 0 -/
theorem fr_one {ws : List Bool} {b i m : Nat} (hb : 2 ≤ b) (hm : 0 < m) (hmb : m < b) : frB ws b 0 (m * b ^ i) = wordAt ws i := by
  have hp := pow_pos' hb i
  have hpos : 0 < m * b ^ i := Nat.mul_pos hm hp
  rw [fr_at (lev_zero_pow hb m hm hmb) hpos]
  unfold cntW
  rw [cntW_zero i fun j hj => .inr (dig_pow_low hb m hj), dig_pow hb m hmb, Nat.zero_add]
  cases wordAt ws i with
  | true => rw [if_pos ⟨by omega, rfl⟩]; rfl
  | false => rw [if_neg fun z => absurd z.2 (by decide)]; rfl
/-! where both have the same base -/
theorem tell_same {b n d : Nat} {w1 w2 : List Bool} (hb : 2 ≤ b) (hnd : n < d) (h : Dif b w1 b w2 n d) : ∃ j, b ^ j ≤ d ∧ wordAt w1 j ≠ wordAt w2 j := by
  obtain ⟨k, hk⟩ := lev_any (n := n) (d := d) hb hnd
  have hs := hk.size hb hnd
  unfold Dif at h
  rw [fr_at hk hnd, fr_at hk hnd] at h
  have ne : cntW w1 b d (k + 1) ≠ cntW w2 b d (k + 1) := fun e => h (by rw [e])
  have key : ∀ m, cntW w1 b d m ≠ cntW w2 b d m → ∃ j, j < m ∧ wordAt w1 j ≠ wordAt w2 j := by
    intro m
    induction m with
    | zero => exact fun z => absurd rfl z
    | succ m ih =>
      intro z
      by_cases e : wordAt w1 m = wordAt w2 m
      · obtain ⟨j, hj, hw⟩ := ih fun y => z (by unfold cntW; rw [y, e])
        exact ⟨j, by omega, hw⟩
      · exact ⟨m, by omega, e⟩
  obtain ⟨j, hj, hw⟩ := key _ ne
  exact ⟨j, Nat.le_trans (Nat.pow_le_pow_right (by omega) (by omega)) hs, hw⟩
theorem dif_pow {b j : Nat} {w1 w2 : List Bool} (hb : 2 ≤ b) (h : wordAt w1 j ≠ wordAt w2 j) : Dif b w1 b w2 0 (b ^ j) := by
  have e1 := fr_one (ws := w1) (i := j) hb (show 0 < 1 by omega) (by omega)
  have e2 := fr_one (ws := w2) (i := j) hb (show 0 < 1 by omega) (by omega)
  rw [Nat.one_mul] at e1 e2
  unfold Dif
  rw [e1, e2]
  exact h
/-! where the bases differ -/
/-- the lowest stack stands at i -/
def LowS (ws : List Bool) (i : Nat) : Prop := wordAt ws i = true ∧ ∀ j, j < i → wordAt ws j = false
/-- with one digit alone above the queues -/
theorem fr_low {ws : List Bool} {b n d i : Nat} (hb : 2 ≤ b) (hnd : n < d) (hi : LowS ws i) (hd : d < b ^ (i + 1)) : frB ws b n d = decide (n / b ^ i ≠ d / b ^ i) := by
  obtain ⟨k, hk⟩ := lev_any (n := n) (d := d) hb hnd
  have hki : k ≤ i := by
    have h1 := hk.size hb hnd
    rcases Nat.lt_or_ge i k with l | l
    · have := Nat.pow_le_pow_right (show 0 < b by omega) (show i + 1 ≤ k from l)
      omega
    · exact l
  rw [fr_at hk hnd]
  by_cases c : n / b ^ i = d / b ^ i
  · have hlt : k < i := by
      rcases Nat.lt_or_ge k i with l | l
      · exact l
      · have e : k = i := by omega
        rw [e] at hk
        exact absurd c (Nat.ne_of_lt (hk.ne hnd))
    rw [cntW_zero _ fun j hj => .inl (hi.2 j (by omega)), decide_eq_false (show ¬ n / b ^ i ≠ d / b ^ i from fun z => z c)]
    rfl
  · have e : k = i := by
      rcases Nat.lt_or_ge k i with l | l
      · exfalso
        have h1 := hk.1
        have : n / b ^ i = d / b ^ i := by
          rw [show i = (k + 1) + (i - (k + 1)) by omega, Nat.pow_add, ← Nat.div_div_eq_div_mul, ← Nat.div_div_eq_div_mul, h1]
        exact c this
      · omega
    subst e
    have hdig := hk.digit hnd
    rw [cntW_first hi.2 hi.1, if_pos (by omega), decide_eq_true (show n / b ^ k ≠ d / b ^ k from c)]
    rfl
theorem tell_less {b1 b2 n d i1 i2 : Nat} {w1 w2 : List Bool} (h1 : 2 ≤ b1) (h2 : 2 ≤ b2) (l1 : LowS w1 i1) (l2 : LowS w2 i2) (e : b1 ^ i1 = b2 ^ i2) (hlt : b1 < b2) (hnd : n < d) (h : Dif b1 w1 b2 w2 n d) :
    (b1 * b1 ^ i1 ≤ d ∧ (wordAt w1 (i1 + 1) = false → Dif b1 w1 b2 w2 0 (b1 * b1 ^ i1)) ∧ (wordAt w1 (i1 + 1) = true → (b1 + 1) * b1 ^ i1 ≤ d ∧ ∃ n', n' < (b1 + 1) * b1 ^ i1 ∧ Dif b1 w1 b2 w2 n' ((b1 + 1) * b1 ^ i1))) := by
  have p1 := pow_pos' h1 i1
  have p2 := pow_pos' h2 i2
  have big : b1 * b1 ^ i1 ≤ d := by
    rcases Nat.lt_or_ge d (b1 * b1 ^ i1) with l | l
    · exfalso
      have a1 : d < b1 ^ (i1 + 1) := by rw [Nat.pow_succ, Nat.mul_comm]; exact l
      have a2 : d < b2 ^ (i2 + 1) := by
        rw [Nat.pow_succ, Nat.mul_comm, ← e]
        exact Nat.lt_of_lt_of_le l (Nat.mul_le_mul_right _ (Nat.le_of_lt hlt))
      apply h
      rw [fr_low h1 hnd l1 a1, fr_low h2 hnd l2 a2, e]
    · exact l
  refine ⟨big, fun hq => ?_, fun hs => ?_⟩
  · unfold Dif
    have e1 := fr_one (ws := w1) (i := i1 + 1) h1 (show 0 < 1 by omega) (by omega)
    rw [Nat.one_mul, Nat.pow_succ, Nat.mul_comm, hq] at e1
    have e2 := fr_one (ws := w2) (i := i2) h2 (show 0 < b1 by omega) hlt
    rw [← e, l2.1] at e2
    rw [e1, e2]
    decide
  · -- two stacks one above the other
    have lev1 : ∀ n d, n < d → d < (b1 + 1) * b1 ^ i1 → b1 * b1 ^ i1 ≤ d → frB w1 b1 n d = decide (n / b1 ^ i1 ≠ d / b1 ^ i1) := by
      intro n d hnd hd1 hd2
      obtain ⟨k, hk⟩ := lev_any (n := n) (d := d) h1 hnd
      have hq1 : d / b1 ^ i1 = b1 := by
        have a := (Nat.le_div_iff_mul_le p1).mpr hd2
        have b := (Nat.div_lt_iff_lt_mul p1).mpr hd1
        omega
      have d0 : d / b1 ^ i1 % b1 = 0 := by rw [hq1, Nat.mod_self]
      have hki : k ≤ i1 + 1 := by
        rcases Nat.lt_or_ge (i1 + 1) k with l | l
        · have a := hk.size h1 hnd
          have b := Nat.pow_le_pow_right (show 0 < b1 by omega) (show i1 + 2 ≤ k from l)
          have c : (b1 + 1) * b1 ^ i1 ≤ b1 ^ (i1 + 2) := by
            rw [Nat.pow_succ, Nat.pow_succ, Nat.mul_assoc, Nat.mul_comm (b1 ^ i1)]
            refine Nat.mul_le_mul_right _ ?_
            have z : 2 * b1 ≤ b1 * b1 := Nat.mul_le_mul_right b1 h1
            omega
          omega
        · exact l
      have hne := hk.digit hnd
      rw [fr_at hk hnd]
      by_cases c : n / b1 ^ i1 = d / b1 ^ i1
      · have hlt : k < i1 := by
          rcases Nat.lt_or_ge k i1 with l | l
          · exact l
          · exfalso
            have z := hk.ne hnd
            rw [show k = i1 + (k - i1) by omega, Nat.pow_add, ← Nat.div_div_eq_div_mul, ← Nat.div_div_eq_div_mul, c] at z
            exact Nat.lt_irrefl _ z
        rw [cntW_zero _ fun j hj => .inl (l1.2 j (by omega)), decide_eq_false (show ¬ n / b1 ^ i1 ≠ d / b1 ^ i1 from fun z => z c)]
        rfl
      · have ek : k = i1 + 1 := by
          rcases Nat.lt_or_ge k (i1 + 1) with l | l
          · exfalso
            rcases Nat.lt_or_ge k i1 with l2 | l2
            · have h3 := hk.1
              have : n / b1 ^ i1 = d / b1 ^ i1 := by
                rw [show i1 = (k + 1) + (i1 - (k + 1)) by omega, Nat.pow_add, ← Nat.div_div_eq_div_mul, ← Nat.div_div_eq_div_mul, h3]
              exact c this
            · have e3 : k = i1 := by omega
              rw [e3, d0] at hne
              omega
          · omega
        subst ek
        unfold cntW
        rw [cntW_first l1.2 l1.1, if_neg (fun z => z d0), Nat.zero_add, if_pos ⟨by omega, hs⟩, decide_eq_true (show n / b1 ^ i1 ≠ d / b1 ^ i1 from c)]
        rfl
    have big2 : (b1 + 1) * b1 ^ i1 ≤ d := by
      rcases Nat.lt_or_ge d ((b1 + 1) * b1 ^ i1) with l | l
      · exfalso
        have a2 : d < b2 ^ (i2 + 1) := by
          rw [Nat.pow_succ, Nat.mul_comm, ← e]
          exact Nat.lt_of_lt_of_le l (Nat.mul_le_mul_right _ hlt)
        apply h
        rw [lev1 n d hnd l big, fr_low h2 hnd l2 a2, e]
      · exact l
    refine ⟨big2, ?_⟩
    have pm : 0 < (b1 + 1) * b1 ^ i1 := Nat.mul_pos (by omega) p1
    -- the first wheel, from the beginning: two stations
    have top1 : IsLev b1 0 ((b1 + 1) * b1 ^ i1) (i1 + 1) := by
      constructor
      · rw [Nat.zero_div, Nat.div_eq_of_lt]
        rw [Nat.pow_succ, Nat.pow_succ, Nat.mul_assoc, Nat.mul_comm (b1 ^ i1)]
        refine Nat.mul_lt_mul_of_pos_right ?_ p1
        have z : 2 * b1 ≤ b1 * b1 := Nat.mul_le_mul_right b1 h1
        omega
      · intro j hj
        rw [Nat.zero_div]
        have a : b1 ^ (j + 1) ≤ b1 ^ (i1 + 1) := Nat.pow_le_pow_right (by omega) (by omega)
        have c : b1 ^ (i1 + 1) ≤ (b1 + 1) * b1 ^ i1 := by
          rw [Nat.pow_succ, Nat.mul_comm]
          exact Nat.mul_le_mul_right _ (by omega)
        have := Nat.div_pos (Nat.le_trans a c) (pow_pos' h1 (j + 1))
        omega
    have q1 : (b1 + 1) * b1 ^ i1 / b1 ^ i1 % b1 = 1 := by
      rw [Nat.mul_div_cancel _ p1, Nat.add_mod_left, Nat.mod_eq_of_lt (by omega)]
    have q2 : (b1 + 1) * b1 ^ i1 / b1 ^ (i1 + 1) % b1 = 1 := by
      rw [Nat.pow_succ, ← Nat.div_div_eq_div_mul, Nat.mul_div_cancel _ p1]
      have : (b1 + 1) / b1 = 1 := by
        rw [Nat.add_comm, Nat.add_div_right _ (by omega), Nat.div_eq_of_lt (by omega)]
      rw [this, Nat.mod_eq_of_lt (by omega)]
    have f1 : frB w1 b1 0 ((b1 + 1) * b1 ^ i1) = false := by
      rw [fr_at top1 pm]
      unfold cntW
      rw [cntW_first l1.2 l1.1, if_pos (by rw [q1]; decide), if_pos ⟨by rw [q2]; decide, hs⟩]
      rfl
    rcases Nat.lt_or_ge (b1 + 1) b2 with l | l
    · refine ⟨0, pm, ?_⟩
      have f2 := fr_one (ws := w2) (i := i2) h2 (show 0 < b1 + 1 by omega) l
      rw [← e, l2.1] at f2
      unfold Dif
      rw [f1, f2]
      decide
    · have eb : b2 = b1 + 1 := by omega
      have en : (b1 + 1) * b1 ^ i1 = 1 * b2 ^ (i2 + 1) := by rw [e, ← eb, Nat.one_mul, Nat.pow_succ, Nat.mul_comm]
      cases hw : wordAt w2 (i2 + 1) with
      | true =>
        refine ⟨0, pm, ?_⟩
        have f2 := fr_one (ws := w2) (i := i2 + 1) h2 (show 0 < 1 by omega) (by omega)
        rw [← en, hw] at f2
        unfold Dif
        rw [f1, f2]
        decide
      | false =>
        refine ⟨b1 * b1 ^ i1, Nat.mul_lt_mul_of_pos_right (by omega) p1, ?_⟩
        have hnd2 : b1 * b1 ^ i1 < (b1 + 1) * b1 ^ i1 := Nat.mul_lt_mul_of_pos_right (by omega) p1
        have lv : IsLev b1 (b1 * b1 ^ i1) ((b1 + 1) * b1 ^ i1) i1 := by
          constructor
          · rw [Nat.pow_succ, ← Nat.div_div_eq_div_mul, ← Nat.div_div_eq_div_mul, Nat.mul_div_cancel _ p1, Nat.mul_div_cancel _ p1, Nat.div_self (by omega), Nat.add_comm, Nat.add_div_right _ (by omega), Nat.div_eq_of_lt (by omega)]
          · intro j hj
            rw [show i1 = (i1 - (j + 1)) + (j + 1) by omega, Nat.pow_add, ← Nat.mul_assoc, ← Nat.mul_assoc, Nat.mul_div_cancel _ (pow_pos' h1 _), Nat.mul_div_cancel _ (pow_pos' h1 _)]
            have := Nat.mul_lt_mul_of_pos_right (show b1 < b1 + 1 by omega) (pow_pos' h1 (i1 - (j + 1)))
            omega
        have f3 : frB w1 b1 (b1 * b1 ^ i1) ((b1 + 1) * b1 ^ i1) = true := by
          rw [fr_at lv hnd2, cntW_first l1.2 l1.1, if_pos (by rw [q1]; decide)]
          rfl
        have f4 : frB w2 b2 (b1 * b1 ^ i1) ((b1 + 1) * b1 ^ i1) = false := by
          have e5 : b1 * b1 ^ i1 = b1 * b2 ^ i2 := by rw [e]
          have lv2 : IsLev b2 (b1 * b1 ^ i1) ((b1 + 1) * b1 ^ i1) (i2 + 1) := by
            constructor
            · rw [en, e5, Nat.one_mul, Nat.div_eq_of_lt, Nat.div_eq_of_lt]
              · exact Nat.pow_lt_pow_right (by omega) (by omega)
              · have a : b1 * b2 ^ i2 < b2 * b2 ^ i2 := Nat.mul_lt_mul_of_pos_right hlt p2
                have c : b2 * b2 ^ i2 ≤ b2 ^ (i2 + 1 + 1) := by
                  rw [Nat.mul_comm, ← Nat.pow_succ]
                  exact Nat.pow_le_pow_right (by omega) (by omega)
                omega
            · intro j hj
              have ee : b2 ^ (i2 + 1) = b2 ^ (i2 - j) * b2 ^ (j + 1) := by rw [← Nat.pow_add, show i2 - j + (j + 1) = i2 + 1 by omega]
              rw [en, e5, Nat.one_mul, ee, Nat.mul_div_cancel _ (pow_pos' h2 _)]
              have a : b1 * b2 ^ i2 < b2 ^ (i2 - j) * b2 ^ (j + 1) := by
                rw [← Nat.pow_add, show i2 - j + (j + 1) = i2 + 1 by omega, Nat.pow_succ, Nat.mul_comm (b2 ^ i2)]
                exact Nat.mul_lt_mul_of_pos_right hlt p2
              have := (Nat.div_lt_iff_lt_mul (pow_pos' h2 (j + 1))).mpr a
              omega
          rw [fr_at lv2 hnd2, en]
          unfold cntW
          rw [cntW_first l2.2 l2.1, if_neg (fun z => z (dig_pow_low h2 1 (by omega))), if_neg (fun z => by rw [hw] at z; exact absurd z.2 (by decide))]
          rfl
        unfold Dif
        rw [f3, f4]
        decide
/-! ### two wheels told apart: the dues and ticks that suffice -/
/-- the answer: the least due, and for it the least tick -/
def ToldP (b1 : Nat) (w1 : List Bool) (b2 : Nat) (w2 : List Bool) : Option (Nat × Nat) → Prop
  | none => ∀ n d, n < d → ¬ Dif b1 w1 b2 w2 n d
  | some (e, m) => m < e ∧ Dif b1 w1 b2 w2 m e ∧ ∀ n d, n < d → Dif b1 w1 b2 w2 n d → e < d ∨ (e = d ∧ m ≤ n)
def tolV : Option (Nat × Nat) → List V
  | none => [.str "alike"]
  | some (e, m) => [.str "apart", .int (e : Nat), .int (m : Nat)]
theorem ToldP.swap {b1 b2 : Nat} {w1 w2 : List Bool} {r : Option (Nat × Nat)} (h : ToldP b1 w1 b2 w2 r) : ToldP b2 w2 b1 w1 r := by
  match r, h with
  | none, h => exact fun n d hnd z => h n d hnd z.swap
  | some (e, m), ⟨h1, h2, h3⟩ => exact ⟨h1, h2.swap, fun n d hnd z => h3 n d hnd z.swap⟩
theorem ToldP.uniq {b1 b2 : Nat} {w1 w2 : List Bool} {r r' : Option (Nat × Nat)} (h : ToldP b1 w1 b2 w2 r) (h' : ToldP b1 w1 b2 w2 r') : r = r' := by
  match r, r', h, h' with
  | none, none, _, _ => rfl
  | none, some (e, m), h, ⟨h1, h2, _⟩ => exact absurd h2 (h _ _ h1)
  | some (e, m), none, ⟨h1, h2, _⟩, h => exact absurd h2 (h _ _ h1)
  | some (e, m), some (e', m'), ⟨h1, h2, h3⟩, ⟨h1', h2', h3'⟩ =>
    have a := h3 _ _ h1' h2'
    have b := h3' _ _ h1 h2
    have c : e = e' ∧ m = m' := by omega
    rw [c.1, c.2]
theorem ToldP.self {b : Nat} {w : List Bool} : ToldP b w b w none := fun _ _ _ h => h rfl
/-- the least tick for a due -/
def FstP (b1 : Nat) (w1 : List Bool) (b2 : Nat) (w2 : List Bool) (d : Nat) : Option Nat → Prop
  | none => ∀ n, n < d → ¬ Dif b1 w1 b2 w2 n d
  | some m => m < d ∧ Dif b1 w1 b2 w2 m d ∧ ∀ n, n < d → Dif b1 w1 b2 w2 n d → m ≤ n
def optV : Option Nat → V
  | none => .non
  | some m => .int (m : Nat)
/-! the ticks of the path from 0 -/
theorem IsLev.early {b n d k t : Nat} (hb : 2 ≤ b) (h : IsLev b n d k) (hnd : n < d) (h1 : d / b ^ (k + 1) * b ^ (k + 1) ≤ t) (h2 : t ≤ n) : IsLev b t d k := by
  have p := pow_pos' hb (k + 1)
  constructor
  · have a : d / b ^ (k + 1) ≤ t / b ^ (k + 1) := (Nat.le_div_iff_mul_le p).mpr h1
    have c : t / b ^ (k + 1) ≤ n / b ^ (k + 1) := Nat.div_le_div_right h2
    have e := h.1
    omega
  · intro j hj
    have a : t / b ^ (j + 1) ≤ n / b ^ (j + 1) := Nat.div_le_div_right h2
    have c : n / b ^ (j + 1) < d / b ^ (j + 1) := lev_le h hnd hj
    omega
def ticksOf (b d k : Nat) : List Nat := (rowsOf b 0 d k).map (·.2.2)
theorem tail_mem {b d j : Nat} (hd : d / b ^ j % b ≠ 0) : ∀ k, j < k → (j, d / b ^ j % b, d / b ^ (j + 1) * b ^ (j + 1)) ∈ tailOf b d k
  | k + 1, h => by
    unfold tailOf
    by_cases e : j = k
    · subst e
      rw [if_pos hd]
      exact List.mem_cons_self
    · have ih := tail_mem hd k (by omega)
      split
      · exact List.mem_cons_of_mem _ ih
      · exact ih
theorem tail_lt {b d : Nat} (hb : 2 ≤ b) : ∀ k, ∀ r ∈ tailOf b d k, r.2.2 < d
  | 0, r, h => by unfold tailOf at h; cases h
  | k + 1, r, h => by
    unfold tailOf at h
    have ih := tail_lt (d := d) hb k
    have key : d / b ^ k % b ≠ 0 → d / b ^ (k + 1) * b ^ (k + 1) < d := fun hd => by
      have a := cut_step b d k
      have c := cut_le b d k
      have p : 0 < d / b ^ k % b * b ^ k := Nat.mul_pos (by omega) (pow_pos' hb k)
      omega
    split at h
    · rename_i hd
      rcases List.mem_cons.mp h with e | e
      · rw [e]
        exact key hd
      · exact ih r e
    · exact ih r h
theorem ticks_lt {b d k t : Nat} (hb : 2 ≤ b) (hd : 0 < d) (h : t ∈ ticksOf b d k) : t < d := by
  obtain ⟨r, hr, e⟩ := List.mem_map.mp h
  rw [← e]
  rcases List.mem_cons.mp hr with z | z
  · rw [z]
    exact hd
  · exact tail_lt hb k r z
/-- the beginning of the block of a tick is among them -/
theorem ticks_block {b n d k k0 : Nat} (hb : 2 ≤ b) (hk : IsLev b n d k) (hk0 : IsLev b 0 d k0) (hnd : n < d) : d / b ^ (k + 1) * b ^ (k + 1) ∈ ticksOf b d k0 ∧ d / b ^ (k + 1) * b ^ (k + 1) ≤ n := by
  have le : d / b ^ (k + 1) * b ^ (k + 1) ≤ n := by
    rw [← hk.1]
    exact Nat.div_mul_le_self _ _
  refine ⟨?_, le⟩
  have z0 := hk0.1
  rw [Nat.zero_div] at z0
  rcases Nat.lt_or_ge k k0 with l | l
  · have hne := hk.digit hnd
    exact List.mem_map.mpr ⟨(k, d / b ^ k % b, d / b ^ (k + 1) * b ^ (k + 1)), List.mem_cons_of_mem _ (tail_mem (by omega) k0 l), rfl⟩
  · have z : d / b ^ (k + 1) = 0 := by
      rw [show k + 1 = (k0 + 1) + (k - k0) by omega, Nat.pow_add, ← Nat.div_div_eq_div_mul, ← z0, Nat.zero_div]
    rw [z, Nat.zero_mul]
    exact List.mem_cons_self
theorem ticks_tell {b1 b2 n d k1 k2 : Nat} {w1 w2 : List Bool} (h1 : 2 ≤ b1) (h2 : 2 ≤ b2) (hk1 : IsLev b1 0 d k1) (hk2 : IsLev b2 0 d k2) (hnd : n < d) (h : Dif b1 w1 b2 w2 n d) :
    ∃ t ∈ ticksOf b1 d k1 ++ ticksOf b2 d k2, t ≤ n ∧ Dif b1 w1 b2 w2 t d := by
  obtain ⟨j1, hj1⟩ := lev_any (n := n) (d := d) h1 hnd
  obtain ⟨j2, hj2⟩ := lev_any (n := n) (d := d) h2 hnd
  obtain ⟨m1, l1⟩ := ticks_block h1 hj1 hk1 hnd
  obtain ⟨m2, l2⟩ := ticks_block h2 hj2 hk2 hnd
  have go : ∀ t, d / b1 ^ (j1 + 1) * b1 ^ (j1 + 1) ≤ t → d / b2 ^ (j2 + 1) * b2 ^ (j2 + 1) ≤ t → t ≤ n → Dif b1 w1 b2 w2 t d := by
    intro t a c e
    have e1 := hj1.early h1 hnd a e
    have e2 := hj2.early h2 hnd c e
    unfold Dif at h ⊢
    rw [fr_at hj1 hnd, fr_at hj2 hnd] at h
    rw [fr_at e1 (by omega), fr_at e2 (by omega)]
    exact h
  rcases Nat.le_total (d / b1 ^ (j1 + 1) * b1 ^ (j1 + 1)) (d / b2 ^ (j2 + 1) * b2 ^ (j2 + 1)) with l | l
  · exact ⟨_, List.mem_append.mpr (.inr m2), l2, go _ l (Nat.le_refl _) l2⟩
  · exact ⟨_, List.mem_append.mpr (.inl m1), l1, go _ (Nat.le_refl _) l l1⟩
/-! the dues -/
/-- a due of the list, bounded by the first or the second wheel -/
def DueB (b1 l1 b2 l2 e : Nat) : Prop := e ≤ (b1 + 1) * b1 ^ (l1 - 1) ∨ e ≤ (b2 + 1) * b2 ^ (l2 - 1)
/-- what the first due that tells looks like -/
def DueF (b1 l1 b2 l2 e : Nat) : Prop := e ≤ b1 ^ (l1 - 1) ∨ e ≤ b2 ^ (l2 - 1) ∨ ∃ i1 i2, i1 < l1 ∧ i2 < l2 ∧ b1 ≠ b2 ∧ b1 ^ i1 = b2 ^ i2 ∧ e ≤ (min b1 b2 + 1) * b1 ^ i1
structure Tells (b1 : Nat) (w1 : List Bool) (b2 : Nat) (w2 : List Bool) (L : List Nat) : Prop where
  up : L.Pairwise (· ≤ ·)
  bd : ∀ e ∈ L, 1 ≤ e ∧ DueB b1 w1.length b2 w2.length e
  tell : ∀ n d, n < d → Dif b1 w1 b2 w2 n d → ∃ e ∈ L, e ≤ d ∧ DueF b1 w1.length b2 w2.length e ∧ ∃ n', n' < e ∧ Dif b1 w1 b2 w2 n' e
/-- the same base -/
theorem tells_same {b : Nat} {w1 w2 : List Bool} (hb : 2 ≤ b) (h1 : w1 ≠ []) (h2 : w2 ≠ []) : Tells b w1 b w2 ((List.range (max w1.length w2.length)).map (b ^ ·)) := by
  have p1 := List.length_pos_iff.mpr h1
  have p2 := List.length_pos_iff.mpr h2
  have mono : ∀ {i j : Nat}, i ≤ j → b ^ i ≤ b ^ j := fun h => Nat.pow_le_pow_right (by omega) h
  have each : ∀ {j : Nat}, j < max w1.length w2.length → b ^ j ≤ b ^ (w1.length - 1) ∨ b ^ j ≤ b ^ (w2.length - 1) := fun {j} hj => by
    rcases Nat.lt_or_ge j w1.length with l | l
    · exact .inl (mono (by omega))
    · exact .inr (mono (by omega))
  refine ⟨?_, fun e he => ?_, fun n d hnd h => ?_⟩
  · rw [List.pairwise_map]
    exact List.pairwise_lt_range.imp fun h => mono (Nat.le_of_lt h)
  · obtain ⟨j, hj, rfl⟩ := List.mem_map.mp he
    rw [List.mem_range] at hj
    refine ⟨pow_pos' hb j, ?_⟩
    have up : ∀ x, x ≤ (b + 1) * x := fun x => Nat.le_mul_of_pos_left _ (by omega)
    rcases each hj with z | z
    · exact .inl (Nat.le_trans z (up _))
    · exact .inr (Nat.le_trans z (up _))
  · obtain ⟨j, hj, hw⟩ := tell_same hb hnd h
    have hlt : min j (max w1.length w2.length - 1) < max w1.length w2.length := by omega
    have same : ∀ {w : List Bool}, w.length ≤ max w1.length w2.length → wordAt w (min j (max w1.length w2.length - 1)) = wordAt w j := fun {w} hl => by
      unfold wordAt
      rw [show min (min j (max w1.length w2.length - 1)) (w.length - 1) = min j (w.length - 1) by omega]
    refine ⟨_, List.mem_map.mpr ⟨_, List.mem_range.mpr hlt, rfl⟩, Nat.le_trans (mono (Nat.min_le_left _ _)) hj, ?_, 0, pow_pos' hb _, dif_pow hb ?_⟩
    · rcases each hlt with z | z
      · exact .inl z
      · exact .inr (.inl z)
    · rw [same (by omega), same (by omega)]
      exact hw
/-- where the lowest stack stands, if any -/
def LowO (ws : List Bool) : Option Nat → Prop
  | none => ∀ j, wordAt ws j = false
  | some i => i < ws.length ∧ LowS ws i
/-- an unlike side before the sizes differ is impossible, and at the less of them it is there -/
theorem tell_size {b1 b2 n d i : Nat} {w1 w2 : List Bool} {o : Option Nat} (h1 : 2 ≤ b1) (h2 : 2 ≤ b2) (l1 : LowS w1 i) (l2 : LowO w2 o) (hlt : ∀ j, o = some j → b1 ^ i < b2 ^ j) (hnd : n < d) (h : Dif b1 w1 b2 w2 n d) :
    b1 ^ i ≤ d ∧ Dif b1 w1 b2 w2 0 (b1 ^ i) := by
  have p := pow_pos' h1 i
  have f2 : ∀ n d, n < d → d ≤ b1 ^ i → frB w2 b2 n d = false := by
    intro n d hnd hd
    match o, l2, hlt with
    | none, l2, _ => exact fr_noStack h2 hnd l2
    | some j, l2, hlt => exact fr_queues h2 hnd (Nat.lt_of_le_of_lt hd (hlt j rfl)) l2.2.2
  constructor
  · rcases Nat.lt_or_ge d (b1 ^ i) with l | l
    · exfalso
      apply h
      rw [fr_queues h1 hnd l l1.2, f2 n d hnd (Nat.le_of_lt l)]
    · exact l
  · unfold Dif
    have e1 := fr_one (ws := w1) (i := i) h1 (show 0 < 1 by omega) (by omega)
    rw [Nat.one_mul, l1.1] at e1
    rw [e1, f2 0 _ p (Nat.le_refl _)]
    decide
/-- the list of the dues, from the less size and the less base -/
def duesOf (s l : Nat) : List Nat := [s, l * s, (l + 1) * s]
theorem dues_up {s l : Nat} (hl : 1 ≤ l) : (duesOf s l).Pairwise (· ≤ ·) := by
  have a : s ≤ l * s := Nat.le_mul_of_pos_left _ hl
  have c : l * s ≤ (l + 1) * s := Nat.mul_le_mul_right _ (by omega)
  refine List.pairwise_cons.mpr ⟨fun x hx => ?_, List.pairwise_cons.mpr ⟨fun x hx => ?_, List.pairwise_cons.mpr ⟨fun x hx => (by cases hx), List.Pairwise.nil⟩⟩⟩
  · rcases List.mem_cons.mp hx with e | e
    · rw [e]; exact a
    · rw [List.mem_singleton.mp e]; exact Nat.le_trans a c
  · rw [List.mem_singleton.mp hx]; exact c
theorem tells_none {b1 b2 : Nat} {w1 w2 : List Bool} (h1 : 2 ≤ b1) (h2 : 2 ≤ b2) (l1 : LowO w1 none) (l2 : LowO w2 none) : Tells b1 w1 b2 w2 [] :=
  ⟨List.Pairwise.nil, fun e he => (by cases he), fun n d hnd h => absurd ((fr_noStack h1 hnd l1).trans (fr_noStack h2 hnd l2).symm) h⟩
theorem dues_bd {b1 b2 i k s : Nat} (hb : 2 ≤ b1) (h2 : 2 ≤ b2) (hi : i < k) (hs : s = b1 ^ i) : ∀ e ∈ duesOf s (min b1 b2), 1 ≤ e ∧ e ≤ (b1 + 1) * b1 ^ (k - 1) := by
  intro e he
  have p : 1 ≤ s := by rw [hs]; exact pow_pos' hb i
  have m : s ≤ b1 ^ (k - 1) := by rw [hs]; exact Nat.pow_le_pow_right (by omega) (by omega)
  have hx : ∃ x, 1 ≤ x ∧ x ≤ b1 + 1 ∧ e = x * s := by
    rcases List.mem_cons.mp he with z | z
    · exact ⟨1, by omega, by omega, by rw [z, Nat.one_mul]⟩
    · rcases List.mem_cons.mp z with z | z
      · exact ⟨_, by omega, by omega, z⟩
      · exact ⟨_, by omega, by omega, List.mem_singleton.mp z⟩
  obtain ⟨x, x1, x2, rfl⟩ := hx
  exact ⟨Nat.mul_pos x1 p, Nat.mul_le_mul x2 m⟩
/-- the first wheel has the less size -/
theorem tells_less {b1 b2 i : Nat} {w1 w2 : List Bool} {o : Option Nat} (h1 : 2 ≤ b1) (h2 : 2 ≤ b2) (l1 : LowO w1 (some i)) (l2 : LowO w2 o) (hlt : ∀ j, o = some j → b1 ^ i < b2 ^ j) : Tells b1 w1 b2 w2 (duesOf (b1 ^ i) (min b1 b2)) := by
  refine ⟨dues_up (by omega), fun e he => ?_, fun n d hnd h => ?_⟩
  · have z := dues_bd h1 h2 l1.1 rfl e he
    exact ⟨z.1, .inl z.2⟩
  · obtain ⟨a, c⟩ := tell_size h1 h2 l1.2 l2 hlt hnd h
    refine ⟨_, List.mem_cons_self, a, .inl (Nat.pow_le_pow_right (by omega) (by have := l1.1; omega)), 0, pow_pos' h1 i, c⟩
theorem Tells.swap {b1 b2 : Nat} {w1 w2 : List Bool} {L : List Nat} (h : Tells b1 w1 b2 w2 L) : Tells b2 w2 b1 w1 L := by
  refine ⟨h.up, fun e he => ⟨(h.bd e he).1, (h.bd e he).2.symm⟩, fun n d hnd z => ?_⟩
  obtain ⟨e, he, hed, hf, n', hn', hz⟩ := h.tell n d hnd z.swap
  refine ⟨e, he, hed, ?_, n', hn', hz.swap⟩
  rcases hf with z | z | ⟨i1, i2, a, b, c, e2, f⟩
  · exact .inr (.inl z)
  · exact .inl z
  · refine .inr (.inr ⟨i2, i1, b, a, c.symm, e2.symm, ?_⟩)
    rw [← e2, Nat.min_comm]
    exact f
/-- both have the same size, and the first has the less base -/
theorem tells_equal {b1 b2 i1 i2 : Nat} {w1 w2 : List Bool} (h1 : 2 ≤ b1) (h2 : 2 ≤ b2) (l1 : LowO w1 (some i1)) (l2 : LowO w2 (some i2)) (e : b1 ^ i1 = b2 ^ i2) (hlt : b1 < b2) : Tells b1 w1 b2 w2 (duesOf (b1 ^ i1) (min b1 b2)) := by
  refine ⟨dues_up (by omega), fun x hx => ?_, fun n d hnd h => ?_⟩
  · have z := dues_bd h1 h2 l1.1 rfl x hx
    exact ⟨z.1, .inl z.2⟩
  · obtain ⟨big, q, s⟩ := tell_less h1 h2 l1.2 l2.2 e hlt hnd h
    have em : min b1 b2 = b1 := by omega
    rw [em]
    have p1 := pow_pos' h1 i1
    have le : b1 * b1 ^ i1 ≤ (b1 + 1) * b1 ^ i1 := Nat.mul_le_mul_right _ (by omega)
    cases hw : wordAt w1 (i1 + 1) with
    | false => exact ⟨b1 * b1 ^ i1, List.mem_cons_of_mem _ List.mem_cons_self, big, .inr (.inr ⟨i1, i2, l1.1, l2.1, by omega, e, by rw [em]; exact le⟩), 0, Nat.mul_pos (by omega) p1, q hw⟩
    | true =>
      obtain ⟨big2, n', hn', hz⟩ := s hw
      exact ⟨(b1 + 1) * b1 ^ i1, List.mem_cons_of_mem _ (List.mem_cons_of_mem _ List.mem_cons_self), big2, .inr (.inr ⟨i1, i2, l1.1, l2.1, by omega, e, by rw [em]; exact Nat.le_refl _⟩), n', hn', hz⟩
/-- all bases that differ, where a stack stands in one at least -/
def minO (b1 b2 : Nat) : Option Nat → Option Nat → Option Nat
  | none, none => none
  | some i, none => some (b1 ^ i)
  | none, some j => some (b2 ^ j)
  | some i, some j => some (min (b1 ^ i) (b2 ^ j))
theorem tells_ne {b1 b2 s : Nat} {w1 w2 : List Bool} {o1 o2 : Option Nat} (h1 : 2 ≤ b1) (h2 : 2 ≤ b2) (l1 : LowO w1 o1) (l2 : LowO w2 o2) (hne : b1 ≠ b2) (hs : minO b1 b2 o1 o2 = some s) : Tells b1 w1 b2 w2 (duesOf s (min b1 b2)) := by
  have right : ∀ {j : Nat} {o : Option Nat}, LowO w1 o → LowO w2 (some j) → (∀ i, o = some i → b2 ^ j < b1 ^ i) → Tells b1 w1 b2 w2 (duesOf (b2 ^ j) (min b1 b2)) := fun {j o} a c e => by
    have := (tells_less h2 h1 c a e).swap
    rw [Nat.min_comm] at this
    exact this
  match o1, o2, l1, l2, hs with
  | some i, none, l1, l2, hs =>
    cases hs
    exact tells_less h1 h2 l1 l2 fun j z => by cases z
  | none, some j, l1, l2, hs =>
    cases hs
    exact right l1 l2 fun j z => by cases z
  | some i, some j, l1, l2, hs =>
    have hs : min (b1 ^ i) (b2 ^ j) = s := Option.some.inj hs
    rcases Nat.lt_trichotomy (b1 ^ i) (b2 ^ j) with l | l | l
    · rw [show s = b1 ^ i by omega]
      exact tells_less h1 h2 l1 l2 fun x z => by cases z; exact l
    · rw [show s = b1 ^ i by omega]
      rcases Nat.lt_or_gt_of_ne hne with c | c
      · exact tells_equal h1 h2 l1 l2 l c
      · have := (tells_equal h2 h1 l2 l1 l.symm c).swap
        rw [Nat.min_comm, ← l] at this
        exact this
    · rw [show s = b2 ^ j by omega]
      exact right l1 l2 fun x z => by cases z; exact l
/-- one after another -/
theorem tells_done {b1 b2 : Nat} {w1 w2 : List Bool} {L : List Nat} (h : Tells b1 w1 b2 w2 L) (hno : ∀ e ∈ L, ∀ n, n < e → ¬ Dif b1 w1 b2 w2 n e) : ToldP b1 w1 b2 w2 none := fun n d hnd z => by
  obtain ⟨e, he, _, _, n', hn', hz⟩ := h.tell n d hnd z
  exact hno e he n' hn' hz
theorem tells_at {b1 b2 e m : Nat} {w1 w2 : List Bool} {L1 L2 : List Nat} (h : Tells b1 w1 b2 w2 (L1 ++ e :: L2)) (hno : ∀ e ∈ L1, ∀ n, n < e → ¬ Dif b1 w1 b2 w2 n e) (hm : FstP b1 w1 b2 w2 e (some m)) : ToldP b1 w1 b2 w2 (some (e, m)) := by
  refine ⟨hm.1, hm.2.1, fun n d hnd z => ?_⟩
  obtain ⟨e', he', hed, _, n', hn', hz⟩ := h.tell n d hnd z
  have hle : e ≤ e' := by
    rcases List.mem_append.mp he' with y | y
    · exact absurd hz (hno e' y n' hn')
    · rcases List.mem_cons.mp y with y | y
      · omega
      · exact (List.pairwise_cons.mp (List.pairwise_append.mp h.up).2.1).1 e' y
  rcases Nat.lt_or_ge e d with l | l
  · exact .inl l
  · have ed : e = d := by omega
    subst ed
    exact .inr ⟨rfl, hm.2.2 n hnd z⟩
/-- the least of sorted ticks where they differ is the least of all -/
theorem fst_at {b1 b2 d k1 k2 m : Nat} {w1 w2 : List Bool} {S S1 S2 : List Nat} (h1 : 2 ≤ b1) (h2 : 2 ≤ b2) (hd : 0 < d) (hk1 : IsLev b1 0 d k1) (hk2 : IsLev b2 0 d k2) (hS : ∀ t, t ∈ S ↔ t ∈ ticksOf b1 d k1 ++ ticksOf b2 d k2) (hup : S.Pairwise (· ≤ ·)) (e : S = S1 ++ m :: S2)
    (hno : ∀ t ∈ S1, ¬ Dif b1 w1 b2 w2 t d) (hm : Dif b1 w1 b2 w2 m d) : FstP b1 w1 b2 w2 d (some m) := by
  have hmem : m ∈ S := by rw [e]; exact List.mem_append.mpr (.inr List.mem_cons_self)
  refine ⟨?_, hm, fun n hnd z => ?_⟩
  · rcases List.mem_append.mp ((hS m).mp hmem) with y | y
    · exact ticks_lt h1 hd y
    · exact ticks_lt h2 hd y
  · obtain ⟨t, ht, htn, hz⟩ := ticks_tell h1 h2 hk1 hk2 hnd z
    have htS := (hS t).mpr ht
    rw [e] at htS hup
    rcases List.mem_append.mp htS with y | y
    · exact absurd hz (hno t y)
    · rcases List.mem_cons.mp y with y | y
      · omega
      · exact Nat.le_trans ((List.pairwise_cons.mp (List.pairwise_append.mp hup).2.1).1 t y) htn
theorem fst_none {b1 b2 d k1 k2 : Nat} {w1 w2 : List Bool} {S : List Nat} (h1 : 2 ≤ b1) (h2 : 2 ≤ b2) (hk1 : IsLev b1 0 d k1) (hk2 : IsLev b2 0 d k2) (hS : ∀ t, t ∈ S ↔ t ∈ ticksOf b1 d k1 ++ ticksOf b2 d k2)
    (hno : ∀ t ∈ S, ¬ Dif b1 w1 b2 w2 t d) : FstP b1 w1 b2 w2 d none := fun n hnd z => by
  obtain ⟨t, ht, _, hz⟩ := ticks_tell h1 h2 hk1 hk2 hnd z
  exact hno t ((hS t).mpr ht) hz
/-- small wheels are told apart up to 130 -/
theorem due_130 {b1 l1 b2 l2 e : Nat} (h1 : 2 ≤ b1) (h1' : b1 ≤ 5) (h2 : 2 ≤ b2) (h2' : b2 ≤ 5) (k1 : l1 ≤ 4) (k2 : l2 ≤ 4) (h : DueF b1 l1 b2 l2 e) : e ≤ 130 := by
  have pw : ∀ {b l : Nat}, 2 ≤ b → b ≤ 5 → l ≤ 4 → b ^ (l - 1) ≤ 125 := fun {b l} hb hb5 hl =>
    Nat.le_trans (Nat.pow_le_pow_right (by omega) (show l - 1 ≤ 3 by omega)) (Nat.le_trans (Nat.pow_le_pow_left hb5 3) (by decide))
  rcases h with z | z | ⟨i1, i2, a, c, hne, hp, hz⟩
  · have := pw h1 h1' k1; omega
  · have := pw h2 h2' k2; omega
  · have key : ∀ x1 : Fin 6, ∀ x2 : Fin 6, ∀ y1 : Fin 4, ∀ y2 : Fin 4, 2 ≤ x1.val → 2 ≤ x2.val → x1.val ≠ x2.val → x1.val ^ y1.val = x2.val ^ y2.val → (min x1.val x2.val + 1) * x1.val ^ y1.val ≤ 130 := by decide +kernel
    exact Nat.le_trans hz (key ⟨b1, by omega⟩ ⟨b2, by omega⟩ ⟨i1, by omega⟩ ⟨i2, by omega⟩ h1 h2 hne hp)
/-- what the search of the dues up to 130 finds -/
theorem told_130 {b1 b2 : Nat} {w1 w2 : List Bool} {L : List Nat} (h1 : 2 ≤ b1) (h1' : b1 ≤ 5) (h2 : 2 ≤ b2) (h2' : b2 ≤ 5) (k1 : w1.length ≤ 4) (k2 : w2.length ≤ 4) (T : Tells b1 w1 b2 w2 L) (h : ∀ d, d ≤ 130 → ∀ n, n < d → ¬ Dif b1 w1 b2 w2 n d) : ToldP b1 w1 b2 w2 none := fun n d hnd z => by
  obtain ⟨e, _, _, hf, n', hn', hz⟩ := T.tell n d hnd z
  exact h e (due_130 h1 h1' h2 h2' k1 k2 hf) n' hn' hz
def topS (i : Nat) : Stmt := PySem.Challenge.pw_timerdeque_k28_wheels_compared_gone_thro.main.body.getD i (.Pass ⟨0, 0, 0, 0⟩)
abbrev s_is_integer : Stmt := topS 7
abbrev N_is_integer : List Str := ["given"]
theorem sc_is_integer : FnScope N_is_integer ["given"] (defScope s_is_integer) := by
  refine ⟨rfl, rfl, rfl, ?_, rfl, ?_, ?_⟩ <;> decide +kernel
abbrev s_is_word : Stmt := topS 8
abbrev N_is_word : List Str := ["given"]
theorem sc_is_word : FnScope N_is_word ["given"] (defScope s_is_word) := by
  refine ⟨rfl, rfl, rfl, ?_, rfl, ?_, ?_⟩ <;> decide +kernel
abbrev s_is_base : Stmt := topS 9
abbrev N_is_base : List Str := ["given"]
theorem sc_is_base : FnScope N_is_base ["given"] (defScope s_is_base) := by
  refine ⟨rfl, rfl, rfl, ?_, rfl, ?_, ?_⟩ <;> decide +kernel
abbrev s_is_length : Stmt := topS 10
abbrev N_is_length : List Str := ["given"]
theorem sc_is_length : FnScope N_is_length ["given"] (defScope s_is_length) := by
  refine ⟨rfl, rfl, rfl, ?_, rfl, ?_, ?_⟩ <;> decide +kernel
abbrev s_are_levels : Stmt := topS 11
abbrev N_are_levels : List Str := ["given", "word"]
theorem sc_are_levels : FnScope N_are_levels ["given"] (defScope s_are_levels) := by
  refine ⟨rfl, rfl, rfl, ?_, rfl, ?_, ?_⟩ <;> decide +kernel
abbrev s_check_base : Stmt := topS 12
abbrev N_check_base : List Str := ["base"]
theorem sc_check_base : FnScope N_check_base ["base"] (defScope s_check_base) := by
  refine ⟨rfl, rfl, rfl, ?_, rfl, ?_, ?_⟩ <;> decide +kernel
abbrev s_check_levels : Stmt := topS 13
abbrev N_check_levels : List Str := ["levels"]
theorem sc_check_levels : FnScope N_check_levels ["levels"] (defScope s_check_levels) := by
  refine ⟨rfl, rfl, rfl, ?_, rfl, ?_, ?_⟩ <;> decide +kernel
abbrev s_word_at : Stmt := topS 15
abbrev N_word_at : List Str := ["levels", "level"]
theorem sc_word_at : FnScope N_word_at ["levels", "level"] (defScope s_word_at) := by
  refine ⟨rfl, rfl, rfl, ?_, rfl, ?_, ?_⟩ <;> decide +kernel
abbrev s_level_and_size : Stmt := topS 16
abbrev N_level_and_size : List Str := ["base", "now", "due", "level", "size", "above_now", "above_due"]
theorem sc_level_and_size : FnScope N_level_and_size ["base", "now", "due"] (defScope s_level_and_size) := by
  refine ⟨rfl, rfl, rfl, ?_, rfl, ?_, ?_⟩ <;> decide +kernel
abbrev s_path : Stmt := topS 17
abbrev N_path : List Str := ["base", "now", "due", "level", "size", "rows", "tick", "digit"]
theorem sc_path : FnScope N_path ["base", "now", "due"] (defScope s_path) := by
  refine ⟨rfl, rfl, rfl, ?_, rfl, ?_, ?_⟩ <;> decide +kernel
abbrev s_goes_in_front : Stmt := topS 18
abbrev N_goes_in_front : List Str := ["base", "levels", "now", "due", "lowest", "front", "level", "digit", "tick"]
theorem sc_goes_in_front : FnScope N_goes_in_front ["base", "levels", "now", "due", "lowest"] (defScope s_goes_in_front) := by
  refine ⟨rfl, rfl, rfl, ?_, rfl, ?_, ?_⟩ <;> decide +kernel
abbrev s_size_of_lowest_stack : Stmt := topS 20
abbrev N_size_of_lowest_stack : List Str := ["base", "levels", "size", "word"]
theorem sc_size_of_lowest_stack : FnScope N_size_of_lowest_stack ["base", "levels"] (defScope s_size_of_lowest_stack) := by
  refine ⟨rfl, rfl, rfl, ?_, rfl, ?_, ?_⟩ <;> decide +kernel
abbrev s_powers : Stmt := topS 21
abbrev N_powers : List Str := ["base", "many", "sizes"]
theorem sc_powers : FnScope N_powers ["base", "many"] (defScope s_powers) := by
  refine ⟨rfl, rfl, rfl, ?_, rfl, ?_, ?_⟩ <;> decide +kernel
abbrev s_telling_dues : Stmt := topS 22
abbrev N_telling_dues : List Str := ["base", "levels", "other_base", "other_levels", "found", "size", "sizes", "least"]
theorem sc_telling_dues : FnScope N_telling_dues ["base", "levels", "other_base", "other_levels"] (defScope s_telling_dues) := by
  refine ⟨rfl, rfl, rfl, ?_, rfl, ?_, ?_⟩ <;> decide +kernel
abbrev s_first_difference : Stmt := topS 23
abbrev N_first_difference : List Str := ["base", "levels", "other_base", "other_levels", "due", "ticks", "now", "front", "level", "digit", "tick"]
theorem sc_first_difference : FnScope N_first_difference ["base", "levels", "other_base", "other_levels", "due"] (defScope s_first_difference) := by
  refine ⟨rfl, rfl, rfl, ?_, rfl, ?_, ?_⟩ <;> decide +kernel
abbrev s_told_apart : Stmt := topS 24
abbrev N_told_apart : List Str := ["base", "levels", "other_base", "other_levels", "due", "now"]
theorem sc_told_apart : FnScope N_told_apart ["base", "levels", "other_base", "other_levels"] (defScope s_told_apart) := by
  refine ⟨rfl, rfl, rfl, ?_, rfl, ?_, ?_⟩ <;> decide +kernel
abbrev s__law_cell_at : Stmt := topS 26
abbrev N__law_cell_at : List Str := ["_law_script", "_law_k"]
theorem sc__law_cell_at : FnScope N__law_cell_at ["_law_script", "_law_k"] (defScope s__law_cell_at) := by
  refine ⟨rfl, rfl, rfl, ?_, rfl, ?_, ?_⟩ <;> decide +kernel
abbrev s__law_mixed : Stmt := topS 27
abbrev N__law_mixed : List Str := ["_law_cell", "_law_k", "_law_low"]
theorem sc__law_mixed : FnScope N__law_mixed ["_law_cell", "_law_k"] (defScope s__law_mixed) := by
  refine ⟨rfl, rfl, rfl, ?_, rfl, ?_, ?_⟩ <;> decide +kernel
abbrev s__law_source : Stmt := topS 28
abbrev N__law_source : List Str := ["_law_script", "_law_k", "_law_cell"]
theorem sc__law_source : FnScope N__law_source ["_law_script", "_law_k"] (defScope s__law_source) := by
  refine ⟨rfl, rfl, rfl, ?_, rfl, ?_, ?_⟩ <;> decide +kernel
abbrev s__law_next : Stmt := topS 29
abbrev N__law_next : List Str := ["_law_source_here", "_law_many", "_law_found"]
theorem sc__law_next : FnScope N__law_next ["_law_source_here", "_law_many"] (defScope s__law_next) := by
  refine ⟨rfl, rfl, rfl, ?_, rfl, ?_, ?_⟩ <;> decide +kernel
abbrev s__law_is_front : Stmt := topS 30
abbrev N__law_is_front : List Str := ["_law_base", "_law_levels", "_law_now", "_law_due_here", "_law_odd", "_law_at"]
theorem sc__law_is_front : FnScope N__law_is_front ["_law_base", "_law_levels", "_law_now", "_law_due_here"] (defScope s__law_is_front) := by
  refine ⟨rfl, rfl, rfl, ?_, rfl, ?_, ?_⟩ <;> decide +kernel
abbrev s__law_due : Stmt := topS 31
abbrev N__law_due : List Str := ["_law_one", "_law_two", "_law_due_here", "_law_now"]
theorem sc__law_due : FnScope N__law_due ["_law_one", "_law_two"] (defScope s__law_due) := by
  refine ⟨rfl, rfl, rfl, ?_, rfl, ?_, ?_⟩ <;> decide +kernel
abbrev s__law_words_of : Stmt := topS 32
abbrev N__law_words_of : List Str := ["_law_source_here", "_law_at"]
theorem sc__law_words_of : FnScope N__law_words_of ["_law_source_here"] (defScope s__law_words_of) := by
  refine ⟨rfl, rfl, rfl, ?_, rfl, ?_, ?_⟩ <;> decide +kernel
abbrev s_law : Stmt := topS 33
abbrev N_law : List Str := ["_law_script", "_law_k", "_law_source_here", "_law_one", "_law_two", "_law_sort", "_law_kept", "_law_due_here"]
theorem sc_law : FnScope N_law ["_law_script"] (defScope s_law) := by
  refine ⟨rfl, rfl, rfl, ?_, rfl, ?_, ?_⟩ <;> decide +kernel
/-- what the top leaves of built-in names -/
structure Tx (K : PySem.W.Frag) (mg : Str → Option Value) : Prop where
  b_isinstance : mg "isinstance" = none
  b_int : mg "int" = none
  b_bool : mg "bool" = none
  b_str : mg "str" = none
  b_all : mg "all" = none
  b_list : mg "list" = none
  b_len : mg "len" = none
  b_min : mg "min" = none
  b_max : mg "max" = none
  b_sorted : mg "sorted" = none
  b_range : mg "range" = none
  b_repr : mg "repr" = none
/-! ### the program: what an integer is, bases, ticks -/
def slotInt (σ : L2.St) (i : Nat) : Nat := match σ[i]? with
  | some (some (.int z)) => z.toNat
  | _ => 0
theorem cast_div (a b : Nat) : (a : Int) / (b : Int) = ((a / b : Nat) : Int) := rfl
theorem cast_mod (a b : Nat) : (a : Int) % (b : Int) = ((a % b : Nat) : Int) := rfl
theorem cast_mul (a b : Nat) : (a : Int) * (b : Int) = ((a * b : Nat) : Int) := (Int.natCast_mul a b).symm
theorem cast_add (a b : Nat) : (a : Int) + (b : Int) = ((a + b : Nat) : Int) := rfl
theorem natAbs_cast (a : Nat) : ((a : Nat) : Int).natAbs = a := rfl
theorem divp_s {i j : Int} (b : Nat) (hj : 0 < j) (hi : i.natAbs < 2 ^ b) (h : b ≤ 3000 := by decide) : CDivP i j := by
  refine divp_ok hj ?_
  have := PyProof.Rows.intBits_le hi
  omega
section
variable {P : Program} {w : World} {K : PySem.W.Frag} {mg : Str → Option Value} {base : Heap}
def spIsInt : Sp := fun vs H Q _ => ∃ n : Int, vs = [.int n] ∧ Q (.bl true) H
theorem ok_is_integer {f : Addr} {fd : FuncData} (F : Fun K "is_integer" "is_integer" s_is_integer f fd) (T : Tx K mg) : FnOk P w K mg base CX0 1 f fd ["given"] spIsInt := by
  refine F.ok sc_is_integer (fun vs H Q E h => ?_) (fun cdv A outer s H vs Q E hr h => ?_)
  · obtain ⟨n, rfl, _⟩ := h
    rfl
  · obtain ⟨n, rfl, q⟩ := h
    refine ⟨_, (pss_one (ps_ret (pe_and (pe_callB (isiK (K := K) rfl) (by rfl) T.b_isinstance (by decide +kernel) (pa_cons (pv 0) (pa_cons (pe_bltn (v := .ty "int") (u := .type "int") (by rfl) T.b_int (by decide +kernel) rfl) pa_nil))) (pe_one (pe_not (pe_callB (isiK (K := K) rfl) (by rfl) T.b_isinstance (by decide +kernel) (pa_cons (pv 0) (pa_cons (pe_bltn (v := .ty "bool") (u := .type "bool") (by rfl) T.b_bool (by decide +kernel) rfl) pa_nil)))))))), ?_⟩
    refine ⟨.int n, rfl, .int n, _, _, _, true, rfl, .ty "int", .base (.int n), kit_ty (by decide +kernel), true, rfl, iteT ?_⟩
    exact ⟨.int n, rfl, .int n, _, _, _, false, rfl, .ty "bool", .base (.int n), kit_ty (by decide +kernel), false, rfl, q⟩
end
/-! ### bases -/
section
variable {P : Program} {w : World} {K : PySem.W.Frag} {mg : Str → Option Value} {base : Heap}
def spIsBase : Sp := fun vs H Q _ => ∃ n : Int, vs = [.int n] ∧ 2 ≤ n ∧ n ≤ 64 ∧ Q (.bl true) H
theorem ok_is_base {f : Addr} {fd : FuncData} (F : Fun K "is_base" "is_base" s_is_base f fd) (h1 : Has P w K mg base 1 "is_integer" ["given"] [] spIsInt) : FnOk P w K mg base CX0 2 f fd ["given"] spIsBase := by
  obtain ⟨f_is_integer, fd_is_integer, ds_is_integer, G_is_integer, m_is_integer, k_is_integer, b_is_integer, v_is_integer⟩ := h1
  refine F.ok sc_is_base (fun vs H Q E h => ?_) (fun cdv A outer s H vs Q E hr h => ?_)
  · obtain ⟨n, rfl, _⟩ := h
    rfl
  · obtain ⟨n, rfl, l1, l2, q⟩ := h
    refine ⟨_, (pss_one (ps_ret (pe_and (pe_call G_is_integer hr (by rfl) m_is_integer k_is_integer b_is_integer v_is_integer pass0 (pa_cons (pv 0) pa_nil)) (pe_one (pe_chain op_le op_le pe_int (pv 0) pe_int))))), ?_⟩
    refine ⟨.int n, rfl, n, rfl, true, rfl, iteT ?_⟩
    refine ⟨.int n, rfl, 2, n, rfl, rfl, true, congrArg V.bl (decide_eq_true l1), iteT ?_⟩
    refine ⟨n, 64, rfl, rfl, ?_⟩
    have e : V.bl (decide (n ≤ 64)) = V.bl true := dT l2
    show Q (V.bl (decide (n ≤ 64))) H
    rw [e]
    exact q
def spCheckBase : Sp := fun vs H Q _ => ∃ n : Int, vs = [.int n] ∧ 2 ≤ n ∧ n ≤ 64 ∧ Q .non H
theorem ok_check_base {f : Addr} {fd : FuncData} (F : Fun K "check_base" "check_base" s_check_base f fd) (h1 : Has P w K mg base 2 "is_base" ["given"] [] spIsBase) : FnOk P w K mg base CX0 3 f fd ["base"] spCheckBase := by
  obtain ⟨f_is_base, fd_is_base, ds_is_base, G_is_base, m_is_base, k_is_base, b_is_base, v_is_base⟩ := h1
  refine F.ok sc_check_base (fun vs H Q E h => ?_) (fun cdv A outer s H vs Q E hr h => ?_)
  · obtain ⟨n, rfl, _⟩ := h
    rfl
  · obtain ⟨n, rfl, l1, l2, q⟩ := h
    refine ⟨_, (pss_one (ps_if (pt_not (pt_val (pe_call G_is_base hr (by rfl) m_is_base k_is_base b_is_base v_is_base pass0 (pa_cons (pv 0) pa_nil))))
        (pss_one ps_never)
        pss_nil)), ?_⟩
    exact ⟨.int n, rfl, n, rfl, l1, l2, true, rfl, iteF q⟩
end
/-! ### the program: level_and_size, path -/
section
variable {P : Program} {w : World} {K : PySem.W.Frag} {mg : Str → Option Value} {base : Heap}
/-! the level -/
def spLevel : Sp := fun vs H Q _ => ∃ b n d : Nat, vs = [.int b, .int n, .int d] ∧ 2 ≤ b ∧ b ≤ 64 ∧ n < d ∧ d < 2 ^ 250 ∧ ∀ k, IsLev b n d k → ∀ H' p, Same H H' → H p = none → H' p = some (.tup [.int (k : Nat), .int ((b ^ k : Nat) : Int)]) → Q (.ref p) H'
theorem ok_level_and_size {f : Addr} {fd : FuncData} (F : Fun K "level_and_size" "level_and_size" s_level_and_size f fd) : FnOk P w K mg base CX0 1 f fd ["base", "now", "due"] spLevel := by
  refine F.ok sc_level_and_size (fun vs H Q E h => ?_) (fun cdv A outer s H vs Q E hr h => ?_)
  · obtain ⟨b, n, d, rfl, _⟩ := h
    rfl
  · obtain ⟨b, n, d, rfl, hb, hb64, hnd, hd, q⟩ := h
    have cb : ∀ x : Nat, NDiv x b := fun x => ndiv 7 (by omega) (by omega)
    refine ⟨_, (pss_cons (ps_asg (pe_tup (pa_cons pe_int (pa_cons pe_int pa_nil))) (pg_tupK (K := K) (n := 2) rfl rfl (pgs_cons (pg_name (i := 3) sc_level_and_size.nd rfl (.inl rfl)) (pgs_cons (pg_name (i := 4) sc_level_and_size.nd rfl (.inl rfl)) pgs_nil))))
      (pss_cons (ps_par (i := 5) (j := 6) (by rfl) sc_level_and_size.nd rfl rfl (by decide) rfl rfl (pa_cons (pe_op op_divN (pv 1) (pv 0)) (pa_cons (pe_op op_divN (pv 2) (pv 0)) pa_nil)) (by rfl))
      (pss_cons (ps_while PassesOwn.never (pt_cmpR op_ne (pv 5) (pv 6) (nomark _))
        (pss_cons (ps_par (i := 5) (j := 6) (by rfl) sc_level_and_size.nd rfl rfl (by decide) rfl rfl (pa_cons (pe_op op_divN (pv 5) (pv 0)) (pa_cons (pe_op op_divN (pv 6) (pv 0)) pa_nil)) (by rfl))
        (pss_one (ps_par (i := 3) (j := 4) (by rfl) sc_level_and_size.nd rfl rfl (by decide) rfl rfl (pa_cons (pe_op op_addN (pv 3) pe_int) (pa_cons (pe_op op_mulN (pv 4) (pv 0)) pa_nil)) (by rfl)))))
      (pss_one (ps_ret (pe_tup (pa_cons (pv 3) (pa_cons (pv 4) pa_nil)))))))), ?_⟩
    refine ⟨by simp [sizeLine_eq], fun t hT => ⟨t, _, rfl, .inl (.inl upd_same), rfl, _, _, rfl, _, _, rfl, rfl, ?_⟩⟩
    refine ⟨_, rfl, _, rfl, _, _, rfl, rfl, cb _, _, rfl, _, rfl, _, _, rfl, rfl, cb _, _, _, rfl, ?_⟩
    refine while_by (fun σ H' => ∃ k : Nat, σ = [some (.int (b : Int)), some (.int (n : Int)), some (.int (d : Int)), some (.int (k : Int)), some (.int ((b ^ k : Nat) : Int)), some (.int ((n / b ^ (k + 1) : Nat) : Int)), some (.int ((d / b ^ (k + 1) : Nat) : Int))] ∧ Same H H' ∧ ∀ j, j < k → n / b ^ (j + 1) ≠ d / b ^ (j + 1))
      (fun σ _ => slotInt σ 6) ⟨0, ?_, same_upd hT, fun j hj => absurd hj (Nat.not_lt_zero j)⟩ ?_ ?_
    · rw [Nat.zero_add, Nat.pow_one]
      rfl
    · rintro σ H' ⟨k, rfl, sm, hk⟩
      by_cases hne : n / b ^ (k + 1) = d / b ^ (k + 1)
      · refine ⟨_, rfl, _, rfl, rfl, false, ?_, iteF ?_⟩
        · rw [hne, decide_eq_true rfl]
          rfl
        · refine ⟨_, rfl, _, rfl, by simp [sizeLine_eq], fun p hp => ?_⟩
          exact q k ⟨hne, hk⟩ _ p (sm.trans (same_upd hp)) (sm.free hp) upd_same
      · have h2 : n / b ^ (k + 1) ≤ d / b ^ (k + 1) := Nat.div_le_div_right (Nat.le_of_lt hnd)
        have hpos : 0 < d / b ^ (k + 1) := pos_of h2 hne
        refine ⟨_, rfl, _, rfl, rfl, true, ?_, iteT ?_⟩
        · rw [int_ne hne]
          rfl
        · refine ⟨_, rfl, _, rfl, _, _, rfl, rfl, cb _, _, rfl, _, rfl, _, _, rfl, rfl, cb _, _, _, rfl, ?_⟩
          refine ⟨_, rfl, k, 1, rfl, rfl, trivial, _, rfl, _, rfl, _, _, rfl, rfl, nmul_r (by omega), _, _, rfl, ?_⟩
          have hlt : d / b ^ (k + 1) / b < d / b ^ (k + 1) := Nat.div_lt_self hpos (by omega)
          refine ⟨⟨k + 1, ?_, sm, fun j hj => ?_⟩, ?_⟩
          · rw [div_succ n b (k + 1), div_succ d b (k + 1), Nat.pow_succ b k]
            rfl
          · by_cases e : j = k
            · rw [e]
              exact hne
            · exact hk j (by omega)
          · show (((d / b ^ (k + 1) / b : Nat) : Int)).toNat < (((d / b ^ (k + 1) : Nat) : Int)).toNat
            rw [Int.toNat_natCast, Int.toNat_natCast]
            exact hlt
    · rintro σ H' Q1 Q2 h ⟨x, hx, y, hy, hs, k, e, z⟩
      exact ⟨x, hx, y, hy, hs, k, e, h _ _ z⟩
/-! the stations -/
def rowV (r : Row3) : List V := [.int (r.1 : Nat), .int (r.2.1 : Nat), .int (r.2.2 : Nat)]
/-- at the places ts stand the rows rs, each a tuple of three -/
def RowsAt (H : Hp) : List Addr → List Row3 → Prop
  | [], [] => True
  | t :: ts, r :: rs => H t = some (.tup (rowV r)) ∧ RowsAt H ts rs
  | _, _ => False
theorem RowsAt.same {H H' : Hp} (s : Same H H') : ∀ {ts : List Addr} {rs : List Row3}, RowsAt H ts rs → RowsAt H' ts rs
  | [], [], h => h
  | _ :: _, _ :: _, h => ⟨s _ _ h.1, h.2.same s⟩
  | [], _ :: _, h => h
  | _ :: _, [], h => h
theorem RowsAt.app {H : Hp} {t : Addr} {r : Row3} : ∀ {ts : List Addr} {rs : List Row3}, RowsAt H ts rs → H t = some (.tup (rowV r)) → RowsAt H (ts ++ [t]) (rs ++ [r])
  | [], [], _, h => ⟨h, trivial⟩
  | _ :: _, _ :: _, h, h2 => ⟨h.1, h.2.app h2⟩
  | [], _ :: _, h, _ => h.elim
  | _ :: _, [], h, _ => h.elim
theorem RowsAt.len {H : Hp} : ∀ {ts : List Addr} {rs : List Row3}, RowsAt H ts rs → ts.length = rs.length
  | [], [], _ => rfl
  | _ :: _, _ :: _, h => congrArg Nat.succ h.2.len
  | [], _ :: _, h => h.elim
  | _ :: _, [], h => h.elim
theorem RowsAt.upd {H : Hp} {p : Addr} {xs : List V} {o : HO} (hp : H p = some (.lst xs)) : ∀ {ts : List Addr} {rs : List Row3}, RowsAt H ts rs → RowsAt (upd H p o) ts rs
  | [], [], h => h
  | t :: _, _ :: _, h => ⟨by rw [upd_ne (ne_of h.1 hp (by intro z; cases z))]; exact h.1, h.2.upd hp⟩
  | [], _ :: _, h => h
  | _ :: _, [], h => h
theorem RowsAt.get {H : Hp} : ∀ {ts : List Addr} {rs : List Row3} {i : Nat} {t : Addr}, RowsAt H ts rs → ts[i]? = some t → ∃ r, rs[i]? = some r ∧ H t = some (.tup (rowV r))
  | t :: _, r :: _, 0, _, h, e => ⟨r, rfl, by cases Option.some.inj e; exact h.1⟩
  | _ :: _, _ :: _, i + 1, _, h, e => h.2.get (i := i) e
  | [], _, _, _, _, e => by simp at e
  | _ :: _, [], _, _, h, _ => h.elim
def spPath : Sp := fun vs H Q _ => ∃ b n d : Nat, vs = [.int b, .int n, .int d] ∧ 2 ≤ b ∧ b ≤ 64 ∧ n < d ∧ d < 2 ^ 250 ∧ ∀ k, IsLev b n d k → ∀ H' p ts, Same H H' → H p = none → H' p = some (.lst (ts.map V.ref)) → RowsAt H' ts (rowsOf b n d k) → Q (.ref p) H'
theorem ok_path {f : Addr} {fd : FuncData} (F : Fun K "path" "path" s_path f fd) (h1 : Has P w K mg base 1 "level_and_size" ["base", "now", "due"] [] spLevel) : FnOk P w K mg base CX0 2 f fd ["base", "now", "due"] spPath := by
  obtain ⟨f_level_and_size, fd_level_and_size, ds_level_and_size, G_level_and_size, m_level_and_size, k_level_and_size, b_level_and_size, v_level_and_size⟩ := h1
  refine F.ok sc_path (fun vs H Q E h => ?_) (fun cdv A outer s H vs Q E hr h => ?_)
  · obtain ⟨b, n, d, rfl, _⟩ := h
    rfl
  · obtain ⟨b, n, d, rfl, hb, hb64, hnd, hd, q⟩ := h
    have cb : ∀ x : Nat, NDiv x b := fun x => ndiv 7 (by omega) (by omega)
    have hb0 : 0 < b := by omega
    refine ⟨_, (pss_cons (ps_asg (pe_call G_level_and_size hr (by rfl) m_level_and_size k_level_and_size b_level_and_size v_level_and_size pass0 (pa_cons (pv 0) (pa_cons (pv 1) (pa_cons (pv 2) pa_nil)))) (pg_tupK (K := K) (n := 2) rfl rfl (pgs_cons (pg_name (i := 3) sc_path.nd rfl (.inl rfl)) (pgs_cons (pg_name (i := 4) sc_path.nd rfl (.inl rfl)) pgs_nil))))
      (pss_cons (ps_set (i := 5) sc_path.nd rfl (.inl rfl) (pe_lst (pa_cons (pe_tup (pa_cons (pv 3) (pa_cons (pe_op op_remN (pe_op op_divN (pv 2) (pv 4)) (pv 0)) (pa_cons (pv 1) pa_nil)))) pa_nil)))
      (pss_cons (ps_while PassesOwn.never (pt_cmpR op_gt (pv 3) pe_int (nomark _))
        (pss_cons (ps_set (i := 6) sc_path.nd rfl (.inl rfl) (pe_op op_mulN (pe_op op_divN (pv 2) (pv 4)) (pv 4)))
        (pss_cons (ps_par (i := 3) (j := 4) (by rfl) sc_path.nd rfl rfl (by decide) rfl rfl (pa_cons (pe_op op_subN (pv 3) pe_int) (pa_cons (pe_op op_divN (pv 4) (pv 0)) pa_nil)) (by rfl))
        (pss_cons (ps_set (i := 7) sc_path.nd rfl (.inl rfl) (pe_op op_remN (pe_op op_divN (pv 2) (pv 4)) (pv 0)))
        (pss_one (ps_if (pt_cmpR op_ne (pv 7) pe_int (nomark _))
          (pss_one (ps_expr (pe_bm PySem.F.plainAttrs_list PySem.F.slot_list_append PySem.F.type_list_append mt_append (pv 5) (pa_cons (pe_tup (pa_cons (pv 3) (pa_cons (pv 7) (pa_cons (pv 6) pa_nil)))) pa_nil))))
          pss_nil))))))
      (pss_one (ps_ret (pv 5)))))), ?_⟩
    refine ⟨_, rfl, _, rfl, _, rfl, b, n, d, rfl, hb, hb64, hnd, hd, fun k hk H0 t0 s0 ht0 eT0 => ?_⟩
    have hkd : ∀ j, j ≤ k → b ^ j ≤ d := fun j hj => Nat.le_trans (Nat.pow_le_pow_right (by omega) hj) (hk.size hb hnd)
    have hk250 : k < 250 := lev_small hk hb hnd hd
    have cs : ∀ j, j ≤ k → ∀ x : Nat, NDiv x (b ^ j) := fun j hj x => ndiv 250 (pow_pos' hb j) (Nat.lt_of_le_of_lt (hkd j hj) hd)
    -- level, size = ..
    refine ⟨t0, _, rfl, .inl (.inl eT0), rfl, _, _, rfl, _, _, rfl, rfl, ?_⟩
    -- rows = [(level, due // size % base, now)]
    refine ⟨_, rfl, _, rfl, _, rfl, _, _, rfl, rfl, cs k (Nat.le_refl k) _, _, rfl, _, _, rfl, rfl, hb0, _, rfl, by simp [sizeLine_eq], fun t1 ht1 => ?_⟩
    have s1 := s0.trans (same_upd (o := .tup (rowV (k, d / b ^ k % b, n))) ht1)
    refine ⟨by simp [sizeLine_eq], fun p hp => ?_⟩
    have s2 := s1.trans (same_upd (o := .lst [.ref t1]) hp)
    have np1 : t1 ≠ p := fun e => by
      rw [← e, upd_same] at hp
      cases hp
    have hpH : H p = none := s1.free hp
    refine while_by (fun σ H' => ∃ (j : Nat) (ts : List Addr) (done : List Row3) (y6 y7 : Option V), σ = [some (.int (b : Int)), some (.int (n : Int)), some (.int (d : Int)), some (.int (j : Int)), some (.int ((b ^ j : Nat) : Int)), some (.ref p), y6, y7] ∧ j ≤ k ∧ ts.length + j ≤ k + 1 ∧ Same H H' ∧ H' p = some (.lst (ts.map V.ref)) ∧ RowsAt H' ts ((k, d / b ^ k % b, n) :: done) ∧ tailOf b d k = done ++ tailOf b d j)
      (fun σ _ => slotInt σ 3) ⟨k, [t1], [], none, none, rfl, Nat.le_refl k, by simp; omega, s2, upd_same, ⟨?_, trivial⟩, rfl⟩ ?_ ?_
    · rw [upd_ne np1, upd_same]
      rfl
    · rintro σ H' ⟨j, ts, done, y6, y7, rfl, hjk, hlen, sm, eL, R, et⟩
      cases j with
      | zero =>
        refine ⟨_, rfl, ((0 : Nat) : Int), 0, rfl, rfl, false, rfl, iteF ?_⟩
        refine ⟨_, rfl, q k hk H' p ts sm hpH eL ?_⟩
        have e : done = tailOf b d k := by
          rw [et]
          exact (List.append_nil done).symm
        rw [e] at R
        exact R
      | succ j =>
        have hj0 : (0 : Int) < ((j + 1 : Nat) : Int) := by omega
        refine ⟨_, rfl, _, _, rfl, rfl, true, congrArg V.bl (decide_eq_true hj0), iteT ?_⟩
        -- tick = due // size * size
        refine ⟨_, rfl, _, rfl, _, _, rfl, rfl, cs (j + 1) hjk _, _, rfl, _, _, rfl, rfl, nmul_w 250 250 (Nat.lt_of_le_of_lt (Nat.div_le_self d _) hd) (Nat.lt_of_le_of_lt (hkd (j + 1) hjk) hd), ?_⟩
        -- level, size = level - 1, size // base
        refine ⟨_, rfl, j + 1, 1, rfl, rfl, Nat.le_add_left 1 j, _, rfl, _, rfl, b ^ (j + 1), b, rfl, rfl, cb _, .int (j : Nat), .int ((b ^ j : Nat) : Int), ?_, ?_⟩
        · show [V.int ((j + 1 - 1 : Nat) : Int), V.int ((b ^ (j + 1) / b : Nat) : Int)] = _
          rw [Nat.pow_succ, Nat.mul_div_cancel _ hb0]
          rfl
        -- digit = due // size % base
        refine ⟨_, rfl, _, rfl, d, b ^ j, rfl, rfl, cs j (by omega) _, _, rfl, _, _, rfl, rfl, hb0, ?_⟩
        have lt : slotInt [some (.int (b : Int)), some (.int (n : Int)), some (.int (d : Int)), some (.int (j : Int)), some (.int ((b ^ j : Nat) : Int)), some (.ref p), some (.int ((d / b ^ (j + 1) * b ^ (j + 1) : Nat) : Int)), some (.int ((d / b ^ j % b : Nat) : Int))] 3 < ((j + 1 : Nat) : Int).toNat := by
          show ((j : Int)).toNat < _
          omega
        by_cases h0 : d / b ^ j % b = 0
        · refine ⟨_, rfl, rfl, false, nF (vE h0), iteF ?_⟩
          · refine ⟨⟨j, ts, done, _, _, rfl, by omega, by omega, sm, eL, R, ?_⟩, lt⟩
            rw [et]
            show done ++ tailOf b d (j + 1) = done ++ tailOf b d j
            have : tailOf b d (j + 1) = tailOf b d j := if_neg (fun z => z h0)
            rw [this]
        · refine ⟨_, rfl, rfl, true, nT (vN (b := 0) h0), iteT ?_⟩
          · -- rows.append((level, digit, tick))
            refine ⟨_, rfl, .inl ⟨rfl, _, .inl (.inl eL)⟩, _, rfl, _, rfl, _, rfl, by simp [sizeLine_eq], fun t2 ht2 => ?_⟩
            have s3 := same_upd (o := .tup (rowV (j, d / b ^ j % b, d / b ^ (j + 1) * b ^ (j + 1)))) ht2
            have npt : t2 ≠ p := fun e => by
              rw [e, eL] at ht2
              cases ht2
            have eL' := s3 _ _ eL
            refine ⟨p, _, _, rfl, rfl, eL', ?_, ?_⟩
            · rw [List.length_map]
              exact sizeLine_ge (by omega)
            · refine ⟨⟨j, ts ++ [t2], done ++ [(j, d / b ^ j % b, d / b ^ (j + 1) * b ^ (j + 1))], _, _, rfl, by omega, ?_, fun c o e => ?_, ?_, ?_, ?_⟩, lt⟩
              · rw [List.length_append, List.length_singleton]
                omega
              · rw [upd_ne (ne_of_none e hpH)]
                exact s3 _ _ (sm _ _ e)
              · rw [upd_same, List.map_append]
                rfl
              · refine RowsAt.upd eL' ?_
                exact RowsAt.app (r := (j, d / b ^ j % b, d / b ^ (j + 1) * b ^ (j + 1))) (rs := (k, d / b ^ k % b, n) :: done) (R.same s3) upd_same
              · rw [et, List.append_assoc]
                show done ++ tailOf b d (j + 1) = done ++ ((j, d / b ^ j % b, d / b ^ (j + 1) * b ^ (j + 1)) :: tailOf b d j)
                have : tailOf b d (j + 1) = (j, d / b ^ j % b, d / b ^ (j + 1) * b ^ (j + 1)) :: tailOf b d j := if_pos h0
                rw [this]
    · rintro σ H' Q1 Q2 h ⟨x, hx, i, j, e1, e2, k, e, z⟩
      exact ⟨x, hx, i, j, e1, e2, k, e, h _ _ z⟩
end
theorem RowsAt.item {H : Hp} {ts : List Addr} {rs : List Row3} (R : RowsAt H ts rs) {i : Nat} {x : V} (hx : (ts.map V.ref)[i]? = some x) : ∃ ti r, x = V.ref ti ∧ ts[i]? = some ti ∧ rs[i]? = some r ∧ H ti = some (.tup (rowV r)) := by
  rw [List.getElem?_map] at hx
  cases e : ts[i]? with
  | none =>
    rw [e] at hx
    cases hx
  | some ti =>
    rw [e] at hx
    obtain ⟨r, hr, er⟩ := R.get e
    exact ⟨ti, r, (Option.some.inj hx).symm, rfl, hr, er⟩
section
variable {P : Program} {w : World} {K : PySem.W.Frag} {mg : Str → Option Value} {base : Heap}
def spWordAt (K : PySem.W.Frag) : Sp := fun vs H Q _ => ∃ (q : Addr) (ws : List Bool) (k : Nat), vs = [.ref q, .int (k : Nat)] ∧ SqL K H q (ws.map lvV) ∧ ws ≠ [] ∧ Q (lvV (wordAt ws k)) H
theorem ok_word_at {f : Addr} {fd : FuncData} (F : Fun K "word_at" "word_at" s_word_at f fd) (T : Tx K mg) : FnOk P w K mg base CX0 1 f fd ["levels", "level"] (spWordAt K) := by
  refine F.ok sc_word_at (fun vs H Q E h => ?_) (fun cdv A outer s H vs Q E hr h => ?_)
  · obtain ⟨q, ws, k, rfl, _⟩ := h
    rfl
  · obtain ⟨q, ws, k, rfl, hL, hne, c⟩ := h
    have hp : 0 < ws.length := List.length_pos_iff.mpr hne
    have hpm : 1 ≤ (ws.map lvV).length := by
      rw [List.length_map]
      exact hp
    refine ⟨_, (pss_one (ps_ret (pe_ix (ix_listK (K := K) rfl) (pv 0) (pe_callB (call_min2 rfl) (by rfl) T.b_min (by decide +kernel) (pa_cons (pv 1) (pa_cons (pe_op op_subN (pe_callB (lenK (K := K) rfl) (by rfl) T.b_len PySem.boot_len (pa_cons (pv 0) pa_nil)) pe_int) pa_nil))) (fun _ _ => rfl)))), ?_⟩
    have g := word_get hne k
    refine ⟨.ref q, rfl, _, rfl, .ref q, rfl, q, _, rfl, .inl hL, (ws.map lvV).length, 1, rfl, rfl, hpm, k, _, rfl, q, _, ((min k (ws.length - 1) : Nat) : Int), _, rfl, congrArg V.int ?_, hL, atI_nat g, c⟩
    dsimp only
    rw [List.length_map]
    split <;> omega
def WordsAt (K : PySem.W.Frag) (mg : Str → Option Value) : Prop := ∃ a, mg "WORDS" = some (.ref a) ∧ ∀ H, SqT K H a [.str "stack", .str "queue"]
def MostAt (mg : Str → Option Value) : Prop := ∃ t, mg "MOST_LEVELS" = some (.int 60 t)
def spIsWord : Sp := fun vs H Q _ => ∃ b : Bool, vs = [lvV b] ∧ Q (.bl true) H
theorem ok_is_word {f : Addr} {fd : FuncData} (F : Fun K "is_word" "is_word" s_is_word f fd) (T : Tx K mg) (hW : WordsAt K mg) : FnOk P w K mg base CX0 1 f fd ["given"] spIsWord := by
  obtain ⟨a_WORDS, g_WORDS, sW⟩ := hW
  refine F.ok sc_is_word (fun vs H Q E h => ?_) (fun cdv A outer s H vs Q E hr h => ?_)
  · obtain ⟨b, rfl, _⟩ := h
    rfl
  · obtain ⟨b, rfl, c⟩ := h
    refine ⟨_, (pss_one (ps_ret (pe_and (pe_callB (isiK (K := K) rfl) (by rfl) T.b_isinstance (by decide +kernel) (pa_cons (pv 0) (pa_cons (pe_bltn (v := .ty "str") (u := .type "str") (by rfl) T.b_str (by decide +kernel) rfl) pa_nil))) (pe_one (pe_cmpR op_in_seq (pv 0) (pe_glob (v := .ref a_WORDS) rfl g_WORDS rfl) (by rfl)))))), ?_⟩
    obtain ⟨x, ex, hx⟩ : ∃ x : Str, lvV b = .str x ∧ (if false then !inV (V.str x) [.str "stack", .str "queue"] else inV (V.str x) [.str "stack", .str "queue"]) = true := by
      cases b
      · exact ⟨_, rfl, by decide⟩
      · exact ⟨_, rfl, by decide⟩
    rw [ex]
    refine ⟨.str x, rfl, _, _, _, _, true, rfl, .ty "str", .base (.str x), kit_ty (by decide +kernel), true, rfl, iteT ?_⟩
    refine ⟨.str x, rfl, a_WORDS, _, rfl, .inr (sW _), rfl, rfl, ?_⟩
    rw [hx]
    exact c
def spIsLength : Sp := fun vs H Q _ => ∃ n : Int, vs = [.int n] ∧ 1 ≤ n ∧ n ≤ 60 ∧ Q (.bl true) H
theorem ok_is_length {f : Addr} {fd : FuncData} (F : Fun K "is_length" "is_length" s_is_length f fd) (hM : MostAt mg) (h1 : Has P w K mg base 1 "is_integer" ["given"] [] spIsInt) : FnOk P w K mg base CX0 2 f fd ["given"] spIsLength := by
  obtain ⟨tM, g_MOST_LEVELS⟩ := hM
  obtain ⟨f_is_integer, fd_is_integer, ds_is_integer, G_is_integer, m_is_integer, k_is_integer, b_is_integer, v_is_integer⟩ := h1
  refine F.ok sc_is_length (fun vs H Q E h => ?_) (fun cdv A outer s H vs Q E hr h => ?_)
  · obtain ⟨n, rfl, _⟩ := h
    rfl
  · obtain ⟨n, rfl, l1, l2, q⟩ := h
    refine ⟨_, (pss_one (ps_ret (pe_and (pe_call G_is_integer hr (by rfl) m_is_integer k_is_integer b_is_integer v_is_integer pass0 (pa_cons (pv 0) pa_nil)) (pe_one (pe_chain op_le op_le pe_int (pv 0) (pe_glob (v := .int 60) rfl g_MOST_LEVELS ⟨_, rfl⟩)))))), ?_⟩
    refine ⟨.int n, rfl, n, rfl, true, rfl, iteT ?_⟩
    refine ⟨.int n, rfl, 1, n, rfl, rfl, true, congrArg V.bl (decide_eq_true l1), iteT ?_⟩
    refine ⟨n, 60, rfl, rfl, ?_⟩
    have e : V.bl (decide (n ≤ 60)) = V.bl true := dT l2
    show Q (V.bl (decide (n ≤ 60))) H
    rw [e]
    exact q
def spAreLevels (K : PySem.W.Frag) : Sp := fun vs H Q _ => ∃ (q : Addr) (ws : List Bool), vs = [.ref q] ∧ SqL K H q (ws.map lvV) ∧ ws ≠ [] ∧ ws.length ≤ 60 ∧ ∀ H', Same H H' → Q (.bl true) H'
theorem ok_are_levels {f : Addr} {fd : FuncData} (F : Fun K "are_levels" "are_levels" s_are_levels f fd) (T : Tx K mg) (h0 : Has P w K mg base 2 "is_length" ["given"] [] spIsLength) (h1 : Has P w K mg base 1 "is_word" ["given"] [] spIsWord) : FnOk P w K mg base CX0 3 f fd ["given"] (spAreLevels K) := by
  obtain ⟨f_is_length, fd_is_length, ds_is_length, G_is_length, m_is_length, k_is_length, b_is_length, v_is_length⟩ := h0
  obtain ⟨f_is_word, fd_is_word, ds_is_word, G_is_word, m_is_word, k_is_word, b_is_word, v_is_word⟩ := h1
  refine F.ok sc_are_levels (fun vs H Q E h => ?_) (fun cdv A outer s H vs Q E hr h => ?_)
  · obtain ⟨q, ws, rfl, _⟩ := h
    rfl
  · obtain ⟨q, ws, rfl, hL, hne, h60, c⟩ := h
    have hp : 0 < ws.length := List.length_pos_iff.mpr hne
    refine ⟨_, (pss_cons (ps_if (PW.pt (pw_or (pt_not (pt_val (pe_callB (isiK (K := K) rfl) (by rfl) T.b_isinstance (by decide +kernel) (pa_cons (pv 0) (pa_cons (pe_bltn (v := .ty "list") (u := .type "list") (by rfl) T.b_list (by decide +kernel) rfl) pa_nil))))) (pw_or1 (pt_not (pt_val (pe_call G_is_length hr (by rfl) m_is_length k_is_length b_is_length v_is_length pass0 (pa_cons (pe_callB (lenK (K := K) rfl) (by rfl) T.b_len PySem.boot_len (pa_cons (pv 0) pa_nil)) pa_nil)))))))
        (pss_one (ps_ret pe_bl))
        pss_nil)
      (pss_one (ps_ret (pe_callB (allK (K := K) rfl rfl) (by rfl) T.b_all (by decide +kernel) (pa_cons (pe_lc (own := [("word", 1)]) (g := gName 1) (tt := tYes) rfl sc_are_levels.nd (pi_list (pv 0)) (blkOk_by (own := [("word", 1)]) (N := N_are_levels) (sc := defScope s_are_levels) (by decide +kernel)) (fun _ _ _ _ _ => (pg_name (i := 1) sc_are_levels.nd rfl (.inl rfl))) (fun _ _ _ _ _ => pts_nil) (fun _ _ _ _ _ => (pe_call G_is_word (hr.mono (by decide)) (by rfl) m_is_word k_is_word b_is_word v_is_word pass0 (pa_cons (pv 1) pa_nil)))) pa_nil))))), ?_⟩
    refine ⟨.ref q, rfl, _, _, _, _, true, rfl, .ty "list", tyx_list hL, kit_ty (by decide +kernel), true, rfl, iteF ?_⟩
    refine ⟨.ref q, rfl, q, _, rfl, .inl hL, _, rfl, ?_, ?_, true, rfl, iteF ?_⟩
    · rw [List.length_map]
      omega
    · rw [List.length_map]
      omega
    refine ⟨.ref q, rfl, q, rfl, ⟨_, hL⟩, fun D hD => lc_list (K := K) (a := q) (xs := ws.map lvV) (fun i H' => Same H H' ∧ H' D = some (.lst ((List.replicate i true).map V.bl)))
      ⟨same_upd hD, upd_same⟩ (fun i H' _ ⟨sm, _⟩ => sm.seq hL) ?_ ?_⟩
    · rintro i x H' hx ⟨sm, eD⟩
      obtain ⟨b, rfl⟩ : ∃ b, x = lvV b := by
        rw [List.getElem?_map] at hx
        cases e : ws[i]? with
        | none =>
          rw [e] at hx
          cases hx
        | some b =>
          rw [e] at hx
          exact ⟨b, (Option.some.inj hx).symm⟩
      have hi : i < (ws.map lvV).length := (List.getElem?_eq_some_iff.mp hx).1
      rw [List.length_map] at hi
      refine ⟨rfl, yesT (iteT ?_)⟩
      refine ⟨_, rfl, b, rfl, _, eD, ?_, fun c o e => ?_, ?_⟩
      · rw [List.length_map, List.length_replicate]
        exact sizeLine_ge (by omega)
      · rw [upd_ne (ne_of_none e hD)]
        exact sm _ _ e
      · rw [upd_same, List.replicate_succ', List.map_append]
        rfl
    · rintro H1 ⟨s1, eD⟩
      refine ⟨D, _, rfl, SqL.of eD, ?_⟩
      have ea : (List.replicate (ws.map lvV).length true).all id = true := by
        rw [List.all_replicate]
        simp
      rw [ea]
      exact c H1 s1
def spCheckLevels (K : PySem.W.Frag) : Sp := fun vs H Q _ => ∃ (q : Addr) (ws : List Bool), vs = [.ref q] ∧ SqL K H q (ws.map lvV) ∧ ws ≠ [] ∧ ws.length ≤ 60 ∧ ∀ H', Same H H' → Q .non H'
theorem ok_check_levels {f : Addr} {fd : FuncData} (F : Fun K "check_levels" "check_levels" s_check_levels f fd) (h1 : Has P w K mg base 3 "are_levels" ["given"] [] (spAreLevels K)) : FnOk P w K mg base CX0 4 f fd ["levels"] (spCheckLevels K) := by
  obtain ⟨f_are_levels, fd_are_levels, ds_are_levels, G_are_levels, m_are_levels, k_are_levels, b_are_levels, v_are_levels⟩ := h1
  refine F.ok sc_check_levels (fun vs H Q E h => ?_) (fun cdv A outer s H vs Q E hr h => ?_)
  · obtain ⟨q, ws, rfl, _⟩ := h
    rfl
  · obtain ⟨q, ws, rfl, hL, hne, h60, c⟩ := h
    refine ⟨_, (pss_one (ps_if (pt_not (pt_val (pe_call G_are_levels hr (by rfl) m_are_levels k_are_levels b_are_levels v_are_levels pass0 (pa_cons (pv 0) pa_nil))))
        (pss_one ps_never)
        pss_nil)), ?_⟩
    exact ⟨_, rfl, q, ws, rfl, hL, hne, h60, fun H1 s1 => ⟨true, rfl, iteF (c H1 s1)⟩⟩
end
section
variable {P : Program} {w : World} {K : PySem.W.Frag} {mg : Str → Option Value} {base : Heap}
def spFront (K : PySem.W.Frag) : Sp := fun vs H Q _ => ∃ (b n d lo : Nat) (q : Addr) (ws : List Bool), vs = [.int (b : Nat), .ref q, .int (n : Nat), .int (d : Nat), .int (lo : Nat)] ∧ 2 ≤ b ∧ b ≤ 64 ∧ n < d ∧ d < 2 ^ 250 ∧ SqL K H q (ws.map lvV) ∧ ws ≠ [] ∧
  ∀ k, IsLev b n d k → ∀ H', Same H H' → Q (.bl (frontOf ws lo (rowsOf b n d k))) H'
theorem ok_goes_in_front {f : Addr} {fd : FuncData} (F : Fun K "goes_in_front" "goes_in_front" s_goes_in_front f fd) (h1 : Has P w K mg base 2 "path" ["base", "now", "due"] [] spPath) (h2 : Has P w K mg base 1 "word_at" ["levels", "level"] [] (spWordAt K)) :
    FnOk P w K mg base CX0 3 f fd ["base", "levels", "now", "due", "lowest"] (spFront K) := by
  obtain ⟨f_path, fd_path, ds_path, G_path, m_path, k_path, b_path, v_path⟩ := h1
  obtain ⟨f_word_at, fd_word_at, ds_word_at, G_word_at, m_word_at, k_word_at, b_word_at, v_word_at⟩ := h2
  refine F.ok sc_goes_in_front (fun vs H Q E h => ?_) (fun cdv A outer s H vs Q E hr h => ?_)
  · obtain ⟨b, n, d, lo, q, ws, rfl, _⟩ := h
    rfl
  · obtain ⟨b, n, d, lo, q, ws, rfl, hb, hb64, hnd, hd, hL, hne, c⟩ := h
    refine ⟨_, (pss_cons (ps_set (i := 5) sc_goes_in_front.nd rfl (.inl rfl) pe_bl)
      (pss_cons (ps_for PassesOwn.never rfl (pi_list (pe_call G_path hr (by rfl) m_path k_path b_path v_path pass0 (pa_cons (pv 0) (pa_cons (pv 2) (pa_cons (pv 3) pa_nil))))) (pg_tupK (K := K) (n := 3) rfl rfl (pgs_cons (pg_name (i := 6) sc_goes_in_front.nd rfl (.inl rfl)) (pgs_cons (pg_name (i := 7) sc_goes_in_front.nd rfl (.inl rfl)) (pgs_cons (pg_name (i := 8) sc_goes_in_front.nd rfl (.inl rfl)) pgs_nil))))
        (pss_one (ps_if (PW.pt (pw_and (pt_cmpR op_ge (pv 6) (pv 4) (nomark _)) (pw_and1 (pt_cmpR op_eq (pe_call G_word_at (hr.mono (by decide)) (by rfl) m_word_at k_word_at b_word_at v_word_at pass0 (pa_cons (pv 1) (pa_cons (pv 6) pa_nil))) pe_str (nomark _)))))
          (pss_one (ps_set (i := 5) sc_goes_in_front.nd rfl (.inl rfl) (pe_not (pv 5))))
          pss_nil)))
      (pss_one (ps_ret (pv 5))))), ?_⟩
    refine ⟨_, rfl, _, rfl, _, rfl, b, n, d, rfl, hb, hb64, hnd, hd, fun k hk H1 p ts s1 hp0 hp R => ?_⟩
    refine ⟨p, rfl, ⟨_, SqL.of hp⟩, for_list (K := K) (a := p) (xs := ts.map V.ref) (fun i σ H' => ∃ y6 y7 y8, σ = [some (.int (b : Nat)), some (.ref q), some (.int (n : Nat)), some (.int (d : Nat)), some (.int (lo : Nat)), some (.bl (frontOf ws lo ((rowsOf b n d k).take i))), y6, y7, y8] ∧ H' = H1)
      ⟨none, none, none, rfl, rfl⟩ (fun i σ H' _ ⟨_, _, _, _, e⟩ => by rw [e]; exact SqL.of hp) ?_ ?_⟩
    · rintro i x σ H' hx ⟨y6, y7, y8, rfl, rfl⟩
      obtain ⟨ti, r, rfl, hti, hr, er⟩ := R.item hx
      have hstep : frontOf ws lo ((rowsOf b n d k).take (i + 1)) = if (decide (lo ≤ r.1) && wordAt ws r.1) = true then !frontOf ws lo ((rowsOf b n d k).take i) else frontOf ws lo ((rowsOf b n d k).take i) := by
        rw [List.take_add_one, hr]
        exact front_snoc ws lo _ r
      refine ⟨ti, _, rfl, .inl (.inl er), rfl, _, _, rfl, _, _, rfl, _, _, rfl, rfl, ?_⟩
      have hL1 := s1.seq hL
      by_cases hlo : lo ≤ r.1
      · refine ⟨_, rfl, _, rfl, _, _, rfl, rfl, true, dT (by omega), iteT ?_⟩
        refine ⟨_, rfl, _, rfl, q, ws, r.1, rfl, hL1, hne, ?_, wordAt ws r.1, congrArg V.bl (lv_dec _), ?_⟩
        · cases wordAt ws r.1 <;> rfl
        cases hw : wordAt ws r.1 with
        | true =>
          refine iteT ⟨_, rfl, _, rfl, ⟨some (.int (r.1 : Nat)), some (.int (r.2.1 : Nat)), some (.int (r.2.2 : Nat)), ?_, rfl⟩⟩
          rw [hstep, hw, decide_eq_true hlo]
          rfl
        | false =>
          refine iteF ⟨some (.int (r.1 : Nat)), some (.int (r.2.1 : Nat)), some (.int (r.2.2 : Nat)), ?_, rfl⟩
          rw [hstep, hw, decide_eq_true hlo]
          rfl
      · refine ⟨_, rfl, _, rfl, _, _, rfl, rfl, false, dF (by omega), iteF (iteF ⟨some (.int (r.1 : Nat)), some (.int (r.2.1 : Nat)), some (.int (r.2.2 : Nat)), ?_, rfl⟩)⟩
        rw [hstep, decide_eq_false hlo]
        rfl
    · rintro σ H' ⟨y6, y7, y8, rfl, rfl⟩
      have e : (rowsOf b n d k).take (ts.map V.ref).length = rowsOf b n d k := by
        refine List.take_of_length_le ?_
        rw [List.length_map]
        exact Nat.le_of_eq R.len.symm
      rw [e]
      exact ⟨_, rfl, c k hk _ s1⟩
end
/-! ### the law's sides, counted digit by digit -/
section
variable {P : Program} {w : World} {K : PySem.W.Frag} {mg : Str → Option Value} {base : Heap}
def spLawFront (K : PySem.W.Frag) : Sp := fun vs H Q _ => ∃ (b n d : Nat) (q : Addr) (ws : List Bool), vs = [.int (b : Nat), .ref q, .int (n : Nat), .int (d : Nat)] ∧ 2 ≤ b ∧ b ≤ 64 ∧ n < d ∧ d < 2 ^ 250 ∧ SqL K H q (ws.map lvV) ∧ ws ≠ [] ∧
  ∀ k, IsLev b n d k → Q (.bl (frontOf ws 0 (rowsOf b n d k))) H
theorem ok_law_front {f : Addr} {fd : FuncData} (F : Fun K "_law_is_front" "_law_is_front" s__law_is_front f fd) (T : Tx K mg) : FnOk P w K mg base CX0 1 f fd ["_law_base", "_law_levels", "_law_now", "_law_due_here"] (spLawFront K) := by
  refine F.ok sc__law_is_front (fun vs H Q E h => ?_) (fun cdv A outer s H vs Q E hr h => ?_)
  · obtain ⟨b, n, d, q, ws, rfl, _⟩ := h
    rfl
  · obtain ⟨b, n, d, q, ws, rfl, hb, hb64, hnd, hd, hL, hne, c⟩ := h
    have hp : 0 < ws.length := List.length_pos_iff.mpr hne
    have cb : ∀ x : Nat, NDiv x b := fun x => ndiv 7 (by omega) (by omega)
    have hb0 : 0 < b := by omega
    refine ⟨_, (pss_cons (ps_set (i := 4) sc__law_is_front.nd rfl (.inl rfl) pe_bl)
      (pss_cons (ps_set (i := 5) sc__law_is_front.nd rfl (.inl rfl) pe_int)
      (pss_cons (ps_while PassesOwn.never (pt_cmpR op_ne (pv 2) (pv 3) (nomark _))
        (pss_cons (ps_if (PW.pt (pw_and (pt_cmpR op_gt (pe_op op_remN (pv 3) (pv 0)) pe_int (nomark _)) (pw_and1 (pt_cmpR op_eq (pe_ix (ix_listK (K := K) rfl) (pv 1) (pe_callB (min2N rfl) (by rfl) T.b_min (by decide +kernel) (pa_cons (pv 5) (pa_cons (pe_op op_subN (pe_callB (lenK (K := K) rfl) (by rfl) T.b_len PySem.boot_len (pa_cons (pv 1) pa_nil)) pe_int) pa_nil))) (fun _ _ => rfl)) pe_str (nomark _)))))
          (pss_one (ps_set (i := 4) sc__law_is_front.nd rfl (.inl rfl) (pe_not (pv 4))))
          pss_nil)
        (pss_cons (ps_set (i := 2) sc__law_is_front.nd rfl (.inl rfl) (pe_op op_divN (pv 2) (pv 0)))
        (pss_cons (ps_set (i := 3) sc__law_is_front.nd rfl (.inl rfl) (pe_op op_divN (pv 3) (pv 0)))
        (pss_one (ps_set (i := 5) sc__law_is_front.nd rfl (.inl rfl) (pe_op op_addN (pv 5) pe_int)))))))
      (pss_one (ps_ret (pv 4)))))), ?_⟩
    refine while_by (fun σ H' => ∃ k : Nat, σ = [some (.int (b : Nat)), some (.ref q), some (.int ((n / b ^ k : Nat) : Int)), some (.int ((d / b ^ k : Nat) : Int)), some (.bl (decide (cntW ws b d k % 2 = 1))), some (.int (k : Nat))] ∧ H' = H ∧ ∀ j, j < k → n / b ^ j ≠ d / b ^ j)
      (fun σ _ => slotInt σ 3) ⟨0, ?_, rfl, fun j hj => absurd hj (Nat.not_lt_zero j)⟩ ?_ ?_
    · rw [Nat.pow_zero, Nat.div_one, Nat.div_one]
      rfl
    · rintro σ H' ⟨k, rfl, rfl, hk⟩
      by_cases hne2 : n / b ^ k = d / b ^ k
      · refine ⟨_, rfl, _, rfl, rfl, false, nF (vE hne2), iteF ?_⟩
        have hk0 : k ≠ 0 := fun z => by
          rw [z, Nat.pow_zero, Nat.div_one, Nat.div_one] at hne2
          omega
        obtain ⟨j, rfl⟩ : ∃ j, k = j + 1 := ⟨k - 1, by omega⟩
        have hl : IsLev b n d j := ⟨hne2, fun i hi => hk (i + 1) (by omega)⟩
        have z := c j hl
        rw [front_cnt hl hnd] at z
        exact ⟨_, rfl, z⟩
      · have h2 : n / b ^ k ≤ d / b ^ k := Nat.div_le_div_right (Nat.le_of_lt hnd)
        have hpos : 0 < d / b ^ k := pos_of h2 hne2
        refine ⟨_, rfl, _, rfl, rfl, true, nT (vN hne2), iteT ?_⟩
        have hlt : d / b ^ k / b < d / b ^ k := Nat.div_lt_self hpos (by omega)
        have hg := word_get hne k
        have fin : ∀ v : Bool, v = decide (cntW ws b d (k + 1) % 2 = 1) →
            (∃ k' : Nat, ([some (.int (b : Nat)), some (.ref q), some (.int ((n / b ^ k / b : Nat) : Int)), some (.int ((d / b ^ k / b : Nat) : Int)), some (.bl v), some (.int ((k + 1 : Nat) : Int))] : L2.St) = [some (.int (b : Nat)), some (.ref q), some (.int ((n / b ^ k' : Nat) : Int)), some (.int ((d / b ^ k' : Nat) : Int)), some (.bl (decide (cntW ws b d k' % 2 = 1))), some (.int (k' : Nat))] ∧ H' = H' ∧ ∀ j, j < k' → n / b ^ j ≠ d / b ^ j) := by
          intro v ev
          refine ⟨k + 1, ?_, rfl, fun j hj => ?_⟩
          · rw [div_succ n b k, div_succ d b k, ev]
          · by_cases e : j = k
            · rw [e]
              exact hne2
            · exact hk j (by omega)
        have less : (((d / b ^ k / b : Nat) : Int)).toNat < (((d / b ^ k : Nat) : Int)).toNat := by
          rw [Int.toNat_natCast, Int.toNat_natCast]
          exact hlt
        by_cases h0 : d / b ^ k % b = 0
        · have hc : cntW ws b d (k + 1) = cntW ws b d k := by
            show cntW ws b d k + (if d / b ^ k % b ≠ 0 ∧ wordAt ws k = true then 1 else 0) = _
            rw [if_neg (fun z => z.1 h0), Nat.add_zero]
          refine ⟨_, rfl, _, rfl, d / b ^ k, b, rfl, rfl, hb0, _, _, rfl, rfl, false, dF (by show ¬ ((d / b ^ k % b : Nat) : Int) > 0; rw [h0]; decide), iteF (iteF ?_)⟩
          refine ⟨_, rfl, _, rfl, _, _, rfl, rfl, cb _, _, rfl, _, rfl, _, _, rfl, rfl, cb _, _, rfl, k, 1, rfl, rfl, trivial, ⟨fin _ (by rw [hc]), less⟩⟩
        · refine ⟨_, rfl, _, rfl, d / b ^ k, b, rfl, rfl, hb0, _, _, rfl, rfl, true, dT (show ((d / b ^ k % b : Nat) : Int) > 0 from Int.natCast_pos.mpr (Nat.pos_of_ne_zero h0)), iteT ?_⟩
          refine ⟨.ref q, rfl, _, rfl, .ref q, rfl, q, _, rfl, .inl hL, (ws.map lvV).length, 1, rfl, rfl, by rw [List.length_map]; exact hp, k, (ws.map lvV).length - 1, rfl, q, _, ((min k (ws.length - 1) : Nat) : Int), _, rfl, ?_, hL, atI_nat hg, ?_, wordAt ws k, congrArg V.bl (lv_dec _), ?_⟩
          · rw [List.length_map]
          · cases wordAt ws k <;> rfl
          · cases hw : wordAt ws k with
            | true =>
              have hc : cntW ws b d (k + 1) = cntW ws b d k + 1 := by
                show cntW ws b d k + (if d / b ^ k % b ≠ 0 ∧ wordAt ws k = true then 1 else 0) = _
                rw [if_pos ⟨h0, hw⟩]
              refine iteT ⟨_, rfl, _, rfl, ?_⟩
              refine ⟨_, rfl, _, rfl, _, _, rfl, rfl, cb _, _, rfl, _, rfl, _, _, rfl, rfl, cb _, _, rfl, k, 1, rfl, rfl, trivial, ⟨fin _ (by rw [hc, odd_succ]), less⟩⟩
            | false =>
              have hc : cntW ws b d (k + 1) = cntW ws b d k := by
                show cntW ws b d k + (if d / b ^ k % b ≠ 0 ∧ wordAt ws k = true then 1 else 0) = _
                rw [if_neg (fun z => by rw [hw] at z; cases z.2), Nat.add_zero]
              refine iteF ?_
              refine ⟨_, rfl, _, rfl, _, _, rfl, rfl, cb _, _, rfl, _, rfl, _, _, rfl, rfl, cb _, _, rfl, k, 1, rfl, rfl, trivial, ⟨fin _ (by rw [hc]), less⟩⟩
    · rintro σ H' Q1 Q2 h ⟨x, hx, y, hy, hs, k, e, z⟩
      exact ⟨x, hx, y, hy, hs, k, e, h _ _ z⟩
end
/-! ### the program: where the lowest stack stands; powers of a base -/
section
variable {P : Program} {w : World} {K : PySem.W.Frag} {mg : Str → Option Value} {base : Heap}
def spLow (K : PySem.W.Frag) : Sp := fun vs H Q _ => ∃ (b : Nat) (q : Addr) (ws : List Bool), vs = [.int (b : Nat), .ref q] ∧ 2 ≤ b ∧ b ≤ 64 ∧ ws.length ≤ 40 ∧ SqL K H q (ws.map lvV) ∧ ws ≠ [] ∧
  ∀ o, LowO ws o → Q (optV (o.map (b ^ ·))) H
theorem wordAt_get {ws : List Bool} {i : Nat} {x : Bool} (h : ws[i]? = some x) : wordAt ws i = x := by
  have hi := (List.getElem?_eq_some_iff.mp h).1
  unfold wordAt
  rw [show min i (ws.length - 1) = i by omega, List.getD_eq_getElem?_getD, h]
  rfl
theorem wordAt_past {ws : List Bool} {i : Nat} (h : ws.length ≤ i) (hne : ws ≠ []) : wordAt ws i = wordAt ws (ws.length - 1) := by
  have := List.length_pos_iff.mpr hne
  unfold wordAt
  rw [show min i (ws.length - 1) = ws.length - 1 by omega, show min (ws.length - 1) (ws.length - 1) = ws.length - 1 by omega]
theorem pow_lt_240 {b i : Nat} (hb : b ≤ 64) (hi : i ≤ 40) : b ^ i < 2 ^ 241 :=
  Nat.lt_of_le_of_lt (Nat.pow_le_pow_left hb i) (by
    rw [show (64 : Nat) = 2 ^ 6 from rfl, ← Nat.pow_mul]
    exact Nat.pow_lt_pow_right (by omega) (by omega))
theorem ok_size_of_lowest_stack {f : Addr} {fd : FuncData} (F : Fun K "size_of_lowest_stack" "size_of_lowest_stack" s_size_of_lowest_stack f fd) : FnOk P w K mg base CX0 1 f fd ["base", "levels"] (spLow K) := by
  refine F.ok sc_size_of_lowest_stack (fun vs H Q E h => ?_) (fun cdv A outer s H vs Q E hr h => ?_)
  · obtain ⟨b, q, ws, rfl, _⟩ := h
    rfl
  · obtain ⟨b, q, ws, rfl, hb, hb64, hl, hL, hne, c⟩ := h
    refine ⟨_, (pss_cons (ps_set (i := 2) sc_size_of_lowest_stack.nd rfl (.inl rfl) pe_int)
      (pss_cons (ps_for PassesOwn.never rfl (pi_list (pv 1)) (pg_name (i := 3) sc_size_of_lowest_stack.nd rfl (.inl rfl))
        (pss_cons (ps_if (pt_cmpR op_eq (pv 3) pe_str (nomark _))
          (pss_one (ps_ret (pv 2)))
          pss_nil)
        (pss_one (ps_aug (i := 2) sc_size_of_lowest_stack.nd rfl (.inl rfl) (pv 0) ip_mulA))))
      (pss_one (ps_ret pe_non)))), ?_⟩
    refine ⟨_, rfl, q, rfl, ⟨_, hL⟩, for_list (K := K) (a := q) (xs := ws.map lvV) (fun i σ H' => ∃ y, σ = [some (.int (b : Nat)), some (.ref q), some (.int ((b ^ i : Nat) : Int)), y] ∧ H' = H ∧ ∀ j, j < i → wordAt ws j = false)
      ⟨none, rfl, rfl, fun j hj => absurd hj (Nat.not_lt_zero j)⟩ (fun i σ H' _ ⟨_, _, e, _⟩ => by rw [e]; exact hL) ?_ ?_⟩
    · rintro i x σ H' hx ⟨y, rfl, rfl, hj⟩
      obtain ⟨v, hv, rfl⟩ : ∃ v, ws[i]? = some v ∧ lvV v = x := by
        rw [List.getElem?_map] at hx
        cases hw : ws[i]? with
        | none => rw [hw] at hx; cases hx
        | some v => rw [hw] at hx; exact ⟨v, rfl, Option.some.inj hx⟩
      have hwv := wordAt_get hv
      have hi := (List.getElem?_eq_some_iff.mp hv).1
      refine ⟨_, rfl, ?_, v, congrArg V.bl (lv_dec v), ?_⟩
      · cases v <;> rfl
      · cases v with
        | true => exact iteT ⟨_, rfl, c (some i) ⟨hi, hwv, hj⟩⟩
        | false =>
          refine iteF ⟨_, rfl, _, rfl, _, _, rfl, rfl, mul_r (by omega) (by omega), ⟨some (lvV false), ?_, rfl, fun j h => ?_⟩⟩
          · rw [Nat.pow_succ, Int.natCast_mul]
            rfl
          · by_cases e : j = i
            · rw [e]; exact hwv
            · exact hj j (by omega)
    · rintro σ H' ⟨y, rfl, rfl, hj⟩
      rw [List.length_map] at hj
      refine c none fun j => ?_
      have hp := List.length_pos_iff.mpr hne
      by_cases h : j < ws.length
      · exact hj j h
      · rw [wordAt_past (by omega) hne]
        exact hj _ (by omega)
def spPowers : Sp := fun vs H Q _ => ∃ b m : Nat, vs = [.int (b : Nat), .int (m : Nat)] ∧ 2 ≤ b ∧ b ≤ 64 ∧ 1 ≤ m ∧ m ≤ 40 ∧ ∀ H' q, Same H H' → H q = none → H' q = some (.lst (((List.range m).map (b ^ ·)).map fun n : Nat => V.int n)) → Q (.ref q) H'
theorem ok_powers {f : Addr} {fd : FuncData} (F : Fun K "powers" "powers" s_powers f fd) (T : Tx K mg) : FnOk P w K mg base CX0 1 f fd ["base", "many"] spPowers := by
  refine F.ok sc_powers (fun vs H Q E h => ?_) (fun cdv A outer s H vs Q E hr h => ?_)
  · obtain ⟨b, m, rfl, _⟩ := h
    rfl
  · obtain ⟨b, m, rfl, hb, hb64, hm, hm40, c⟩ := h
    refine ⟨_, (pss_cons (ps_set (i := 2) sc_powers.nd rfl (.inl rfl) (pe_lst (pa_cons pe_int pa_nil)))
      (pss_cons (ps_while PassesOwn.never (pt_cmpR op_lt (pe_callB (lenK (K := K) rfl) (by rfl) T.b_len PySem.boot_len (pa_cons (pv 2) pa_nil)) (pv 1) (nomark _))
        (pss_one (ps_expr (pe_bm PySem.F.plainAttrs_list PySem.F.slot_list_append PySem.F.type_list_append mt_append (pv 2) (pa_cons (pe_op op_mulN (pe_ix (ix_listK (K := K) rfl) (pv 2) (pe_un un_neg pe_int) (fun _ _ => rfl)) (pv 0)) pa_nil)))))
      (pss_one (ps_ret (pv 2))))), ?_⟩
    refine ⟨by simp [sizeLine_eq], fun q hq => ?_⟩
    refine while_by (fun σ H' => ∃ k : Nat, σ = [some (.int (b : Nat)), some (.int (m : Nat)), some (.ref q)] ∧ 1 ≤ k ∧ k ≤ m ∧ Same H H' ∧ H' q = some (.lst (((List.range k).map (b ^ ·)).map fun n : Nat => V.int n)))
      (fun _ H' => match H' q with | some (.lst xs) => m - xs.length | _ => 0) ⟨1, rfl, Nat.le_refl 1, hm, same_upd hq, upd_same⟩ ?_ ?_
    · rintro σ H' ⟨k, rfl, hk1, hkm, sm, eL⟩
      have len : (((List.range k).map (b ^ ·)).map fun n : Nat => V.int n).length = k := by rw [List.length_map, List.length_map, List.length_range]
      by_cases h : k < m
      · refine ⟨_, rfl, q, _, rfl, .inl (SqL.of eL), _, rfl, k, m, congrArg V.int (by rw [len]), rfl, true, dT (by omega), iteT ?_⟩
        obtain ⟨j, rfl⟩ : ∃ j, k = j + 1 := ⟨k - 1, by omega⟩
        have el : ((List.range (j + 1)).map (b ^ ·)).map (fun n : Nat => V.int n) = ((List.range j).map (b ^ ·)).map (fun n : Nat => V.int n) ++ [.int ((b ^ j : Nat) : Int)] := by
          rw [List.range_succ, List.map_append, List.map_append]
          rfl
        refine ⟨_, rfl, .inl ⟨rfl, _, .inl (.inl eL)⟩, _, rfl, _, rfl, q, _, -1, .int ((b ^ j : Nat) : Int), rfl, rfl, SqL.of eL, (by rw [el]; exact atI_last _ _), _, rfl, b ^ j, b, rfl, rfl, nmul_r (by omega), q, _, _, rfl, rfl, eL, by rw [len]; exact sizeLine_ge (by omega), ?_⟩
        have el2 : ((List.range (j + 1)).map (b ^ ·)).map (fun n : Nat => V.int n) ++ [.int ((b ^ j * b : Nat) : Int)] = ((List.range (j + 1 + 1)).map (b ^ ·)).map (fun n : Nat => V.int n) := by
          rw [List.range_succ (n := j + 1), List.map_append, List.map_append, ← Nat.pow_succ]
          rfl
        refine ⟨⟨j + 2, rfl, by omega, by omega, fun a o e => ?_, ?_⟩, ?_⟩
        · rw [upd_ne (ne_of_none e hq)]
          exact sm _ _ e
        · rw [upd_same, el2]
        · dsimp only
          rw [upd_same, eL]
          dsimp only
          rw [el2]
          simp only [List.length_map, List.length_range]
          omega
      · refine ⟨_, rfl, q, _, rfl, .inl (SqL.of eL), _, rfl, k, m, congrArg V.int (by rw [len]), rfl, false, dF (by omega), iteF ?_⟩
        have ek : k = m := by omega
        rw [ek] at eL
        exact ⟨_, rfl, c _ q sm hq eL⟩
    · rintro σ H' Q1 Q2 h ⟨x, hx, y, hy, hs, k, e, z1, i, j, e1, e2, v, e3, z⟩
      exact ⟨x, hx, y, hy, hs, k, e, z1, i, j, e1, e2, v, e3, h _ _ z⟩
end
/-! ### the program: the dues that tell -/
section
variable {P : Program} {w : World} {K : PySem.W.Frag} {mg : Str → Option Value} {base : Heap}
def spTelling (K : PySem.W.Frag) : Sp := fun vs H Q _ => ∃ (b1 b2 : Nat) (q1 q2 : Addr) (w1 w2 : List Bool), vs = [.int (b1 : Nat), .ref q1, .int (b2 : Nat), .ref q2] ∧ 2 ≤ b1 ∧ b1 ≤ 64 ∧ 2 ≤ b2 ∧ b2 ≤ 64 ∧ w1.length ≤ 40 ∧ w2.length ≤ 40 ∧ SqL K H q1 (w1.map lvV) ∧ SqL K H q2 (w2.map lvV) ∧ w1 ≠ [] ∧ w2 ≠ [] ∧
  ∀ L, Tells b1 w1 b2 w2 L → ∀ H' q, Same H H' → H q = none → H' q = some (.lst (L.map fun n : Nat => V.int n)) → Q (.ref q) H'
theorem ok_telling_dues {f : Addr} {fd : FuncData} (F : Fun K "telling_dues" "telling_dues" s_telling_dues f fd) (T : Tx K mg) (h1 : Has P w K mg base 1 "powers" ["base", "many"] [] spPowers) (h2 : Has P w K mg base 1 "size_of_lowest_stack" ["base", "levels"] [] (spLow K)) :
    FnOk P w K mg base CX0 2 f fd ["base", "levels", "other_base", "other_levels"] (spTelling K) := by
  obtain ⟨f_powers, fd_powers, ds_powers, G_powers, m_powers, k_powers, b_powers, v_powers⟩ := h1
  obtain ⟨f_size_of_lowest_stack, fd_size_of_lowest_stack, ds_size_of_lowest_stack, G_size_of_lowest_stack, m_size_of_lowest_stack, k_size_of_lowest_stack, b_size_of_lowest_stack, v_size_of_lowest_stack⟩ := h2
  refine F.ok sc_telling_dues (fun vs H Q E h => ?_) (fun cdv A outer s H vs Q E hr h => ?_)
  · obtain ⟨b1, b2, q1, q2, w1, w2, rfl, _⟩ := h
    rfl
  · obtain ⟨b1, b2, q1, q2, w1, w2, rfl, hb1, hb1', hb2, hb2', l1, l2, hL1, hL2, n1, n2, c⟩ := h
    refine ⟨_, (pss_cons (ps_if (pt_cmpR op_eq (pv 0) (pv 2) (nomark _))
        (pss_one (ps_ret (pe_call G_powers hr (by rfl) m_powers k_powers b_powers v_powers pass0 (pa_cons (pv 0) (pa_cons (pe_callB (max2N rfl) (by rfl) T.b_max (by decide +kernel) (pa_cons (pe_callB (lenK (K := K) rfl) (by rfl) T.b_len PySem.boot_len (pa_cons (pv 1) pa_nil)) (pa_cons (pe_callB (lenK (K := K) rfl) (by rfl) T.b_len PySem.boot_len (pa_cons (pv 3) pa_nil)) pa_nil))) pa_nil)))))
        pss_nil)
      (pss_cons (ps_set (i := 4) sc_telling_dues.nd rfl (.inl rfl) (pe_lst (pa_cons (pe_call G_size_of_lowest_stack hr (by rfl) m_size_of_lowest_stack k_size_of_lowest_stack b_size_of_lowest_stack v_size_of_lowest_stack pass0 (pa_cons (pv 0) (pa_cons (pv 1) pa_nil))) (pa_cons (pe_call G_size_of_lowest_stack hr (by rfl) m_size_of_lowest_stack k_size_of_lowest_stack b_size_of_lowest_stack v_size_of_lowest_stack pass0 (pa_cons (pv 2) (pa_cons (pv 3) pa_nil))) pa_nil))))
      (pss_cons (ps_setLc (i := 6) (own := [("size", 5)]) (g := gName 5)  rfl sc_telling_dues.nd rfl rfl (sw_true rfl rfl rfl (by decide +kernel)) (pi_list (pv 4)) (blkOk_by (own := [("size", 5)]) (N := N_telling_dues) (sc := defScope s_telling_dues) (by decide +kernel)) (fun _ _ _ _ _ => (pg_name (i := 5) sc_telling_dues.nd rfl (.inl rfl))) (fun _ _ _ _ _ => (pts_one (pt_cmpR op_notN (pv 5) pe_non (nomark _)))) (fun _ _ _ _ _ => (pv 5)))
      (pss_cons (ps_if (pt_cmpR op_eq (pe_callB (lenK (K := K) rfl) (by rfl) T.b_len PySem.boot_len (pa_cons (pv 6) pa_nil)) pe_int (nomark _))
        (pss_one (ps_ret (pe_lst pa_nil)))
        pss_nil)
      (pss_cons (ps_par (i := 5) (j := 7) (by rfl) sc_telling_dues.nd rfl rfl (by decide) rfl rfl (pa_cons (pe_callB (minK (K := K) rfl rfl) (by rfl) T.b_min (by decide +kernel) (pa_cons (pv 6) pa_nil)) (pa_cons (pe_callB (min2N rfl) (by rfl) T.b_min (by decide +kernel) (pa_cons (pv 0) (pa_cons (pv 2) pa_nil))) pa_nil)) (by rfl))
      (pss_one (ps_ret (pe_lst (pa_cons (pv 5) (pa_cons (pe_op op_mulN (pv 7) (pv 5)) (pa_cons (pe_op op_mulN (pe_op op_addN (pv 7) pe_int) (pv 5)) pa_nil))))))))))), ?_⟩
    have p1 := List.length_pos_iff.mpr n1
    have p2 := List.length_pos_iff.mpr n2
    by_cases eb : b1 = b2
    · subst eb
      refine ⟨_, rfl, _, rfl, rfl, true, dT rfl, iteT ?_⟩
      refine ⟨_, rfl, _, rfl, q1, _, rfl, .inl hL1, _, rfl, q2, _, rfl, .inl hL2, (w1.map lvV).length, (w2.map lvV).length, rfl, b1, max w1.length w2.length, ?_, hb1, hb1', by omega, by omega, fun H' q sm hq eq => c _ (tells_same hb1 n1 n2) H' q sm hq eq⟩
      rw [List.length_map, List.length_map]
      rfl
    · refine ⟨_, rfl, _, rfl, rfl, false, dF (vN eb), iteF ?_⟩
      refine ⟨_, rfl, _, rfl, b1, q1, w1, rfl, hb1, hb1', l1, hL1, n1, fun o1 ho1 => ?_⟩
      refine ⟨_, rfl, _, rfl, b2, q2, w2, rfl, hb2, hb2', l2, hL2, n2, fun o2 ho2 => ?_⟩
      refine ⟨by simp [sizeLine_eq], fun p hp => ?_⟩
      have sp := same_upd (o := .lst [optV (o1.map (b1 ^ ·)), optV (o2.map (b2 ^ ·))]) hp
      have ep : (upd H p (.lst [optV (o1.map (b1 ^ ·)), optV (o2.map (b2 ^ ·))])) p = some (.lst [optV (o1.map (b1 ^ ·)), optV (o2.map (b2 ^ ·))]) := upd_same
      generalize upd H p (.lst [optV (o1.map (b1 ^ ·)), optV (o2.map (b2 ^ ·))]) = Hp1 at sp ep ⊢
      generalize hS : [o1.map (b1 ^ ·), o2.map (b2 ^ ·)] = S
      have ep2 : Hp1 p = some (.lst (S.map optV)) := by rw [← hS]; exact ep
      have lS : S.length = 2 := by rw [← hS]; rfl
      refine ⟨_, rfl, p, rfl, ⟨_, SqL.of ep2⟩, fun D hD => lc_list (K := K) (a := p) (xs := S.map optV) (fun i H' => Same Hp1 H' ∧ H' D = some (.lst (((S.take i).filterMap id).map fun n : Nat => V.int n)))
        ⟨same_upd hD, upd_same⟩ (fun i H' _ ⟨sm, _⟩ => SqL.of (sm _ _ ep2)) ?_ ?_⟩
      · rintro i x H' hx ⟨sm, eD⟩
        obtain ⟨o, ho, rfl⟩ : ∃ o, S[i]? = some o ∧ optV o = x := by
          rw [List.getElem?_map] at hx
          cases hw : S[i]? with
          | none => rw [hw] at hx; cases hx
          | some v => rw [hw] at hx; exact ⟨v, rfl, Option.some.inj hx⟩
        have hi := (List.getElem?_eq_some_iff.mp ho).1
        cases o with
        | none =>
          refine ⟨rfl, _, rfl, rfl, false, rfl, iteF ⟨sm, ?_⟩⟩
          rw [List.take_add_one, ho, List.filterMap_append]
          simpa using eD
        | some n =>
          refine ⟨rfl, _, rfl, rfl, true, rfl, iteT ⟨_, rfl, _, eD, ?_, fun c o e => ?_, ?_⟩⟩
          · have := List.length_filterMap_le id (S.take i)
            rw [List.length_map]
            rw [List.length_take] at this
            exact sizeLine_ge (by omega)
          · rw [upd_ne (ne_of_none e hD)]
            exact sm _ _ e
          · rw [upd_same, List.take_add_one, ho, List.filterMap_append, List.map_append]
            rfl
      · rintro H2 ⟨sm, eD⟩
        rw [List.length_map, List.take_length] at eD
        have s0 := sp.trans sm
        cases hm : minO b1 b2 o1 o2 with
        | none =>
          have e1 : o1 = none := by cases o1 <;> cases o2 <;> first | rfl | cases hm
          have e2 : o2 = none := by cases o1 <;> cases o2 <;> first | rfl | cases hm
          subst e1 e2 hS
          refine ⟨_, rfl, D, _, rfl, .inl (SqL.of eD), rfl, true, rfl, iteT ?_⟩
          exact ⟨by simp [sizeLine_eq], fun q hq => c _ (tells_none hb1 hb2 ho1 ho2) _ q (s0.trans (same_upd hq)) (s0.free hq) upd_same⟩
        | some s =>
          have hT := tells_ne hb1 hb2 ho1 ho2 eb hm
          have pos : 0 < (S.filterMap id).length := by
            subst hS
            cases o1 <;> cases o2 <;> first | (simp; done) | cases hm
          have hmin : s ∈ S.filterMap id ∧ ∀ y ∈ S.filterMap id, s ≤ y := by
            subst hS
            cases o1 <;> cases o2 <;> simp [minO] at hm ⊢ <;> omega
          have eD2 : H2 D = some (.lst (((S.filterMap id).map fun n : Nat => (n : Int)).map V.int)) := by
            rw [eD, List.map_map]
            rfl
          refine ⟨_, rfl, D, _, rfl, .inl (SqL.of eD), rfl, false, dF ?_, iteF ?_⟩
          · rw [List.length_map]
            exact vI (by omega)
          refine ⟨_, rfl, D, (S.filterMap id).map fun n : Nat => (n : Int), rfl, SqL.of eD2, by rw [List.length_map]; exact pos, fun m hm1 hm2 => ?_⟩
          obtain ⟨s', hs', rfl⟩ := List.mem_map.mp hm1
          have es : s' = s := by
            have a := hm2 _ (List.mem_map.mpr ⟨s, hmin.1, rfl⟩)
            have b := hmin.2 s' hs'
            omega
          subst es
          refine ⟨_, rfl, _, rfl, b1, b2, rfl, _, _, rfl, ?_⟩
          refine ⟨_, rfl, _, rfl, _, rfl, min b1 b2, s', rfl, rfl, nmul_l (by omega), _, rfl, _, _, rfl, rfl, trivial, _, rfl, _, _, rfl, rfl, nmul_l (by show min b1 b2 + 1 < 2 ^ 64; omega), by simp [sizeLine_eq], fun q hq => ?_⟩
          exact c _ hT _ q (s0.trans (same_upd hq)) (s0.free hq) upd_same
end
/-! ### the program: the first tick at which they differ -/
theorem RowsAt.append {H : Hp} : ∀ {ts us : List Addr} {rs qs : List Row3}, RowsAt H ts rs → RowsAt H us qs → RowsAt H (ts ++ us) (rs ++ qs)
  | [], _, [], _, _, h => h
  | _ :: _, _, _ :: _, _, h, g => ⟨h.1, RowsAt.append h.2 g⟩
  | [], _, _ :: _, _, h, _ => h.elim
  | _ :: _, _, [], _, h, _ => h.elim
/-- numbers that are not negative, sorted -/
theorem sorted_nats {T : List Nat} {ns : List Int} (hp : ns.Perm (T.map fun n : Nat => (n : Int))) (hu : ns.Pairwise (· ≤ ·)) : ∃ S : List Nat, ns = S.map (fun n : Nat => (n : Int)) ∧ S.Perm T ∧ S.Pairwise (· ≤ ·) := by
  have e : ns = (ns.map Int.toNat).map (fun n : Nat => (n : Int)) := by
    rw [List.map_map]
    refine ((List.map_congr_left fun x hx => ?_).trans (List.map_id ns)).symm
    obtain ⟨n, _, rfl⟩ := List.mem_map.mp (hp.mem_iff.mp hx)
    rfl
  refine ⟨ns.map Int.toNat, e, ?_, ?_⟩
  · have := hp.map Int.toNat
    rw [List.map_map] at this
    have z : T.map (Int.toNat ∘ fun n : Nat => (n : Int)) = T := by
      refine (List.map_congr_left fun x _ => ?_).trans (List.map_id T)
      rfl
    rwa [z] at this
  · rw [List.pairwise_map]
    exact hu.imp fun {a b} h => by omega
section
variable {P : Program} {w : World} {K : PySem.W.Frag} {mg : Str → Option Value} {base : Heap}
def spFstD (K : PySem.W.Frag) : Sp := fun vs H Q _ => ∃ (b1 b2 d : Nat) (q1 q2 : Addr) (w1 w2 : List Bool), vs = [.int (b1 : Nat), .ref q1, .int (b2 : Nat), .ref q2, .int (d : Nat)] ∧ 2 ≤ b1 ∧ b1 ≤ 64 ∧ 2 ≤ b2 ∧ b2 ≤ 64 ∧ 1 ≤ d ∧ d < 2 ^ 250 ∧ SqL K H q1 (w1.map lvV) ∧ SqL K H q2 (w2.map lvV) ∧ w1 ≠ [] ∧ w2 ≠ [] ∧
  ∀ r, FstP b1 w1 b2 w2 d r → ∀ H', Same H H' → Q (optV r) H'
theorem ok_first_difference {f : Addr} {fd : FuncData} (F : Fun K "first_difference" "first_difference" s_first_difference f fd) (T : Tx K mg) (h1 : Has P w K mg base 2 "path" ["base", "now", "due"] [] spPath) (h2 : Has P w K mg base 3 "goes_in_front" ["base", "levels", "now", "due", "lowest"] [] (spFront K)) :
    FnOk P w K mg base CX0 4 f fd ["base", "levels", "other_base", "other_levels", "due"] (spFstD K) := by
  obtain ⟨f_path, fd_path, ds_path, G_path, m_path, k_path, b_path, v_path⟩ := h1
  obtain ⟨f_goes_in_front, fd_goes_in_front, ds_goes_in_front, G_goes_in_front, m_goes_in_front, k_goes_in_front, b_goes_in_front, v_goes_in_front⟩ := h2
  refine F.ok sc_first_difference (fun vs H Q E h => ?_) (fun cdv A outer s H vs Q E hr h => ?_)
  · obtain ⟨b1, b2, d, q1, q2, w1, w2, rfl, _⟩ := h
    rfl
  · obtain ⟨b1, b2, d, q1, q2, w1, w2, rfl, hb1, hb1', hb2, hb2', hd, hd', hL1, hL2, n1, n2, c⟩ := h
    refine ⟨_, (pss_cons (ps_setLc (i := 5) (own := [("level", 8), ("digit", 9), ("tick", 10)]) (g := _) (tt := tYes) rfl sc_first_difference.nd rfl rfl (sw_true rfl rfl rfl (by decide +kernel)) (pi_list (pe_op op_cat (pe_call G_path (hr.mono (by decide)) (by rfl) m_path k_path b_path v_path pass0 (pa_cons (pv 0) (pa_cons pe_int (pa_cons (pv 4) pa_nil)))) (pe_call G_path (hr.mono (by decide)) (by rfl) m_path k_path b_path v_path pass0 (pa_cons (pv 2) (pa_cons pe_int (pa_cons (pv 4) pa_nil)))))) (blkOk_by (own := [("level", 8), ("digit", 9), ("tick", 10)]) (N := N_first_difference) (sc := defScope s_first_difference) (by decide +kernel)) (fun _ _ _ _ _ => (pg_tupK (K := K) (n := 3) rfl rfl (pgs_cons (pg_name (i := 8) sc_first_difference.nd rfl (.inl rfl)) (pgs_cons (pg_name (i := 9) sc_first_difference.nd rfl (.inl rfl)) (pgs_cons (pg_name (i := 10) sc_first_difference.nd rfl (.inl rfl)) pgs_nil))))) (fun _ _ _ _ _ => pts_nil) (fun _ _ _ _ _ => (pv 10)))
      (pss_cons (ps_for PassesOwn.never rfl (pi_list (pe_callB cr_sortedI (by rfl) T.b_sorted (by decide +kernel) (pa_cons (pv 5) pa_nil))) (pg_name (i := 6) sc_first_difference.nd rfl (.inl rfl))
        (pss_cons (ps_set (i := 7) sc_first_difference.nd rfl (.inl rfl) (pe_call G_goes_in_front hr (by rfl) m_goes_in_front k_goes_in_front b_goes_in_front v_goes_in_front pass0 (pa_cons (pv 0) (pa_cons (pv 1) (pa_cons (pv 6) (pa_cons (pv 4) (pa_cons pe_int pa_nil)))))))
        (pss_one (ps_if (pt_cmpR op_ne (pv 7) (pe_call G_goes_in_front hr (by rfl) m_goes_in_front k_goes_in_front b_goes_in_front v_goes_in_front pass0 (pa_cons (pv 2) (pa_cons (pv 3) (pa_cons (pv 6) (pa_cons (pv 4) (pa_cons pe_int pa_nil)))))) (nomark _))
          (pss_one (ps_ret (pv 6)))
          pss_nil))))
      (pss_one (ps_ret pe_non)))), ?_⟩
    refine ⟨_, rfl, _, rfl, b1, 0, d, rfl, hb1, hb1', by omega, hd', fun k1 hk1 Ha p1 ts1 sa hp1 ep1 R1 => ?_⟩
    refine ⟨_, rfl, _, rfl, b2, 0, d, rfl, hb2, hb2', by omega, hd', fun k2 hk2 Hb p2 ts2 sb hp2 ep2 R2 => ?_⟩
    have hsm : ∀ {b k : Nat}, 2 ≤ b → IsLev b 0 d k → (rowsOf b 0 d k).length ≤ 251 := fun {b k} hb hk => by
      have a := tail_len b d k
      have z := lev_small hk hb (by omega) hd'
      show (tailOf b d k).length + 1 ≤ 251
      omega
    have r1 := hsm hb1 hk1
    have r2 := hsm hb2 hk2
    have lt1 : ts1.length = (rowsOf b1 0 d k1).length := R1.len
    have lt2 : ts2.length = (rowsOf b2 0 d k2).length := R2.len
    have R : RowsAt Hb (ts1 ++ ts2) (rowsOf b1 0 d k1 ++ rowsOf b2 0 d k2) := (R1.same sb).append R2
    refine ⟨p1, p2, _, _, rfl, rfl, sb _ _ ep1, ep2, sizeLine_le (by rw [List.length_map, List.length_map]; omega), fun p hp => ?_⟩
    have sp := same_upd (o := .lst (ts1.map V.ref ++ ts2.map V.ref)) hp
    have ep : (upd Hb p (.lst (ts1.map V.ref ++ ts2.map V.ref))) p = some (.lst ((ts1 ++ ts2).map V.ref)) := by rw [upd_same, List.map_append]
    generalize upd Hb p (.lst (ts1.map V.ref ++ ts2.map V.ref)) = Hp1 at sp ep ⊢
    replace R := R.same sp
    have lts : (ts1 ++ ts2).length ≤ 502 := by rw [List.length_append]; omega
    generalize hrs : rowsOf b1 0 d k1 ++ rowsOf b2 0 d k2 = rs at R
    have hT : rs.map (·.2.2) = ticksOf b1 d k1 ++ ticksOf b2 d k2 := by rw [← hrs, List.map_append]; rfl
    generalize ts1 ++ ts2 = ts at ep R lts
    refine ⟨p, rfl, ⟨_, SqL.of ep⟩, fun D hD => lc_list (K := K) (a := p) (xs := ts.map V.ref) (fun i H' => Same Hp1 H' ∧ H' D = some (.lst ((rs.take i).map fun r => V.int (r.2.2 : Nat))))
      ⟨same_upd hD, upd_same⟩ (fun i H' _ ⟨sm, _⟩ => SqL.of (sm _ _ ep)) ?_ ?_⟩
    · rintro i x H' hx ⟨sm, eD⟩
      obtain ⟨ti, r, rfl, hti, hr, er⟩ := R.item hx
      refine ⟨ti, _, rfl, .inl (.inl (sm _ _ er)), rfl, _, _, rfl, _, _, rfl, _, _, rfl, rfl, rfl, yesT (iteT ?_)⟩
      refine ⟨_, rfl, _, eD, ?_, fun c o e => ?_, ?_⟩
      · have := R.len
        have hi := (List.getElem?_eq_some_iff.mp hti).1
        rw [List.length_map, List.length_take]
        exact sizeLine_ge (by omega)
      · rw [upd_ne (ne_of_none e hD)]
        exact sm _ _ e
      · rw [upd_same, List.take_add_one, hr, List.map_append]
        rfl
    · rintro H2 ⟨sm, eD⟩
      have eD2 : H2 D = some (.lst (((rs.map (·.2.2)).map fun n : Nat => (n : Int)).map V.int)) := by
        rw [eD, List.length_map, R.len, List.take_length, List.map_map, List.map_map]
        rfl
      refine ⟨_, rfl, D, _, rfl, SqL.of eD2, fun ns' p3 pm up hp3 => ?_⟩
      obtain ⟨S, rfl, pS, uS⟩ := sorted_nats pm up
      have s3 := same_upd (o := .lst ((S.map fun n : Nat => (n : Int)).map V.int)) hp3
      have e3 : (upd H2 p3 (.lst ((S.map fun n : Nat => (n : Int)).map V.int))) p3 = some (.lst (S.map fun n : Nat => V.int n)) := by rw [upd_same, List.map_map]; rfl
      generalize upd H2 p3 (.lst ((S.map fun n : Nat => (n : Int)).map V.int)) = H3 at s3 e3 ⊢
      have sH : Same H H3 := (((sa.trans sb).trans sp).trans sm).trans s3
      have hmem : ∀ t, t ∈ S ↔ t ∈ ticksOf b1 d k1 ++ ticksOf b2 d k2 := fun t => by rw [← hT]; exact pS.mem_iff
      have hlt : ∀ t ∈ S, t < d := fun t ht => by
        rcases List.mem_append.mp ((hmem t).mp ht) with y | y
        · exact ticks_lt hb1 hd y
        · exact ticks_lt hb2 hd y
      refine ⟨p3, rfl, ⟨_, SqL.of e3⟩, for_list (K := K) (a := p3) (xs := S.map fun n : Nat => V.int n) (fun i σ H' => ∃ y6 y7 y8 y9 y10, σ = [some (.int (b1 : Nat)), some (.ref q1), some (.int (b2 : Nat)), some (.ref q2), some (.int (d : Nat)), some (.ref D), y6, y7, y8, y9, y10] ∧ Same H3 H' ∧ ∀ t ∈ S.take i, ¬ Dif b1 w1 b2 w2 t d)
        ⟨none, none, none, none, none, rfl, fun _ _ e => e, fun t ht => by cases ht⟩ (fun i σ H' _ ⟨_, _, _, _, _, _, sm, _⟩ => SqL.of (sm _ _ e3)) ?_ ?_⟩
      · rintro i x σ H' hx ⟨y6, y7, y8, y9, y10, rfl, s4, hno⟩
        obtain ⟨t, ht, rfl⟩ : ∃ t, S[i]? = some t ∧ V.int (t : Nat) = x := by
          rw [List.getElem?_map] at hx
          cases hw : S[i]? with
          | none => rw [hw] at hx; cases hx
          | some v => rw [hw] at hx; exact ⟨v, rfl, Option.some.inj hx⟩
        have htd := hlt t (List.mem_of_getElem? ht)
        obtain ⟨j1, hj1⟩ := lev_any (n := t) (d := d) hb1 htd
        obtain ⟨j2, hj2⟩ := lev_any (n := t) (d := d) hb2 htd
        have s04 := sH.trans s4
        refine ⟨_, rfl, _, rfl, _, rfl, _, rfl, b1, t, d, 0, q1, w1, rfl, hb1, hb1', htd, hd', s04.seq hL1, n1, fun k hk H5 s5 => ?_⟩
        rw [← frB_eq hk]
        refine ⟨_, rfl, _, rfl, _, rfl, _, rfl, _, rfl, b2, t, d, 0, q2, w2, rfl, hb2, hb2', htd, hd', (s04.trans s5).seq hL2, n2, fun k' hk' H6 s6 => ?_⟩
        rw [← frB_eq hk']
        have s06 := (s04.trans s5).trans s6
        by_cases e : frB w1 b1 t d = frB w2 b2 t d
        · refine ⟨rfl, false, nF (congrArg V.bl e), iteF ⟨_, _, _, _, _, rfl, (s4.trans s5).trans s6, fun t' ht' => ?_⟩⟩
          rw [List.take_add_one, ht] at ht'
          rcases List.mem_append.mp ht' with y | y
          · exact hno t' y
          · rw [List.mem_singleton.mp y]
            exact fun z => z e
        · refine ⟨rfl, true, nT (fun z => e (V.bl.inj z)), iteT ⟨_, rfl, c (some t) ?_ _ s06⟩⟩
          have el : S = S.take i ++ t :: S.drop (i + 1) := by
            have hi := (List.getElem?_eq_some_iff.mp ht)
            have z := List.drop_eq_getElem_cons hi.1
            rw [hi.2] at z
            rw [← z, List.take_append_drop]
          exact fst_at hb1 hb2 hd hk1 hk2 hmem uS el hno e
      · rintro σ H' ⟨y6, y7, y8, y9, y10, rfl, s4, hno⟩
        rw [List.length_map, List.take_length] at hno
        exact c none (fst_none hb1 hb2 hk1 hk2 hmem hno) _ (sH.trans s4)
end
/-! ### the program: two wheels told apart -/
section
variable {P : Program} {w : World} {K : PySem.W.Frag} {mg : Str → Option Value} {base : Heap}
theorem due_small {b1 l1 b2 l2 e : Nat} (h1 : b1 ≤ 64) (h2 : b2 ≤ 64) (k1 : l1 ≤ 40) (k2 : l2 ≤ 40) (h : DueB b1 l1 b2 l2 e) : e < 2 ^ 250 := by
  have key : ∀ {b l : Nat}, b ≤ 64 → l ≤ 40 → (b + 1) * b ^ (l - 1) < 2 ^ 250 := fun {b l} hb hl => by
    have a : b ^ (l - 1) < 2 ^ 241 := pow_lt_240 hb (by omega)
    have c : (b + 1) * b ^ (l - 1) ≤ 2 ^ 7 * 2 ^ 241 := Nat.mul_le_mul (by omega) (Nat.le_of_lt a)
    exact Nat.lt_of_le_of_lt c (by rw [← Nat.pow_add]; exact Nat.pow_lt_pow_right (by omega) (by omega))
  rcases h with z | z
  · exact Nat.lt_of_le_of_lt z (key h1 k1)
  · exact Nat.lt_of_le_of_lt z (key h2 k2)
def spTold (K : PySem.W.Frag) : Sp := fun vs H Q _ => ∃ (b1 b2 : Nat) (q1 q2 : Addr) (w1 w2 : List Bool), vs = [.int (b1 : Nat), .ref q1, .int (b2 : Nat), .ref q2] ∧ 2 ≤ b1 ∧ b1 ≤ 64 ∧ 2 ≤ b2 ∧ b2 ≤ 64 ∧ w1.length ≤ 40 ∧ w2.length ≤ 40 ∧ SqL K H q1 (w1.map lvV) ∧ SqL K H q2 (w2.map lvV) ∧ w1 ≠ [] ∧ w2 ≠ [] ∧
  ∀ r, ToldP b1 w1 b2 w2 r → ∀ H' u, Same H H' → H u = none → H' u = some (.tup (tolV r)) → Q (.ref u) H'
theorem ok_told_apart {f : Addr} {fd : FuncData} (F : Fun K "told_apart" "told_apart" s_told_apart f fd) (h1 : Has P w K mg base 3 "check_base" ["base"] [] spCheckBase) (h2 : Has P w K mg base 4 "check_levels" ["levels"] [] (spCheckLevels K))
    (h3 : Has P w K mg base 2 "telling_dues" ["base", "levels", "other_base", "other_levels"] [] (spTelling K)) (h4 : Has P w K mg base 4 "first_difference" ["base", "levels", "other_base", "other_levels", "due"] [] (spFstD K)) :
    FnOk P w K mg base CX0 5 f fd ["base", "levels", "other_base", "other_levels"] (spTold K) := by
  obtain ⟨f_check_base, fd_check_base, ds_check_base, G_check_base, m_check_base, k_check_base, b_check_base, v_check_base⟩ := h1
  obtain ⟨f_check_levels, fd_check_levels, ds_check_levels, G_check_levels, m_check_levels, k_check_levels, b_check_levels, v_check_levels⟩ := h2
  obtain ⟨f_telling_dues, fd_telling_dues, ds_telling_dues, G_telling_dues, m_telling_dues, k_telling_dues, b_telling_dues, v_telling_dues⟩ := h3
  obtain ⟨f_first_difference, fd_first_difference, ds_first_difference, G_first_difference, m_first_difference, k_first_difference, b_first_difference, v_first_difference⟩ := h4
  refine F.ok sc_told_apart (fun vs H Q E h => ?_) (fun cdv A outer s H vs Q E hr h => ?_)
  · obtain ⟨b1, b2, q1, q2, w1, w2, rfl, _⟩ := h
    rfl
  · obtain ⟨b1, b2, q1, q2, w1, w2, rfl, hb1, hb1', hb2, hb2', l1, l2, hL1, hL2, n1, n2, c⟩ := h
    refine ⟨_, (pss_cons (ps_expr (pe_call G_check_base (hr.mono (by decide)) (by rfl) m_check_base k_check_base b_check_base v_check_base pass0 (pa_cons (pv 0) pa_nil)))
      (pss_cons (ps_expr (pe_call G_check_levels hr (by rfl) m_check_levels k_check_levels b_check_levels v_check_levels pass0 (pa_cons (pv 1) pa_nil)))
      (pss_cons (ps_expr (pe_call G_check_base (hr.mono (by decide)) (by rfl) m_check_base k_check_base b_check_base v_check_base pass0 (pa_cons (pv 2) pa_nil)))
      (pss_cons (ps_expr (pe_call G_check_levels hr (by rfl) m_check_levels k_check_levels b_check_levels v_check_levels pass0 (pa_cons (pv 3) pa_nil)))
      (pss_cons (ps_for PassesOwn.never rfl (pi_list (pe_call G_telling_dues (hr.mono (by decide)) (by rfl) m_telling_dues k_telling_dues b_telling_dues v_telling_dues pass0 (pa_cons (pv 0) (pa_cons (pv 1) (pa_cons (pv 2) (pa_cons (pv 3) pa_nil)))))) (pg_name (i := 4) sc_told_apart.nd rfl (.inl rfl))
        (pss_cons (ps_set (i := 5) sc_told_apart.nd rfl (.inl rfl) (pe_call G_first_difference hr (by rfl) m_first_difference k_first_difference b_first_difference v_first_difference pass0 (pa_cons (pv 0) (pa_cons (pv 1) (pa_cons (pv 2) (pa_cons (pv 3) (pa_cons (pv 4) pa_nil)))))))
        (pss_one (ps_if (pt_cmpR op_notN (pv 5) pe_non (nomark _))
          (pss_one (ps_ret (pe_tup (pa_cons pe_str (pa_cons (pv 4) (pa_cons (pv 5) pa_nil))))))
          pss_nil))))
      (pss_one (ps_ret (pe_tup (pa_cons pe_str pa_nil))))))))), ?_⟩
    refine ⟨_, rfl, b1, rfl, by omega, by omega, ?_⟩
    refine ⟨_, rfl, q1, w1, rfl, hL1, n1, by omega, fun Ha sa => ?_⟩
    refine ⟨_, rfl, b2, rfl, by omega, by omega, ?_⟩
    refine ⟨_, rfl, q2, w2, rfl, sa.seq hL2, n2, by omega, fun Hb sb => ?_⟩
    have sab := sa.trans sb
    refine ⟨_, rfl, _, rfl, _, rfl, _, rfl, b1, b2, q1, q2, w1, w2, rfl, hb1, hb1', hb2, hb2', l1, l2, sab.seq hL1, sab.seq hL2, n1, n2, fun L hT Hc q sc hq eq => ?_⟩
    have sH := sab.trans sc
    refine ⟨q, rfl, ⟨_, SqL.of eq⟩, for_list (K := K) (a := q) (xs := L.map fun n : Nat => V.int n) (fun i σ H' => ∃ y4 y5, σ = [some (.int (b1 : Nat)), some (.ref q1), some (.int (b2 : Nat)), some (.ref q2), y4, y5] ∧ Same Hc H' ∧ ∀ e ∈ L.take i, ∀ n, n < e → ¬ Dif b1 w1 b2 w2 n e)
      ⟨none, none, rfl, fun _ _ e => e, fun t ht => by cases ht⟩ (fun i σ H' _ ⟨_, _, _, sm, _⟩ => SqL.of (sm _ _ eq)) ?_ ?_⟩
    · rintro i x σ H' hx ⟨y4, y5, rfl, sm, hno⟩
      obtain ⟨e, he, rfl⟩ : ∃ t, L[i]? = some t ∧ V.int (t : Nat) = x := by
        rw [List.getElem?_map] at hx
        cases hw : L[i]? with
        | none => rw [hw] at hx; cases hx
        | some v => rw [hw] at hx; exact ⟨v, rfl, Option.some.inj hx⟩
      obtain ⟨e1, eB⟩ := hT.bd e (List.mem_of_getElem? he)
      have s1 := sH.trans sm
      refine ⟨_, rfl, _, rfl, _, rfl, _, rfl, _, rfl, b1, b2, e, q1, q2, w1, w2, rfl, hb1, hb1', hb2, hb2', e1, due_small hb1' hb2' l1 l2 eB, s1.seq hL1, s1.seq hL2, n1, n2, fun r hr H5 s5 => ?_⟩
      cases r with
      | none =>
        refine ⟨_, rfl, rfl, false, rfl, iteF ⟨_, _, rfl, sm.trans s5, fun e' he' => ?_⟩⟩
        rw [List.take_add_one, he] at he'
        rcases List.mem_append.mp he' with y | y
        · exact hno e' y
        · rw [List.mem_singleton.mp y]
          exact hr
      | some m =>
        refine ⟨_, rfl, rfl, true, rfl, iteT ⟨_, rfl, _, rfl, by simp [sizeLine_eq], fun u hu => ?_⟩⟩
        have el : L = L.take i ++ e :: L.drop (i + 1) := by
          have hi := (List.getElem?_eq_some_iff.mp he)
          have z := List.drop_eq_getElem_cons hi.1
          rw [hi.2] at z
          rw [← z, List.take_append_drop]
        have hT2 := hT
        rw [el] at hT2
        exact c (some (e, m)) (tells_at hT2 hno hr) _ u ((s1.trans s5).trans (same_upd hu)) ((s1.trans s5).free hu) upd_same
    · rintro σ H' ⟨y4, y5, rfl, sm, hno⟩
      rw [List.length_map, List.take_length] at hno
      exact ⟨by simp [sizeLine_eq], fun u hu => c none (tells_done hT hno) _ u ((sH.trans sm).trans (same_upd hu)) ((sH.trans sm).free hu) upd_same⟩
end
/-! ### the law's drawing of numbers -/
def SrcAt (H : Hp) (p : Addr) : Prop := ∃ a b c : Int, H p = some (.lst [.int a, .int b, .int c])
/-- all but the source p stands as it was; p is a source again -/
structure Stp (p : Addr) (H H' : Hp) : Prop where
  keep : ∀ q o, q ≠ p → H q = some o → H' q = some o
  src : SrcAt H' p
theorem Stp.refl {p : Addr} {H : Hp} (h : SrcAt H p) : Stp p H H := ⟨fun _ _ _ e => e, h⟩
theorem Stp.trans {p : Addr} {H H1 H2 : Hp} (a : Stp p H H1) (b : Stp p H1 H2) : Stp p H H2 := ⟨fun q o n e => b.keep q o n (a.keep q o n e), b.src⟩
theorem Stp.same {p : Addr} {H H1 H2 : Hp} (a : Stp p H H1) (b : Same H1 H2) : Stp p H H2 := by
  obtain ⟨x, y, z, e⟩ := a.src
  exact ⟨fun q o n e => b q o (a.keep q o n e), ⟨x, y, z, b _ _ e⟩⟩
theorem SrcAt.same {p : Addr} {H H' : Hp} (h : SrcAt H p) (s : Same H H') : SrcAt H' p := by
  obtain ⟨a, b, c, e⟩ := h
  exact ⟨a, b, c, s _ _ e⟩
theorem Stp.free {p q : Addr} {H H' : Hp} (a : Stp p H H') (hq : H' q = none) : H q = none := by
  cases e : H q with
  | none => rfl
  | some o =>
    by_cases z : q = p
    · obtain ⟨x, y, u, w⟩ := a.src
      rw [z, w] at hq
      cases hq
    · rw [a.keep q o z e] at hq
      cases hq
theorem SrcAt.ne {H : Hp} {p l : Addr} (h : SrcAt H p) (hl : H l = none) : l ≠ p := fun e => by
  obtain ⟨x, y, z, w⟩ := h
  rw [e, w] at hl
  cases hl
theorem SrcAt.stp_same {p : Addr} {H H' : Hp} (h : SrcAt H p) (s : Same H H') : Stp p H H' := (Stp.refl h).same s
theorem Stp.seqL {K : PySem.W.Frag} {p a : Addr} {xs : List V} {H H' : Hp} (s : Stp p H H') (n : a ≠ p) (h : SqL K H a xs) : SqL K H' a xs := by
  rcases h with (h | ⟨o, h⟩) | h
  · exact .inl (.inl (s.keep _ _ n h))
  · exact .inl (.inr ⟨o, s.keep _ _ n h⟩)
  · exact .inr h
section
variable {P : Program} {w : World} {K : PySem.W.Frag} {mg : Str → Option Value} {base : Heap}
def spCellAt (K : PySem.W.Frag) : Sp := fun vs H Q _ => ∃ (a : Addr) (ns : List Int) (k : Nat), vs = [.ref a, .int (k : Nat)] ∧ SqL K H a (ns.map V.int) ∧ ∀ v : Int, Q (.int v) H
theorem ok_cell_at {f : Addr} {fd : FuncData} (F : Fun K "_law_cell_at" "_law_cell_at" s__law_cell_at f fd) (T : Tx K mg) : FnOk P w K mg base CX0 1 f fd ["_law_script", "_law_k"] (spCellAt K) := by
  refine F.ok sc__law_cell_at (fun vs H Q E h => ?_) (fun cdv A outer s H vs Q E hr h => ?_)
  · obtain ⟨a, ns, k, rfl, _⟩ := h
    rfl
  · obtain ⟨a, ns, k, rfl, hS, q⟩ := h
    refine ⟨_, (pss_cons (ps_if (pt_cmpR op_lt (pv 1) (pe_callB (lenK (K := K) rfl) (by rfl) T.b_len PySem.boot_len (pa_cons (pv 0) pa_nil)) (nomark _))
        (pss_one (ps_ret (pe_ix (ix_listK (K := K) rfl) (pv 0) (pv 1) (fun _ _ => rfl))))
        pss_nil)
      (pss_one (ps_ret pe_int))), ?_⟩
    refine ⟨_, rfl, .ref a, rfl, a, ns.map V.int, rfl, .inl hS, _, _, rfl, rfl, _, rfl, ite2 (fun e => ?_) (fun e => ?_)⟩
    · have hk : k < ns.length := by
        have z := of_decide_eq_true e
        rw [List.length_map] at z
        omega
      have g : (ns.map V.int)[k]? = some (.int ns[k]) := by
        rw [List.getElem?_map, List.getElem?_eq_getElem hk]
        rfl
      exact ⟨.ref a, rfl, _, rfl, a, _, _, _, rfl, rfl, hS, atI_nat g, q _⟩
    · exact q 0
def spMixed : Sp := fun vs H Q _ => ∃ c k : Int, vs = [.int c, .int k] ∧ ∀ r : Int, 0 ≤ r → r < 2147483563 → Q (.int r) H
theorem ok_mixed {f : Addr} {fd : FuncData} (F : Fun K "_law_mixed" "_law_mixed" s__law_mixed f fd) : FnOk P w K mg base CX0 1 f fd ["_law_cell", "_law_k"] spMixed := by
  refine F.ok sc__law_mixed (fun vs H Q E h => ?_) (fun cdv A outer s H vs Q E hr h => ?_)
  · obtain ⟨c, k, rfl, _⟩ := h
    rfl
  · obtain ⟨c, k, rfl, q⟩ := h
    refine ⟨_, (pss_cons (ps_set (i := 2) sc__law_mixed.nd rfl (.inl rfl) (pe_op op_add (pe_op op_mod (pv 0) pe_int) (pe_op op_mulA (pe_op op_fdivW (pv 0) pe_int) pe_int)))
      (pss_cons (ps_set (i := 2) sc__law_mixed.nd rfl (.inl rfl) (pe_op op_mod (pe_op op_mulA (pe_op op_add (pe_op op_add (pv 2) (pe_op op_mulA pe_int (pv 1))) pe_int) pe_int) pe_int))
      (pss_cons (ps_set (i := 2) sc__law_mixed.nd rfl (.inl rfl) (pe_op op_mod (pe_op op_mulA (pv 2) (pe_op op_add (pe_op op_add (pe_op op_fdivW (pv 2) pe_int) pe_int) (pv 1))) pe_int))
      (pss_one (ps_ret (pe_op op_mod (pe_op op_mulA (pv 2) (pe_op op_add (pe_op op_fdivW (pv 2) pe_int) pe_int)) pe_int)))))), ?_⟩
    refine ⟨_, rfl, c, 2147483629, rfl, rfl, (by decide : (0 : Int) < 2147483629), _, rfl, c, 2147483629, rfl, rfl, div_s (by decide) (by decide), _, 30011, rfl, rfl, mul_r (by decide) (by decide), _, _, rfl, rfl, ?_⟩
    refine ⟨_, rfl, _, rfl, 69621, k, rfl, rfl, mul_l (by decide) (by decide), _, _, rfl, rfl, _, 1, rfl, rfl, _, 48271, rfl, rfl, mul_r (by decide) (by decide), _, 2147483629, rfl, rfl, (by decide : (0 : Int) < 2147483629), ?_⟩
    generalize hl : (c % 2147483629 + c / 2147483629 * 30011 + 69621 * k + 1) * 48271 = l0
    have b1 : 0 ≤ l0 % 2147483629 := Int.emod_nonneg _ (by decide)
    have b2 : l0 % 2147483629 < 2147483629 := Int.emod_lt_of_pos _ (by decide)
    refine ⟨_, rfl, _, rfl, l0 % 2147483629, 907, rfl, rfl, div_s (by decide) (by decide), _, 16831, rfl, rfl, _, rfl, _, k, rfl, rfl, l0 % 2147483629, _, rfl, rfl, mul_l (by omega) (by omega), _, 2147483587, rfl, rfl, (by decide : (0 : Int) < 2147483587), ?_⟩
    generalize (l0 % 2147483629) * (l0 % 2147483629 / 907 + 16831 + k) = l1
    have b3 : 0 ≤ l1 % 2147483587 := Int.emod_nonneg _ (by decide)
    have b4 : l1 % 2147483587 < 2147483587 := Int.emod_lt_of_pos _ (by decide)
    refine ⟨_, rfl, _, rfl, _, 1201, rfl, rfl, div_s (by decide) (by decide), _, 30011, rfl, rfl, _, _, rfl, rfl, mul_l (i := l1 % 2147483587) (by omega) (by omega), _, 2147483563, rfl, rfl, (by decide : (0 : Int) < 2147483563), ?_⟩
    exact q _ (Int.emod_nonneg _ (by decide)) (Int.emod_lt_of_pos _ (by decide))
def spSource (K : PySem.W.Frag) : Sp := fun vs H Q _ => ∃ (a : Addr) (ns : List Int) (k : Nat), vs = [.ref a, .int (k : Nat)] ∧ SqL K H a (ns.map V.int) ∧ ∀ H' p, Same H H' → H p = none → SrcAt H' p → Q (.ref p) H'
theorem ok_source {f : Addr} {fd : FuncData} (F : Fun K "_law_source" "_law_source" s__law_source f fd) (T : Tx K mg) (h1 : Has P w K mg base 1 "_law_cell_at" ["_law_script", "_law_k"] [] (spCellAt K))
    (h2 : Has P w K mg base 1 "_law_mixed" ["_law_cell", "_law_k"] [] spMixed) : FnOk P w K mg base CX0 2 f fd ["_law_script", "_law_k"] (spSource K) := by
  obtain ⟨f__law_cell_at, fd__law_cell_at, ds__law_cell_at, G__law_cell_at, m__law_cell_at, k__law_cell_at, b__law_cell_at, v__law_cell_at⟩ := h1
  obtain ⟨f__law_mixed, fd__law_mixed, ds__law_mixed, G__law_mixed, m__law_mixed, k__law_mixed, b__law_mixed, v__law_mixed⟩ := h2
  refine F.ok sc__law_source (fun vs H Q E h => ?_) (fun cdv A outer s H vs Q E hr h => ?_)
  · obtain ⟨a, ns, k, rfl, _⟩ := h
    rfl
  · obtain ⟨a, ns, k, rfl, hS, q⟩ := h
    refine ⟨_, (pss_cons (ps_if (pt_cmpR op_lt (pv 1) (pe_callB (lenK (K := K) rfl) (by rfl) T.b_len PySem.boot_len (pa_cons (pv 0) pa_nil)) (nomark _))
        (pss_one (ps_ret (pe_lst (pa_cons (pe_ix (ix_listK (K := K) rfl) (pv 0) (pv 1) (fun _ _ => rfl)) (pa_cons (pe_ix (ix_listK (K := K) rfl) (pv 0) (pv 1) (fun _ _ => rfl)) (pa_cons pe_int pa_nil))))))
        pss_nil)
      (pss_cons (ps_set (i := 2) sc__law_source.nd rfl (.inl rfl) (pe_call G__law_mixed hr (by rfl) m__law_mixed k__law_mixed b__law_mixed v__law_mixed pass0 (pa_cons (pe_call G__law_cell_at hr (by rfl) m__law_cell_at k__law_cell_at b__law_cell_at v__law_cell_at pass0 (pa_cons (pv 0) (pa_cons pe_int pa_nil))) (pa_cons (pe_op op_add pe_int (pv 1)) pa_nil))))
      (pss_one (ps_ret (pe_lst (pa_cons (pv 2) (pa_cons (pv 2) (pa_cons pe_int pa_nil)))))))), ?_⟩
    refine ⟨_, rfl, .ref a, rfl, a, ns.map V.int, rfl, .inl hS, _, _, rfl, rfl, _, rfl, ite2 (fun e => ?_) (fun e => ?_)⟩
    · have hk : k < ns.length := by
        have z := of_decide_eq_true e
        rw [List.length_map] at z
        omega
      have g : (ns.map V.int)[k]? = some (.int ns[k]) := by
        rw [List.getElem?_map, List.getElem?_eq_getElem hk]
        rfl
      refine ⟨.ref a, rfl, _, rfl, a, _, _, _, rfl, rfl, hS, atI_nat g, .ref a, rfl, _, rfl, a, _, _, _, rfl, rfl, hS, atI_nat g, by simp [sizeLine_eq], fun p hp => ?_⟩
      exact q _ p (same_upd hp) hp ⟨_, _, _, upd_same⟩
    · refine ⟨.ref a, rfl, a, ns, 0, rfl, hS, fun v => ⟨_, rfl, 1000, _, rfl, rfl, v, _, rfl, fun r _ _ => ?_⟩⟩
      refine ⟨_, rfl, _, rfl, by simp [sizeLine_eq], fun p hp => ?_⟩
      exact q _ p (same_upd hp) hp ⟨_, _, _, upd_same⟩
def spNext : Sp := fun vs H Q _ => ∃ (p : Addr) (m : Int), vs = [.ref p, .int m] ∧ 0 < m ∧ m < 2 ^ 300 ∧ SrcAt H p ∧ ∀ (r : Nat) H', (r : Int) < m → Stp p H H' → Q (.int (r : Nat)) H'
theorem ok_next {f : Addr} {fd : FuncData} (F : Fun K "_law_next" "_law_next" s__law_next f fd) (h2 : Has P w K mg base 1 "_law_mixed" ["_law_cell", "_law_k"] [] spMixed) : FnOk P w K mg base CX0 2 f fd ["_law_source_here", "_law_many"] spNext := by
  obtain ⟨f__law_mixed, fd__law_mixed, ds__law_mixed, G__law_mixed, m__law_mixed, k__law_mixed, b__law_mixed, v__law_mixed⟩ := h2
  refine F.ok sc__law_next (fun vs H Q E h => ?_) (fun cdv A outer s H vs Q E hr h => ?_)
  · obtain ⟨p, m, rfl, _⟩ := h
    rfl
  · obtain ⟨p, m, rfl, hm, hm2, ⟨a, b, c, hp⟩, q⟩ := h
    have fin : ∀ (x : Int) (H' : Hp), Stp p H H' → Q (.int (x % m)) H' := fun x H' s => by
      have h0 : 0 ≤ x % m := Int.emod_nonneg _ (by omega)
      have h1 : x % m < m := Int.emod_lt_of_pos _ hm
      have e : ((x % m).toNat : Int) = x % m := Int.toNat_of_nonneg h0
      have z := q (x % m).toNat H' (by omega) s
      rw [e] at z
      exact z
    have st : ∀ x y z : Int, Stp p H (upd H p (.lst [.int x, .int y, .int z])) := fun x y z => ⟨fun q o n e => by rw [upd_ne n]; exact e, ⟨x, y, z, upd_same⟩⟩
    refine ⟨_, (pss_cons (ps_if (pt_cmpR op_ge (pe_ix (ix_listK (K := K) rfl) (pv 0) pe_int (fun _ _ => rfl)) (pe_op op_pow pe_int pe_int) (nomark _))
        (pss_cons (ps_set (i := 2) sc__law_next.nd rfl (.inl rfl) (pe_op op_mod (pe_ix (ix_listK (K := K) rfl) (pv 0) pe_int (fun _ _ => rfl)) (pv 1)))
        (pss_cons (ps_asg (pe_op op_fdivW (pe_ix (ix_listK (K := K) rfl) (pv 0) pe_int (fun _ _ => rfl)) (pv 1)) (pg_sub (pv 0) pe_int set_list))
        (pss_one (ps_ret (pv 2)))))
        pss_nil)
      (pss_cons (ps_asg (pe_op op_add (pe_ix (ix_listK (K := K) rfl) (pv 0) pe_int (fun _ _ => rfl)) pe_int) (pg_sub (pv 0) pe_int set_list))
      (pss_one (ps_ret (pe_op op_mod (pe_call G__law_mixed hr (by rfl) m__law_mixed k__law_mixed b__law_mixed v__law_mixed pass0 (pa_cons (pe_ix (ix_listK (K := K) rfl) (pv 0) pe_int (fun _ _ => rfl)) (pa_cons (pe_ix (ix_listK (K := K) rfl) (pv 0) pe_int (fun _ _ => rfl)) pa_nil))) (pv 1)))))), ?_⟩
    refine ⟨.ref p, rfl, p, _, 0, .int a, rfl, rfl, SqL.of hp, atI_nat (j := 0) rfl, 10, 18, rfl, rfl, ⟨by decide, by decide, by decide⟩, a, _, rfl, rfl, _, rfl, ite2 (fun _ => ?_) (fun _ => ?_)⟩
    · refine ⟨.ref p, rfl, p, _, 0, .int a, rfl, rfl, SqL.of hp, atI_nat (j := 0) rfl, .int m, rfl, a, m, rfl, rfl, hm, ?_⟩
      refine ⟨.ref p, rfl, p, _, 0, .int a, rfl, rfl, SqL.of hp, atI_nat (j := 0) rfl, .int m, rfl, a, m, rfl, rfl, div_s hm hm2, ?_⟩
      refine ⟨.ref p, rfl, p, _, 0, 0, rfl, rfl, hp, rfl, ?_⟩
      exact ⟨_, rfl, fin a _ (st _ _ _)⟩
    · refine ⟨.ref p, rfl, p, _, 2, .int c, rfl, rfl, SqL.of hp, atI_nat (j := 2) rfl, c, 1, rfl, rfl, ?_⟩
      refine ⟨.ref p, rfl, p, _, 2, 2, rfl, rfl, hp, rfl, ?_⟩
      have h2 : (upd H p (.lst [.int a, .int b, .int (c + 1)])) p = some (.lst [.int a, .int b, .int (c + 1)]) := upd_same
      refine ⟨.ref p, rfl, p, _, 1, .int b, rfl, rfl, SqL.of h2, atI_nat (j := 1) rfl, .ref p, rfl, p, _, 2, .int (c + 1), rfl, rfl, SqL.of h2, atI_nat (j := 2) rfl, b, c + 1, rfl, fun r _ _ => ?_⟩
      exact ⟨.int m, rfl, r, m, rfl, rfl, hm, fin r _ (st _ _ _)⟩
end
/-! ### law k28: the search of the dues, the words drawn -/
/-- what the search of the dues up to 130 finds -/
def Upto (b1 : Nat) (w1 : List Bool) (b2 : Nat) (w2 : List Bool) : Option (Nat × Nat) → Prop
  | none => ∀ d, d ≤ 130 → ∀ n, n < d → ¬ Dif b1 w1 b2 w2 n d
  | some (e, m) => ToldP b1 w1 b2 w2 (some (e, m))
theorem pick28 {r : Nat} (h : r < 2) : ([.str "queue", .str "stack"] : List V)[r]? = some (lvV (decide (r = 1))) := by
  match r, h with
  | 0, _ => rfl
  | 1, _ => rfl
  | r + 2, h => omega
section
variable {P : Program} {w : World} {K : PySem.W.Frag} {mg : Str → Option Value} {base : Heap}
def spLawDue (K : PySem.W.Frag) : Sp := fun vs H Q _ => ∃ (p1 p2 : Addr) (b1 b2 : Nat) (q1 q2 : Addr) (w1 w2 : List Bool), vs = [.ref p1, .ref p2] ∧ H p1 = some (.tup [.int (b1 : Nat), .ref q1]) ∧ H p2 = some (.tup [.int (b2 : Nat), .ref q2]) ∧ 2 ≤ b1 ∧ b1 ≤ 64 ∧ 2 ≤ b2 ∧ b2 ≤ 64 ∧
  H q1 = some (.lst (w1.map lvV)) ∧ H q2 = some (.lst (w2.map lvV)) ∧ w1 ≠ [] ∧ w2 ≠ [] ∧ ∀ r, Upto b1 w1 b2 w2 r → ∀ H' u, Same H H' → H u = none → H' u = some (.tup (tolV r)) → Q (.ref u) H'
theorem ok_law_due {f : Addr} {fd : FuncData} (F : Fun K "_law_due" "_law_due" s__law_due f fd) (T : Tx K mg) (h1 : Has P w K mg base 1 "_law_is_front" ["_law_base", "_law_levels", "_law_now", "_law_due_here"] [] (spLawFront K)) :
    FnOk P w K mg base CX0 2 f fd ["_law_one", "_law_two"] (spLawDue K) := by
  obtain ⟨f__law_is_front, fd__law_is_front, ds__law_is_front, G__law_is_front, m__law_is_front, k__law_is_front, b__law_is_front, v__law_is_front⟩ := h1
  refine F.ok sc__law_due (fun vs H Q E h => ?_) (fun cdv A outer s H vs Q E hr h => ?_)
  · obtain ⟨p1, p2, b1, b2, q1, q2, w1, w2, rfl, _⟩ := h
    rfl
  · obtain ⟨p1, p2, b1, b2, q1, q2, w1, w2, rfl, e1, e2, hb1, hb1', hb2, hb2', hL1, hL2, n1, n2, c⟩ := h
    refine ⟨_, (pss_cons (ps_for PassesOwn.never rfl (pi_range2 (by rfl) T.b_range (pa_cons pe_int (pa_cons pe_int pa_nil))) (pg_name (i := 2) sc__law_due.nd rfl (.inl rfl))
        (pss_one (ps_for PassesOwn.never rfl (pi_range1 (by rfl) T.b_range (pa_cons (pv 2) pa_nil)) (pg_name (i := 3) sc__law_due.nd rfl (.inl rfl))
          (pss_one (ps_if (pt_cmpR op_ne (pe_call G__law_is_front hr (by rfl) m__law_is_front k__law_is_front b__law_is_front v__law_is_front pass0 (pa_cons (pe_ix (ix_tupK (K := K) rfl) (pv 0) pe_int (fun _ _ => rfl)) (pa_cons (pe_ix (ix_tupK (K := K) rfl) (pv 0) pe_int (fun _ _ => rfl)) (pa_cons (pv 3) (pa_cons (pv 2) pa_nil))))) (pe_call G__law_is_front hr (by rfl) m__law_is_front k__law_is_front b__law_is_front v__law_is_front pass0 (pa_cons (pe_ix (ix_tupK (K := K) rfl) (pv 1) pe_int (fun _ _ => rfl)) (pa_cons (pe_ix (ix_tupK (K := K) rfl) (pv 1) pe_int (fun _ _ => rfl)) (pa_cons (pv 3) (pa_cons (pv 2) pa_nil))))) (nomark _))
            (pss_one (ps_ret (pe_tup (pa_cons pe_str (pa_cons (pv 2) (pa_cons (pv 3) pa_nil))))))
            pss_nil)))))
      (pss_one (ps_ret (pe_tup (pa_cons pe_str pa_nil))))), ?_⟩
    refine ⟨1, 131, rfl, by decide, for_range (lo := 1) (n := ((131 : Int) - 1).toNat) (Pv := fun i σ H' => Same H H' ∧ (∃ y2 y3, σ = [some (.ref p1), some (.ref p2), y2, y3]) ∧ ∀ d, d ≤ i → ∀ n, n < d → ¬ Dif b1 w1 b2 w2 n d)
      ⟨fun _ _ e => e, ⟨none, none, rfl⟩, fun d hd n hn => by omega⟩ ?_ ?_⟩
    · rintro i σ H1 hi ⟨s1, ⟨y2, y3, rfl⟩, hno⟩
      have hi : i < 130 := hi
      have ei : (1 : Int) + (i : Nat) = ((i + 1 : Nat) : Int) := by omega
      rw [ei]
      refine ⟨_, rfl, ((i + 1 : Nat) : Int), rfl, by omega, by omega, for_range (lo := 0) (n := ((i + 1 : Nat) : Int).toNat) (Pv := fun j σ H' => Same H H' ∧ (∃ y3, σ = [some (.ref p1), some (.ref p2), some (.int ((i + 1 : Nat) : Int)), y3]) ∧ ∀ n, n < j → ¬ Dif b1 w1 b2 w2 n (i + 1))
        ⟨s1, ⟨y3, rfl⟩, fun n hn => by omega⟩ ?_ ?_⟩
      · rintro j σ H2 hj ⟨s2, ⟨y3, rfl⟩, hnj⟩
        have hj : j < i + 1 := by rwa [Int.toNat_natCast] at hj
        have ej : (0 : Int) + (j : Nat) = ((j : Nat) : Int) := by omega
        rw [ej]
        obtain ⟨k1, hk1⟩ := lev_any (n := j) (d := i + 1) hb1 hj
        obtain ⟨k2, hk2⟩ := lev_any (n := j) (d := i + 1) hb2 hj
        have f1 := s2 _ _ e1
        have f2 := s2 _ _ e2
        refine ⟨_, rfl, p1, _, 0, _, rfl, rfl, .inl (.inl f1), atI_nat (j := 0) rfl, _, rfl, p1, _, 1, _, rfl, rfl, .inl (.inl f1), atI_nat (j := 1) rfl, _, rfl, _, rfl, b1, j, i + 1, q1, w1, rfl, hb1, hb1', hj, Nat.lt_trans (show i + 1 < 2 ^ 8 by omega) (by decide), SqL.of (s2 _ _ hL1), n1, fun k hk => ?_⟩
        rw [← frB_eq hk]
        refine ⟨_, rfl, p2, _, 0, _, rfl, rfl, .inl (.inl f2), atI_nat (j := 0) rfl, _, rfl, p2, _, 1, _, rfl, rfl, .inl (.inl f2), atI_nat (j := 1) rfl, _, rfl, _, rfl, b2, j, i + 1, q2, w2, rfl, hb2, hb2', hj, Nat.lt_trans (show i + 1 < 2 ^ 8 by omega) (by decide), SqL.of (s2 _ _ hL2), n2, fun k' hk' => ?_⟩
        rw [← frB_eq hk']
        by_cases e : frB w1 b1 j (i + 1) = frB w2 b2 j (i + 1)
        · refine ⟨rfl, false, nF (congrArg V.bl e), iteF ⟨s2, ⟨_, rfl⟩, fun n hn => ?_⟩⟩
          by_cases z : n = j
          · rw [z]
            exact fun y => y e
          · exact hnj n (by omega)
        · refine ⟨rfl, true, nT (fun z => e (V.bl.inj z)), iteT ⟨_, rfl, _, rfl, by simp [sizeLine_eq], fun u hu => ?_⟩⟩
          refine c (some (i + 1, j)) ⟨hj, e, fun n d hnd hz => ?_⟩ _ u (s2.trans (same_upd hu)) (s2.free hu) upd_same
          rcases Nat.lt_or_ge (i + 1) d with l | l
          · exact .inl l
          · by_cases ed : d = i + 1
            · subst ed
              refine .inr ⟨rfl, ?_⟩
              rcases Nat.lt_or_ge n j with l2 | l2
              · exact absurd hz (hnj n l2)
              · exact l2
            · exact absurd hz (hno d (by omega) n hnd)
      · rintro σ H2 ⟨s2, ⟨y3, rfl⟩, hnj⟩
        rw [Int.toNat_natCast] at hnj
        refine ⟨s2, ⟨_, _, rfl⟩, fun d hd n hn => ?_⟩
        by_cases ed : d = i + 1
        · rw [ed] at hn ⊢
          exact hnj n hn
        · exact hno d (by omega) n hn
    · rintro σ H1 ⟨s1, ⟨y2, y3, rfl⟩, hno⟩
      exact ⟨by simp [sizeLine_eq], fun u hu => c none (fun d hd => hno d hd) _ u (s1.trans (same_upd hu)) (s1.free hu) upd_same⟩
def spWordsOf : Sp := fun vs H Q _ => ∃ (p : Addr), vs = [.ref p] ∧ SrcAt H p ∧ ∀ H' q (ws : List Bool), Stp p H H' → H q = none → H' q = some (.lst (ws.map lvV)) → ws ≠ [] → ws.length ≤ 3 → Q (.ref q) H'
theorem ok_words_of {f : Addr} {fd : FuncData} (F : Fun K "_law_words_of" "_law_words_of" s__law_words_of f fd) (T : Tx K mg) (h1 : Has P w K mg base 2 "_law_next" ["_law_source_here", "_law_many"] [] spNext) : FnOk P w K mg base CX0 3 f fd ["_law_source_here"] spWordsOf := by
  obtain ⟨f__law_next, fd__law_next, ds__law_next, G__law_next, m__law_next, k__law_next, b__law_next, v__law_next⟩ := h1
  refine F.ok sc__law_words_of (fun vs H Q E h => ?_) (fun cdv A outer s H vs Q E hr h => ?_)
  · obtain ⟨p, rfl, _⟩ := h
    rfl
  · obtain ⟨p, rfl, hs, c⟩ := h
    refine ⟨_, (pss_one (ps_ret (pe_lc (own := [("_law_at", 1)]) (g := gName 1) (tt := tYes) rfl sc__law_words_of.nd (pi_range1 (by rfl) T.b_range (pa_cons (pe_op op_add pe_int (pe_call G__law_next hr (by rfl) m__law_next k__law_next b__law_next v__law_next pass0 (pa_cons (pv 0) (pa_cons pe_int pa_nil)))) pa_nil)) (blkOk_by (own := [("_law_at", 1)]) (N := N__law_words_of) (sc := defScope s__law_words_of) (by decide +kernel)) (fun _ _ _ _ _ => (pg_name (i := 1) sc__law_words_of.nd rfl (.inl rfl))) (fun _ _ _ _ _ => pts_nil) (fun _ _ _ _ _ => (pe_ix (ix_listK (K := K) rfl) (pe_lst (pa_cons pe_str (pa_cons pe_str pa_nil))) (pe_call G__law_next hr (by rfl) m__law_next k__law_next b__law_next v__law_next pass0 (pa_cons (pv 0) (pa_cons pe_int pa_nil))) (fun _ _ => rfl)))))), ?_⟩
    refine ⟨_, rfl, p, 3, rfl, by decide, by decide, hs, fun r H1 hr1 s1 => ⟨1, r, rfl, rfl, 1 + (r : Int), rfl, by omega, by omega, fun D hD => lc_range (lo := 0) (n := (1 + (r : Int)).toNat) (fun i H' => Stp p H1 H' ∧ ∃ ws : List Bool, ws.length = i ∧ H' D = some (.lst (ws.map lvV)))
      ⟨s1.src.stp_same (same_upd hD), [], rfl, upd_same⟩ ?_ ?_⟩⟩
    · rintro i H' hi ⟨st, ws, hw, eD⟩
      have hi : i < 3 := by omega
      have nDp : D ≠ p := s1.src.ne hD
      refine ⟨rfl, yesT (iteT ?_)⟩
      refine ⟨by simp [sizeLine_eq], fun l8 hl8 => ?_⟩
      have s8 : Stp p H' (upd H' l8 (.lst [.str "queue", .str "stack"])) := st.src.stp_same (same_upd hl8)
      refine ⟨_, rfl, p, 2, rfl, by decide, by decide, s8.src, fun r9 H9 hr9 s9 => ?_⟩
      have eL8 := s9.keep _ _ (st.src.ne hl8) upd_same
      have eD9 := s9.keep _ _ nDp (s8.keep _ _ nDp eD)
      refine ⟨l8, _, r9, _, rfl, rfl, SqL.of eL8, atI_nat (pick28 (by omega)), _, eD9, ?_, ⟨fun b o n e => ?_, ?_⟩, ws ++ [decide (r9 = 1)], ?_, ?_⟩
      · rw [List.length_map, hw]
        exact sizeLine_ge (by omega)
      · rw [upd_ne (ne_of_none e hD)]
        exact s9.keep _ _ n (s8.keep _ _ n (st.keep _ _ n e))
      · obtain ⟨x, y, z, h⟩ := s9.src
        exact ⟨x, y, z, by rw [upd_ne nDp.symm]; exact h⟩
      · rw [List.length_append, hw]
        rfl
      · rw [upd_same, List.map_append]
        rfl
    · rintro H6 ⟨s6, ws, hw, eD⟩
      have hw' : ws.length = 1 + r := by rw [hw]; omega
      refine c H6 D ws (s1.trans s6) (s1.free hD) eD (fun e => ?_) (by omega)
      rw [e] at hw'
      exact absurd hw' (by show ¬ 0 = 1 + r; omega)
end
/-! ### data equal to itself -/
theorem neq_refl {d : PyData} (h : d.canLay0 = true) : V.bl (!PyData.eqv d d) = V.bl false := by
  rw [SeqAt.eqv_refl d h]
  rfl
theorem eq_refl {d : PyData} (h : d.canLay0 = true) : V.bl (PyData.eqv d d) = V.bl true := by
  rw [SeqAt.eqv_refl d h]
/-! ### levels as data -/
def lvD (b : Bool) : PyData := if b then .str "stack" else .str "queue"
theorem lvs_dp {K : PySem.W.Frag} {H : Hp} : ∀ ws : List Bool, DpAll K H (ws.map lvV) (ws.map lvD)
  | [] => .nil
  | true :: r => .cons (.str _) (lvs_dp r)
  | false :: r => .cons (.str _) (lvs_dp r)
theorem lvs_lay : ∀ ws : List Bool, PyData.canLayAll0 (ws.map lvD) = true
  | [] => rfl
  | b :: r => by
    show ((lvD b).canLay0 && PyData.canLayAll0 (r.map lvD)) = true
    rw [lvs_lay r]
    cases b <;> decide +kernel
theorem lvs_depth : ∀ ws : List Bool, PyData.depthAll (ws.map lvD) = 0
  | [] => rfl
  | b :: r => by
    show max (lvD b).depth (PyData.depthAll (r.map lvD)) = 0
    rw [lvs_depth r]
    cases b <;> rfl
theorem lvs_shaped (ws : List Bool) : SeqAt.shaped (.list (ws.map lvD)) = true := by
  have h1 : (PyData.list (ws.map lvD)).canLay0 = true := by
    show PyData.canLayAll0 _ = true
    exact lvs_lay ws
  have h2 : (PyData.list (ws.map lvD)).depth ≤ 64 := by
    show PyData.depthAll _ + 1 ≤ 64
    rw [lvs_depth ws]
    decide
  unfold SeqAt.shaped
  rw [h1, decide_eq_true h2]
  rfl
/-! ### law k28: what repr shows of two wheels -/
def whD (b : Nat) (ws : List Bool) : PyData := .tuple [.int (b : Nat), .list (ws.map lvD)]
def twD (b1 : Nat) (w1 : List Bool) (b2 : Nat) (w2 : List Bool) : PyData := .tuple [whD b1 w1, whD b2 w2]
def okD (d : PyData) : Bool := d.canLay0 && d.intsShort 13 && d.showable && !d.hasDict && decide (d.depth ≤ 4) && decide (d.weight ≤ 1000)
theorem wh_ok {b : Nat} (hb : b < 6) : ∀ ws : List Bool, ws.length ≤ 4 → okD (whD b ws) = true
  | [], _ => (show ∀ b : Fin 6, okD (whD b []) = true by decide +kernel) ⟨b, hb⟩
  | [x], _ => (show ∀ (b : Fin 6) (x : Bool), okD (whD b [x]) = true by decide +kernel) ⟨b, hb⟩ x
  | [x, y], _ => (show ∀ (b : Fin 6) (x y : Bool), okD (whD b [x, y]) = true by decide +kernel) ⟨b, hb⟩ x y
  | [x, y, z], _ => (show ∀ (b : Fin 6) (x y z : Bool), okD (whD b [x, y, z]) = true by decide +kernel) ⟨b, hb⟩ x y z
  | [x, y, z, u], _ => (show ∀ (b : Fin 6) (x y z u : Bool), okD (whD b [x, y, z, u]) = true by decide +kernel) ⟨b, hb⟩ x y z u
  | _ :: _ :: _ :: _ :: _ :: _, h => by simp at h
theorem tw_ok {b1 b2 : Nat} {w1 w2 : List Bool} (h1 : b1 < 6) (h2 : b2 < 6) (k1 : w1.length ≤ 4) (k2 : w2.length ≤ 4) : (twD b1 w1 b2 w2).depth ≤ 50 ∧ (twD b1 w1 b2 w2).showable = true ∧ (twD b1 w1 b2 w2).hasDict = false ∧ (twD b1 w1 b2 w2).shown.length ≤ sizeLine := by
  have a := wh_ok h1 w1 k1
  have c := wh_ok h2 w2 k2
  unfold twD
  generalize whD b1 w1 = x at a ⊢
  generalize whD b2 w2 = y at c ⊢
  unfold okD at a c
  simp only [Bool.and_eq_true, decide_eq_true_eq, Bool.not_eq_true'] at a c
  obtain ⟨⟨⟨⟨⟨a1, a2⟩, a3⟩, a4⟩, a5⟩, a6⟩ := a
  obtain ⟨⟨⟨⟨⟨c1, c2⟩, c3⟩, c4⟩, c5⟩, c6⟩ := c
  have dep : (PyData.tuple [x, y]).depth ≤ 6 := by
    show max x.depth (max y.depth 0) + 1 ≤ 6
    omega
  refine ⟨by omega, ?_, ?_, ?_⟩
  · simp [PyData.showable, PyData.showableAll, a3, c3]
  · simp [PyData.hasDict, PyData.hasDictAll, a4, c4]
  · have hs : (PyData.tuple [x, y]).intsShort 13 = true := by simp [PyData.intsShort, PyData.intsShortAll, a2, c2]
    have hl : (PyData.tuple [x, y]).canLay0 = true := by simp [PyData.canLay0, PyData.canLayAll0, a1, c1]
    have hw : (PyData.tuple [x, y]).weight ≤ 2 ^ 20 := by
      simp [PyData.weight, PyData.weightAll]
      omega
    have z := shown_le13 (d := .tuple [x, y]) (by unfold PyData.layable0; rw [hl, decide_eq_true (show (PyData.tuple [x, y]).depth ≤ 64 by omega), decide_eq_true hw]; rfl) hs
    rw [sizeLine_eq]
    omega
theorem wh_dp {K : PySem.W.Frag} {H : Hp} {p q : Addr} {b : Nat} {ws : List Bool} (h1 : H p = some (.tup [.int (b : Nat), .ref q])) (h2 : H q = some (.lst (ws.map lvV))) : Dp K H (.ref p) (whD b ws) := .tup (SqT.of h1) (.cons (.int _) (.cons (.lst (SqL.of h2) (lvs_dp ws)) .nil))
/-! the answers, as data -/
def tolD : Option (Nat × Nat) → PyData
  | none => .tuple [.str "alike"]
  | some (e, m) => .tuple [.str "apart", .int (e : Nat), .int (m : Nat)]
theorem tol_dp {K : PySem.W.Frag} {H : Hp} {p : Addr} : ∀ {r : Option (Nat × Nat)}, H p = some (.tup (tolV r)) → Dp K H (.ref p) (tolD r)
  | none, h => .tup (SqT.of h) (.cons (.str _) .nil)
  | some (_, _), h => .tup (SqT.of h) (.cons (.str _) (.cons (.int _) (.cons (.int _) .nil)))
theorem tol_lay : ∀ r, (tolD r).canLay0 = true
  | none => by decide +kernel
  | some (e, m) => by
    simp [tolD, PyData.canLay0, PyData.canLayAll0]
    decide +kernel
theorem tol_shaped (r : Option (Nat × Nat)) : SeqAt.shaped (tolD r) = true := by
  have h2 : (tolD r).depth ≤ 64 := by
    match r with
    | none => decide
    | some (e, m) =>
      show max 0 (max 0 (max 0 0)) + 1 ≤ 64
      decide
  unfold SeqAt.shaped
  rw [tol_lay, decide_eq_true h2]
  rfl
/-! ### the law's loop over its numbers -/
theorem seq_new {K : PySem.W.Frag} {a p : Addr} {xs : List V} {H H1 H2 : Hp} (h : SqL K H a xs) (hp : H p = none) (s1 : Same H H1) (s2 : Stp p H1 H2) : SqL K H2 a xs := by
  rcases h with (h | ⟨o, h⟩) | h
  · exact .inl (.inl (s2.keep _ _ (ne_of_none h hp) (s1 _ _ h)))
  · exact .inl (.inr ⟨o, s2.keep _ _ (ne_of_none h hp) (s1 _ _ h)⟩)
  · exact .inr h
/-! ### law k28: the law itself -/
theorem nsame_new {p : Addr} {H H1 H2 : Hp} (hp : H p = none) (s1 : Same H H1) (s2 : Stp p H1 H2) : Same H H2 := fun b o e => s2.keep b o (ne_of_none e hp) (s1 b o e)
/-- a wheel's base and levels, as the law holds them -/
def WhAt (H : Hp) (p : Addr) (q : Addr) (b : Nat) (ws : List Bool) : Prop := H p = some (.tup [.int (b : Nat), .ref q]) ∧ H q = some (.lst (ws.map lvV))
theorem WhAt.same {H H' : Hp} {p q : Addr} {b : Nat} {ws : List Bool} (h : WhAt H p q b ws) (s : Same H H') : WhAt H' p q b ws := ⟨s _ _ h.1, s _ _ h.2⟩
def Few (b : Nat) (ws : List Bool) : Prop := 2 ≤ b ∧ b ≤ 5 ∧ ws ≠ [] ∧ ws.length ≤ 4
theorem low_any {ws : List Bool} (hne : ws ≠ []) : ∃ o, LowO ws o := by
  have key : ∀ n, n ≤ ws.length → (∀ j, j < n → wordAt ws j = false) ∨ ∃ i, i < n ∧ LowS ws i := by
    intro n
    induction n with
    | zero => exact fun _ => .inl fun j hj => absurd hj (Nat.not_lt_zero j)
    | succ n ih =>
      intro h
      rcases ih (by omega) with z | ⟨i, hi, z⟩
      · cases e : wordAt ws n with
        | true => exact .inr ⟨n, Nat.lt_succ_self n, e, z⟩
        | false =>
          refine .inl fun j hj => ?_
          by_cases c : j = n
          · rw [c]; exact e
          · exact z j (by omega)
      · exact .inr ⟨i, by omega, z⟩
  rcases key ws.length (Nat.le_refl _) with z | ⟨i, hi, z⟩
  · refine ⟨none, fun j => ?_⟩
    have hp := List.length_pos_iff.mpr hne
    by_cases h : j < ws.length
    · exact z j h
    · rw [wordAt_past (by omega) hne]
      exact z _ (by omega)
  · exact ⟨some i, hi, z⟩
theorem tells_any {b1 b2 : Nat} {w1 w2 : List Bool} (h1 : 2 ≤ b1) (h2 : 2 ≤ b2) (n1 : w1 ≠ []) (n2 : w2 ≠ []) : ∃ L, Tells b1 w1 b2 w2 L := by
  by_cases e : b1 = b2
  · subst e
    exact ⟨_, tells_same h1 n1 n2⟩
  · obtain ⟨o1, l1⟩ := low_any n1
    obtain ⟨o2, l2⟩ := low_any n2
    cases hm : minO b1 b2 o1 o2 with
    | some s => exact ⟨_, tells_ne h1 h2 l1 l2 e hm⟩
    | none =>
      have e1 : o1 = none := by cases o1 <;> cases o2 <;> first | rfl | cases hm
      have e2 : o2 = none := by cases o1 <;> cases o2 <;> first | rfl | cases hm
      subst e1 e2
      exact ⟨_, tells_none h1 h2 l1 l2⟩
theorem Upto.told {b1 b2 : Nat} {w1 w2 : List Bool} {r : Option (Nat × Nat)} (f1 : Few b1 w1) (f2 : Few b2 w2) (h : Upto b1 w1 b2 w2 r) : ToldP b1 w1 b2 w2 r := by
  match r, h with
  | some (e, m), h => exact h
  | none, h =>
    obtain ⟨L, hT⟩ := tells_any f1.1 f2.1 f1.2.2.1 f2.2.2.1
    exact told_130 f1.1 f1.2.1 f2.1 f2.2.1 f1.2.2.2 f2.2.2.2 hT h
theorem cut_last (ws : List Bool) : cutV (ws.map lvV) (some (-1)) none = (ws.drop (ws.length - 1)).map lvV := by
  unfold cutV
  have e : HT.sIx (ws.map lvV).length 0 (some (-1)) = ws.length - 1 := by
    rw [List.length_map]
    show (if (-1 : Int) < 0 then ((-1 : Int) + (ws.length : Int)).toNat else min (Int.toNat (-1)) ws.length) = _
    rw [if_pos (by decide)]
    omega
  rw [e, HT.sIx_none, ← List.map_drop]
  refine List.take_of_length_le ?_
  rw [List.length_map, List.length_map, List.length_drop]
  exact Nat.le_refl _
/-- the second wheel, made anew perhaps -/
def Two28 (H9 : Hp) (t : Addr) (H : Hp) : Prop := Same H9 H ∧ ∃ (q : Addr) (b : Nat) (ws : List Bool), WhAt H t q b ws ∧ Few b ws
section
variable {P : Program} {w : World} {K : PySem.W.Frag} {mg : Str → Option Value} {base : Heap}
def spLaw (K : PySem.W.Frag) : Sp := fun vs H Q _ => ∃ (a : Addr) (ns : List Int), vs = [.ref a] ∧ SqL K H a (ns.map V.int) ∧ ns.length ≤ 63 ∧ ∀ H', Q (.bl true) H'
theorem ok_law {f : Addr} {fd : FuncData} {cdv : Value} (F : FunC K "law" s_law f fd cdv) (T : Tx K mg) (h1 : Has P w K mg base 2 "_law_source" ["_law_script", "_law_k"] [] (spSource K)) (h2 : Has P w K mg base 2 "_law_next" ["_law_source_here", "_law_many"] [] spNext)
    (h3 : Has P w K mg base 3 "_law_words_of" ["_law_source_here"] [] spWordsOf) (h4 : Has P w K mg base 2 "_law_due" ["_law_one", "_law_two"] [] (spLawDue K)) (h5 : Has P w K mg base 5 "told_apart" ["base", "levels", "other_base", "other_levels"] [] (spTold K)) :
    FnG P w K mg base 6 f fd ["_law_script"] (spLaw K) := by
  obtain ⟨f__law_source, fd__law_source, ds__law_source, G__law_source, m__law_source, k__law_source, b__law_source, v__law_source⟩ := h1
  obtain ⟨f__law_next, fd__law_next, ds__law_next, G__law_next, m__law_next, k__law_next, b__law_next, v__law_next⟩ := h2
  obtain ⟨f__law_words_of, fd__law_words_of, ds__law_words_of, G__law_words_of, m__law_words_of, k__law_words_of, b__law_words_of, v__law_words_of⟩ := h3
  obtain ⟨f__law_due, fd__law_due, ds__law_due, G__law_due, m__law_due, k__law_due, b__law_due, v__law_due⟩ := h4
  obtain ⟨f_told_apart, fd_told_apart, ds_told_apart, G_told_apart, m_told_apart, k_told_apart, b_told_apart, v_told_apart⟩ := h5
  refine F.okG sc_law (fun vs H Q E h => ?_) (fun A outer s H vs Q hgA hr h => ?_)
  · obtain ⟨a, ns, rfl, _⟩ := h
    rfl
  · obtain ⟨a, ns, rfl, hS, hlen, q⟩ := h
    refine ⟨_, (pss_cons (ps_for PassesOwn.never rfl (pi_range1 (by rfl) T.b_range (pa_cons (pe_callB (call_max2 rfl) (by rfl) T.b_max (by decide +kernel) (pa_cons pe_int (pa_cons (pe_callB (call_min2 rfl) (by rfl) T.b_min (by decide +kernel) (pa_cons pe_int (pa_cons (pe_callB (lenK (K := K) rfl) (by rfl) T.b_len PySem.boot_len (pa_cons (pv 0) pa_nil)) pa_nil))) pa_nil))) pa_nil)) (pg_name (i := 1) sc_law.nd rfl (.inl rfl))
        (pss_cons (ps_set (i := 2) sc_law.nd rfl (.inl rfl) (pe_call G__law_source (hr.mono (by decide)) (by rfl) m__law_source k__law_source b__law_source v__law_source pass0 (pa_cons (pv 0) (pa_cons (pv 1) pa_nil))))
        (pss_cons (ps_set (i := 3) sc_law.nd rfl (.inl rfl) (pe_tup (pa_cons (pe_op op_addN pe_int (pe_call G__law_next (hr.mono (by decide)) (by rfl) m__law_next k__law_next b__law_next v__law_next pass0 (pa_cons (pv 2) (pa_cons pe_int pa_nil)))) (pa_cons (pe_call G__law_words_of (hr.mono (by decide)) (by rfl) m__law_words_of k__law_words_of b__law_words_of v__law_words_of pass0 (pa_cons (pv 2) pa_nil)) pa_nil))))
        (pss_cons (ps_set (i := 4) sc_law.nd rfl (.inl rfl) (pe_tup (pa_cons (pe_op op_addN pe_int (pe_call G__law_next (hr.mono (by decide)) (by rfl) m__law_next k__law_next b__law_next v__law_next pass0 (pa_cons (pv 2) (pa_cons pe_int pa_nil)))) (pa_cons (pe_call G__law_words_of (hr.mono (by decide)) (by rfl) m__law_words_of k__law_words_of b__law_words_of v__law_words_of pass0 (pa_cons (pv 2) pa_nil)) pa_nil))))
        (pss_cons (ps_set (i := 5) sc_law.nd rfl (.inl rfl) (pe_call G__law_next (hr.mono (by decide)) (by rfl) m__law_next k__law_next b__law_next v__law_next pass0 (pa_cons (pv 2) (pa_cons pe_int pa_nil))))
        (pss_cons (ps_if (pt_cmpR op_lt (pv 5) pe_int (nomark _))
          (pss_one (ps_set (i := 4) sc_law.nd rfl (.inl rfl) (pe_tup (pa_cons (pe_ix (ix_tupK (K := K) rfl) (pv 3) pe_int (fun _ _ => rfl)) (pa_cons (pe_ix (ix_tupK (K := K) rfl) (pv 4) pe_int (fun _ _ => rfl)) pa_nil)))))
          pss_nil)
        (pss_cons (ps_if (pt_cmpR op_eq (pv 5) pe_int (nomark _))
          (pss_one (ps_set (i := 4) sc_law.nd rfl (.inl rfl) (pe_tup (pa_cons (pe_ix (ix_tupK (K := K) rfl) (pv 3) pe_int (fun _ _ => rfl)) (pa_cons (pe_callTy call_list_of (by rfl) T.b_list (by decide +kernel) (pa_cons (pe_ix (ix_tupK (K := K) rfl) (pv 3) pe_int (fun _ _ => rfl)) pa_nil)) pa_nil)))))
          pss_nil)
        (pss_cons (ps_if (pt_cmpR op_eq (pv 5) pe_int (nomark _))
          (pss_one (ps_set (i := 4) sc_law.nd rfl (.inl rfl) (pe_tup (pa_cons (pe_ix (ix_tupK (K := K) rfl) (pv 3) pe_int (fun _ _ => rfl)) (pa_cons (pe_op op_cat (pe_ix (ix_tupK (K := K) rfl) (pv 3) pe_int (fun _ _ => rfl)) (pe_slice (sl_listK (K := K) rfl) (pe_ix (ix_tupK (K := K) rfl) (pv 3) pe_int (fun _ _ => rfl)) (po_some (pe_un un_neg pe_int)) po_none)) pa_nil)))))
          pss_nil)
        (pss_cons (ps_if (pt_cmpR op_eq (pv 5) pe_int (nomark _))
          (pss_one (ps_set (i := 4) sc_law.nd rfl (.inl rfl) (pe_tup (pa_cons (pe_ix (ix_tupK (K := K) rfl) (pv 4) pe_int (fun _ _ => rfl)) (pa_cons (pe_op op_rep (pe_lst (pa_cons pe_str pa_nil)) (pe_callB (lenK (K := K) rfl) (by rfl) T.b_len PySem.boot_len (pa_cons (pe_ix (ix_tupK (K := K) rfl) (pv 4) pe_int (fun _ _ => rfl)) pa_nil))) pa_nil)))))
          pss_nil)
        (pss_cons (ps_set (i := 6) sc_law.nd rfl (.inl rfl) (pe_callB (call_reprG hgA hr.units) (by rfl) T.b_repr (by decide +kernel) (pa_cons (pe_tup (pa_cons (pv 3) (pa_cons (pv 4) pa_nil))) pa_nil)))
        (pss_cons (ps_set (i := 7) sc_law.nd rfl (.inl rfl) (pe_call G__law_due (hr.mono (by decide)) (by rfl) m__law_due k__law_due b__law_due v__law_due pass0 (pa_cons (pv 3) (pa_cons (pv 4) pa_nil))))
        (pss_cons (ps_if (PW.pt (pw_or (pt_cmpR (op_neK (K := K) rfl hr.units) (pe_call G_told_apart hr (by rfl) m_told_apart k_told_apart b_told_apart v_told_apart pass0 (pa_cons (pe_ix (ix_tupK (K := K) rfl) (pv 3) pe_int (fun _ _ => rfl)) (pa_cons (pe_ix (ix_tupK (K := K) rfl) (pv 3) pe_int (fun _ _ => rfl)) (pa_cons (pe_ix (ix_tupK (K := K) rfl) (pv 4) pe_int (fun _ _ => rfl)) (pa_cons (pe_ix (ix_tupK (K := K) rfl) (pv 4) pe_int (fun _ _ => rfl)) pa_nil))))) (pv 7) (nomark _)) (pw_or1 (pt_cmpR (op_neK (K := K) rfl hr.units) (pe_call G_told_apart hr (by rfl) m_told_apart k_told_apart b_told_apart v_told_apart pass0 (pa_cons (pe_ix (ix_tupK (K := K) rfl) (pv 4) pe_int (fun _ _ => rfl)) (pa_cons (pe_ix (ix_tupK (K := K) rfl) (pv 4) pe_int (fun _ _ => rfl)) (pa_cons (pe_ix (ix_tupK (K := K) rfl) (pv 3) pe_int (fun _ _ => rfl)) (pa_cons (pe_ix (ix_tupK (K := K) rfl) (pv 3) pe_int (fun _ _ => rfl)) pa_nil))))) (pv 7) (nomark _)))))
          (pss_one (ps_ret pe_bl))
          pss_nil)
        (pss_one (ps_if (PW.pt (pw_or (pt_cmpR (op_neK (K := K) rfl hr.units) (pe_call G_told_apart hr (by rfl) m_told_apart k_told_apart b_told_apart v_told_apart pass0 (pa_cons (pe_ix (ix_tupK (K := K) rfl) (pv 3) pe_int (fun _ _ => rfl)) (pa_cons (pe_ix (ix_tupK (K := K) rfl) (pv 3) pe_int (fun _ _ => rfl)) (pa_cons (pe_ix (ix_tupK (K := K) rfl) (pv 3) pe_int (fun _ _ => rfl)) (pa_cons (pe_callTy call_list_of (by rfl) T.b_list (by decide +kernel) (pa_cons (pe_ix (ix_tupK (K := K) rfl) (pv 3) pe_int (fun _ _ => rfl)) pa_nil)) pa_nil))))) (pe_tup (pa_cons pe_str pa_nil)) (nomark _)) (pw_or1 (pt_cmpR op_ne (pe_callB (call_reprG hgA hr.units) (by rfl) T.b_repr (by decide +kernel) (pa_cons (pe_tup (pa_cons (pv 3) (pa_cons (pv 4) pa_nil))) pa_nil)) (pv 6) (nomark _)))))
          (pss_one (ps_ret pe_bl))
          pss_nil))))))))))))))
      (pss_one (ps_ret pe_bl))), ?_⟩
    refine ⟨.ref a, rfl, a, ns.map V.int, rfl, .inl hS, 4, _, rfl, 1, _, rfl, _, rfl, ?_, ?_, for_range (Pv := fun i σ H' => SqL K H' a (ns.map V.int) ∧ ∃ y1 y2 y3 y4 y5 y6 y7, σ = [some (.ref a), y1, y2, y3, y4, y5, y6, y7]) ⟨hS, none, none, none, none, none, none, none, rfl⟩ ?_ ?_⟩
    · split <;> split <;> omega
    · rw [List.length_map]
      split <;> split <;> omega
    · rintro i0 σ H0 hi ⟨hS, y1, y2, y3, y4, y5, y6, y7, rfl⟩
      refine ⟨_, rfl, _, rfl, a, ns, 0 + i0, rfl, hS, fun H1 p s1 hp0 hsrc => ?_⟩
      -- the first wheel
      refine ⟨_, rfl, p, 4, rfl, by decide, by decide, hsrc, fun r1 H2 hr1 s2 => ⟨2, r1, rfl, rfl, trivial, _, rfl, p, rfl, s2.src, fun H3 q1 w1 s3 hq1 eq1 n1 l1 => ⟨by simp [sizeLine_eq], fun t1 ht1 => ?_⟩⟩⟩
      have s4 : Stp p H3 (upd H3 t1 (.tup [.int ((2 + r1 : Nat) : Int), .ref q1])) := s3.src.stp_same (same_upd ht1)
      have w4 : WhAt (upd H3 t1 (.tup [.int ((2 + r1 : Nat) : Int), .ref q1])) t1 q1 (2 + r1) w1 := ⟨upd_same, same_upd ht1 _ _ eq1⟩
      have nt1 : t1 ≠ p := s3.src.ne ht1
      have nq1 : q1 ≠ p := s2.src.ne hq1
      generalize upd H3 t1 (.tup [.int ((2 + r1 : Nat) : Int), .ref q1]) = H4 at s4 w4 ⊢
      -- the second
      refine ⟨_, rfl, p, 4, rfl, by decide, by decide, s4.src, fun r2 H5 hr2 s5 => ⟨2, r2, rfl, rfl, trivial, _, rfl, p, rfl, s5.src, fun H6 q2 w2 s6 hq2 eq2 n2 l2 => ⟨by simp [sizeLine_eq], fun t2 ht2 => ?_⟩⟩⟩
      have s7 : Stp p H6 (upd H6 t2 (.tup [.int ((2 + r2 : Nat) : Int), .ref q2])) := s6.src.stp_same (same_upd ht2)
      have w7 : WhAt (upd H6 t2 (.tup [.int ((2 + r2 : Nat) : Int), .ref q2])) t2 q2 (2 + r2) w2 := ⟨upd_same, same_upd ht2 _ _ eq2⟩
      have nt2 : t2 ≠ p := s6.src.ne ht2
      have nq2 : q2 ≠ p := s5.src.ne hq2
      generalize upd H6 t2 (.tup [.int ((2 + r2 : Nat) : Int), .ref q2]) = H7 at s7 w7 ⊢
      -- the sort
      refine ⟨_, rfl, p, 6, rfl, by decide, by decide, s7.src, fun r9 H9 hr9 s9 => ?_⟩
      have hS9 := seq_new hS hp0 s1 (((((((s2.trans s3).trans s4).trans s5).trans s6).trans s7).trans s9))
      have s59 := (((s5.trans s6).trans s7).trans s9)
      have v1 : WhAt H9 t1 q1 (2 + r1) w1 := ⟨s59.keep _ _ nt1 w4.1, s59.keep _ _ nq1 w4.2⟩
      have v2 : WhAt H9 t2 q2 (2 + r2) w2 := ⟨s9.keep _ _ nt2 w7.1, s9.keep _ _ nq2 w7.2⟩
      have f2 : Few (2 + r2) w2 := ⟨by omega, by omega, n2, by omega⟩
      have s99 : Same H9 H9 := fun _ _ e => e
      generalize hb2 : 2 + r2 = b2 at v2 f2
      have f1 : Few (2 + r1) w1 := ⟨by omega, by omega, n1, by omega⟩
      generalize hb1 : 2 + r1 = b1 at v1 f1
      clear w4 w7 eq1 eq2 s59
      apply cut_at (I := Two28 H9)
      · intro rest
        by_cases e : r9 < 2
        · refine ⟨_, rfl, _, _, rfl, rfl, true, dT (by omega), iteT ?_⟩
          refine ⟨_, rfl, t1, _, 0, _, rfl, rfl, .inl (.inl v1.1), atI_nat (j := 0) rfl, _, rfl, t2, _, 1, _, rfl, rfl, .inl (.inl v2.1), atI_nat (j := 1) rfl, by simp [sizeLine_eq], fun u hu => ?_⟩
          have su := same_upd (o := .tup [.int (b1 : Nat), .ref q2]) hu
          have eu : (upd H9 u (.tup [.int (b1 : Nat), .ref q2])) u = some (.tup [.int (b1 : Nat), .ref q2]) := upd_same
          generalize upd H9 u (.tup [.int (b1 : Nat), .ref q2]) = Hu at su eu ⊢
          exact rest u Hu ⟨su, q2, b1, w2, ⟨eu, su _ _ v2.2⟩, f1.1, f1.2.1, f2.2.2⟩
        · refine ⟨_, rfl, _, _, rfl, rfl, false, dF (by omega), iteF ?_⟩
          exact rest t2 H9 ⟨s99, q2, b2, w2, v2, f2⟩
      rintro t3 H10 ⟨s10, q3, b3, w3, v3, f3⟩
      apply cut_at (I := Two28 H9)
      · intro rest
        by_cases e : r9 = 2
        · refine ⟨_, rfl, rfl, true, dT (by rw [e]; rfl), iteT ?_⟩
          refine ⟨_, rfl, t1, _, 0, _, rfl, rfl, .inl (.inl (s10 _ _ v1.1)), atI_nat (j := 0) rfl, _, rfl, t1, _, 1, _, rfl, rfl, .inl (.inl (s10 _ _ v1.1)), atI_nat (j := 1) rfl, q1, _, rfl, .inl (SqL.of (s10 _ _ v1.2)), fun l hl => ⟨by simp [sizeLine_eq], fun u hu => ?_⟩⟩
          have sl := same_upd (o := .lst (w1.map lvV)) hl
          have el : (upd H10 l (.lst (w1.map lvV))) l = some (.lst (w1.map lvV)) := upd_same
          generalize upd H10 l (.lst (w1.map lvV)) = Hl at sl el hu ⊢
          have su := same_upd (o := .tup [.int (b1 : Nat), .ref l]) hu
          have eu : (upd Hl u (.tup [.int (b1 : Nat), .ref l])) u = some (.tup [.int (b1 : Nat), .ref l]) := upd_same
          generalize upd Hl u (.tup [.int (b1 : Nat), .ref l]) = Hu at su eu ⊢
          exact rest u Hu ⟨(s10.trans sl).trans su, l, b1, w1, ⟨eu, su _ _ el⟩, f1⟩
        · refine ⟨_, rfl, rfl, false, dF (fun z => e (Int.ofNat.inj (V.int.inj z))), iteF ?_⟩
          exact rest t3 H10 ⟨s10, q3, b3, w3, v3, f3⟩
      clear v3 f3 s10
      rintro t4 H11 ⟨s11, q4, b4, w4, v4, f4⟩
      apply cut_at (I := Two28 H9)
      · intro rest
        by_cases e : r9 = 3
        · refine ⟨_, rfl, rfl, true, dT (by rw [e]; rfl), iteT ?_⟩
          refine ⟨_, rfl, t1, _, 0, _, rfl, rfl, .inl (.inl (s11 _ _ v1.1)), atI_nat (j := 0) rfl, _, rfl, t1, _, 1, _, rfl, rfl, .inl (.inl (s11 _ _ v1.1)), atI_nat (j := 1) rfl, _, rfl, t1, _, 1, _, rfl, rfl, .inl (.inl (s11 _ _ v1.1)), atI_nat (j := 1) rfl, 1, rfl, -1, rfl, q1, _, rfl, SqL.of (s11 _ _ v1.2), fun l hl => ?_⟩
          have sl := same_upd (o := .lst (cutV (w1.map lvV) (some (-1)) none)) hl
          have el : (upd H11 l (.lst (cutV (w1.map lvV) (some (-1)) none))) l = some (.lst ((w1.drop (w1.length - 1)).map lvV)) := by rw [upd_same, cut_last]
          generalize upd H11 l (.lst (cutV (w1.map lvV) (some (-1)) none)) = Hl at sl el ⊢
          refine ⟨q1, l, _, _, rfl, rfl, sl _ _ (s11 _ _ v1.2), el, ?_, fun l2 hl2 => ⟨by simp [sizeLine_eq], fun u hu => ?_⟩⟩
          · rw [List.length_map, List.length_map, List.length_drop]
            exact sizeLine_le (by omega)
          have sl2 := same_upd (o := .lst (w1.map lvV ++ (w1.drop (w1.length - 1)).map lvV)) hl2
          have el2 : (upd Hl l2 (.lst (w1.map lvV ++ (w1.drop (w1.length - 1)).map lvV))) l2 = some (.lst ((w1 ++ w1.drop (w1.length - 1)).map lvV)) := by rw [upd_same, List.map_append]
          generalize upd Hl l2 (.lst (w1.map lvV ++ (w1.drop (w1.length - 1)).map lvV)) = Hm at sl2 el2 hu ⊢
          have su := same_upd (o := .tup [.int (b1 : Nat), .ref l2]) hu
          have eu : (upd Hm u (.tup [.int (b1 : Nat), .ref l2])) u = some (.tup [.int (b1 : Nat), .ref l2]) := upd_same
          generalize upd Hm u (.tup [.int (b1 : Nat), .ref l2]) = Hu at su eu ⊢
          refine rest u Hu ⟨((s11.trans sl).trans sl2).trans su, l2, b1, _, ⟨eu, su _ _ el2⟩, f1.1, f1.2.1, by simp [n1], ?_⟩
          rw [List.length_append, List.length_drop]
          omega
        · refine ⟨_, rfl, rfl, false, dF (fun z => e (Int.ofNat.inj (V.int.inj z))), iteF ?_⟩
          exact rest t4 H11 ⟨s11, q4, b4, w4, v4, f4⟩
      clear v4 f4 s11
      rintro t5 H12 ⟨s12, q5, b5, w5, v5, f5⟩
      apply cut_at (I := Two28 H9)
      · intro rest
        by_cases e : r9 = 4
        · refine ⟨_, rfl, rfl, true, dT (by rw [e]; rfl), iteT ?_⟩
          refine ⟨_, rfl, t5, _, 0, _, rfl, rfl, .inl (.inl v5.1), atI_nat (j := 0) rfl, by simp [sizeLine_eq], fun l hl => ?_⟩
          have sl := same_upd (o := .lst [.str "queue"]) hl
          have el : (upd H12 l (.lst [.str "queue"])) l = some (.lst [.str "queue"]) := upd_same
          generalize upd H12 l (.lst [.str "queue"]) = Hl at sl el ⊢
          have lw : (w5.map lvV).length = w5.length := List.length_map ..
          have l5 := f5.2.2.2
          refine ⟨_, rfl, t5, _, 1, _, rfl, rfl, .inl (.inl (sl _ _ v5.1)), atI_nat (j := 1) rfl, q5, _, rfl, .inl (SqL.of (sl _ _ v5.2)), l, ((w5.map lvV).length : Nat), _, rfl, rfl, el, by omega, by omega, ?_, fun l2 hl2 => ⟨by simp [sizeLine_eq], fun u hu => ?_⟩⟩
          · rw [Int.toNat_natCast, lw]
            exact sizeLine_le (by show 1 * w5.length ≤ 1000000; omega)
          have sl2 := same_upd (o := .lst (List.replicate (((w5.map lvV).length : Nat) : Int).toNat [V.str "queue"]).flatten) hl2
          have el2 : (upd Hl l2 (.lst (List.replicate (((w5.map lvV).length : Nat) : Int).toNat [V.str "queue"]).flatten)) l2 = some (.lst ((List.replicate w5.length false).map lvV)) := by
            rw [upd_same, Int.toNat_natCast, lw, List.map_replicate]
            congr 2
            generalize w5.length = n
            induction n with
            | zero => rfl
            | succ n ih => rw [List.replicate_succ, List.flatten_cons, ih, List.replicate_succ]; rfl
          generalize upd Hl l2 (.lst (List.replicate (((w5.map lvV).length : Nat) : Int).toNat [V.str "queue"]).flatten) = Hm at sl2 el2 hu ⊢
          have su := same_upd (o := .tup [.int (b5 : Nat), .ref l2]) hu
          have eu : (upd Hm u (.tup [.int (b5 : Nat), .ref l2])) u = some (.tup [.int (b5 : Nat), .ref l2]) := upd_same
          generalize upd Hm u (.tup [.int (b5 : Nat), .ref l2]) = Hu at su eu ⊢
          refine rest u Hu ⟨((s12.trans sl).trans sl2).trans su, l2, b5, _, ⟨eu, su _ _ el2⟩, f5.1, f5.2.1, fun z => ?_, by rw [List.length_replicate]; exact l5⟩
          have z2 := congrArg List.length z
          rw [List.length_replicate] at z2
          exact f5.2.2.1 (List.length_eq_zero_iff.mp z2)
        · refine ⟨_, rfl, rfl, false, dF (fun z => e (Int.ofNat.inj (V.int.inj z))), iteF ?_⟩
          exact rest t5 H12 ⟨s12, q5, b5, w5, v5, f5⟩
      clear v5 f5 s12
      rintro t6 H13 ⟨s13, q6, b6, w6, v6, f6⟩
      have u1 := v1.same s13
      have hS13 : SqL K H13 a (ns.map V.int) := s13.seq hS9
      obtain ⟨d50, dsh, ddi, dlen⟩ := tw_ok (b1 := b1) (b2 := b6) (w1 := w1) (w2 := w6) (by have := f1.2.1; omega) (by have := f6.2.1; omega) f1.2.2.2 f6.2.2.2
      have dp : ∀ {H : Hp} {u : Addr}, Same H13 H → H u = some (.tup [.ref t1, .ref t6]) → Dp K H (.ref u) (twD b1 w1 b6 w6) := fun {H u} s e => .tup (SqT.of e) (.cons (wh_dp (s _ _ u1.1) (s _ _ u1.2)) (.cons (wh_dp (s _ _ v6.1) (s _ _ v6.2)) .nil))
      -- what repr shows
      refine ⟨_, rfl, _, rfl, by simp [sizeLine_eq], fun u hu => ?_⟩
      have su := same_upd (o := .tup [.ref t1, .ref t6]) hu
      have eu : (upd H13 u (.tup [.ref t1, .ref t6])) u = some (.tup [.ref t1, .ref t6]) := upd_same
      generalize upd H13 u (.tup [.ref t1, .ref t6]) = H14 at su eu ⊢
      refine ⟨u, twD b1 w1 b6 w6, rfl, dp su eu, d50, dsh, ddi, dlen, ?_⟩
      -- the search
      refine ⟨_, rfl, _, rfl, t1, t6, b1, b6, q1, q6, w1, w6, rfl, su _ _ u1.1, su _ _ v6.1, f1.1, by have := f1.2.1; omega, f6.1, by have := f6.2.1; omega, su _ _ u1.2, su _ _ v6.2, n1, f6.2.2.1, fun r hr H15 ud sd hud0 hud => ?_⟩
      have hT := hr.told f1 f6
      have b64 : b1 ≤ 64 := by have := f1.2.1; omega
      have c64 : b6 ≤ 64 := by have := f6.2.1; omega
      have l40 : w1.length ≤ 40 := by omega
      have m40 : w6.length ≤ 40 := by have := f6.2.2.2; omega
      have sA := su.trans sd
      -- told apart
      refine ⟨_, rfl, t1, _, 0, _, rfl, rfl, .inl (.inl (sA _ _ u1.1)), atI_nat (j := 0) rfl, _, rfl, t1, _, 1, _, rfl, rfl, .inl (.inl (sA _ _ u1.1)), atI_nat (j := 1) rfl, _, rfl, t6, _, 0, _, rfl, rfl, .inl (.inl (sA _ _ v6.1)), atI_nat (j := 0) rfl, _, rfl, t6, _, 1, _, rfl, rfl, .inl (.inl (sA _ _ v6.1)), atI_nat (j := 1) rfl, ?_⟩
      refine ⟨b1, b6, q1, q6, w1, w6, rfl, f1.1, b64, f6.1, c64, l40, m40, SqL.of (sA _ _ u1.2), SqL.of (sA _ _ v6.2), n1, f6.2.2.1, fun r' hr' H16 u2 s2' hu2 eu2 => ?_⟩
      have er := hr'.uniq hT
      subst er
      refine ⟨_, rfl, tolD r', tolD r', tol_dp eu2, tol_dp (s2' _ _ hud), tol_shaped _, tol_shaped _, false, neq_refl (tol_lay r'), iteF ?_⟩
      have sB := sA.trans s2'
      refine ⟨_, rfl, t6, _, 0, _, rfl, rfl, .inl (.inl (sB _ _ v6.1)), atI_nat (j := 0) rfl, _, rfl, t6, _, 1, _, rfl, rfl, .inl (.inl (sB _ _ v6.1)), atI_nat (j := 1) rfl, _, rfl, t1, _, 0, _, rfl, rfl, .inl (.inl (sB _ _ u1.1)), atI_nat (j := 0) rfl, _, rfl, t1, _, 1, _, rfl, rfl, .inl (.inl (sB _ _ u1.1)), atI_nat (j := 1) rfl, ?_⟩
      refine ⟨b6, b1, q6, q1, w6, w1, rfl, f6.1, c64, f1.1, b64, m40, l40, SqL.of (sB _ _ v6.2), SqL.of (sB _ _ u1.2), f6.2.2.1, n1, fun r2' hr2' H17 u3 s3' hu3 eu3 => ?_⟩
      have er := hr2'.swap.uniq hT
      subst er
      refine ⟨_, rfl, tolD r2', tolD r2', tol_dp eu3, tol_dp (s3' _ _ (s2' _ _ hud)), tol_shaped _, tol_shaped _, false, neq_refl (tol_lay r2'), iteF ?_⟩
      have sC := sB.trans s3'
      -- one wheel, and its words anew
      refine ⟨_, rfl, t1, _, 0, _, rfl, rfl, .inl (.inl (sC _ _ u1.1)), atI_nat (j := 0) rfl, _, rfl, t1, _, 1, _, rfl, rfl, .inl (.inl (sC _ _ u1.1)), atI_nat (j := 1) rfl, _, rfl, t1, _, 0, _, rfl, rfl, .inl (.inl (sC _ _ u1.1)), atI_nat (j := 0) rfl, _, rfl, t1, _, 1, _, rfl, rfl, .inl (.inl (sC _ _ u1.1)), atI_nat (j := 1) rfl, q1, _, rfl, .inl (SqL.of (sC _ _ u1.2)), fun l hl => ?_⟩
      have sl := same_upd (o := .lst (w1.map lvV)) hl
      have el : (upd H17 l (.lst (w1.map lvV))) l = some (.lst (w1.map lvV)) := upd_same
      generalize upd H17 l (.lst (w1.map lvV)) = H18 at sl el ⊢
      have sD := sC.trans sl
      refine ⟨b1, b1, q1, l, w1, w1, rfl, f1.1, b64, f1.1, b64, l40, l40, SqL.of (sD _ _ u1.2), SqL.of el, n1, n1, fun r3 hr3 H19 u4 s4' hu4 eu4 => ?_⟩
      have er := hr3.uniq ToldP.self
      subst er
      refine ⟨by simp [sizeLine_eq], fun u5 hu5 => ?_⟩
      have s5' := same_upd (o := .tup [.str "alike"]) hu5
      have e5' : (upd H19 u5 (.tup [.str "alike"])) u5 = some (.tup (tolV none)) := upd_same
      generalize upd H19 u5 (.tup [.str "alike"]) = H20 at s5' e5' ⊢
      refine ⟨tolD none, tolD none, tol_dp (s5' _ _ eu4), tol_dp e5', tol_shaped _, tol_shaped _, false, neq_refl (tol_lay none), iteF ?_⟩
      have sE := (sD.trans s4').trans s5'
      -- repr again
      refine ⟨_, rfl, _, rfl, by simp [sizeLine_eq], fun u6 hu6 => ?_⟩
      have s6' := same_upd (o := .tup [.ref t1, .ref t6]) hu6
      have e6' : (upd H20 u6 (.tup [.ref t1, .ref t6])) u6 = some (.tup [.ref t1, .ref t6]) := upd_same
      generalize upd H20 u6 (.tup [.ref t1, .ref t6]) = H21 at s6' e6' ⊢
      refine ⟨u6, twD b1 w1 b6 w6, rfl, dp (sE.trans s6') e6', d50, dsh, ddi, dlen, _, rfl, rfl, false, nF rfl, iteF ⟨(sE.trans s6').seq hS13, _, _, _, _, _, _, _, rfl⟩⟩
    · rintro σ H' ⟨hS, y1, y2, y3, y4, y5, y6, y7, rfl⟩
      exact q _
end
theorem all_mk {l : PySem.W.OpenLaw} {w : World} {K : PySem.W.Frag} {h : Heap} {mg : Str → Option Value} {fa : Addr} (X : K.In h) (G : h.Ns mainGlobals mg) (hfa : mg "law" = some (.ref fa))
    {f_WORDS : Addr} {od_WORDS : Option Addr} {tk0_WORDS tk1_WORDS : Tok} {tn_WORDS : Nat} {ts_WORDS : Array (Option Value)}
    {tk_MOST_LEVELS : Tok}
    {f_is_integer f_is_word f_is_base f_is_length f_are_levels f_check_base f_check_levels f_word_at f_level_and_size f_path f_goes_in_front f_size_of_lowest_stack f_powers f_telling_dues f_first_difference f_told_apart f_law_cell_at f_law_mixed f_law_source f_law_next f_law_is_front f_law_due f_law_words_of f_law : Addr}
    {od_is_integer an_is_integer od_is_word an_is_word od_is_base an_is_base od_is_length an_is_length od_are_levels an_are_levels od_check_base an_check_base od_check_levels an_check_levels od_word_at an_word_at od_level_and_size an_level_and_size od_path an_path od_goes_in_front an_goes_in_front od_size_of_lowest_stack an_size_of_lowest_stack od_powers an_powers od_telling_dues an_telling_dues od_first_difference an_first_difference od_told_apart an_told_apart od_law_cell_at an_law_cell_at od_law_mixed an_law_mixed od_law_source an_law_source od_law_next an_law_next od_law_is_front an_law_is_front od_law_due an_law_due od_law_words_of an_law_words_of od_law an_law : Option Addr}
    {sl_is_integer sl_is_word sl_is_base sl_is_length sl_are_levels sl_check_base sl_check_levels sl_word_at sl_level_and_size sl_path sl_goes_in_front sl_size_of_lowest_stack sl_powers sl_telling_dues sl_first_difference sl_told_apart sl_law_cell_at sl_law_mixed sl_law_source sl_law_next sl_law_is_front sl_law_due sl_law_words_of sl_law : Array (Option Value)}
    {oc_is_integer kV_is_integer dc_is_integer pm_is_integer cd_is_integer ct_is_integer oc_is_word kV_is_word dc_is_word pm_is_word cd_is_word ct_is_word oc_is_base kV_is_base dc_is_base pm_is_base cd_is_base ct_is_base oc_is_length kV_is_length dc_is_length pm_is_length cd_is_length ct_is_length oc_are_levels kV_are_levels dc_are_levels pm_are_levels cd_are_levels ct_are_levels oc_check_base kV_check_base dc_check_base pm_check_base cd_check_base ct_check_base oc_check_levels kV_check_levels dc_check_levels pm_check_levels cd_check_levels ct_check_levels oc_word_at kV_word_at dc_word_at pm_word_at cd_word_at ct_word_at oc_level_and_size kV_level_and_size dc_level_and_size pm_level_and_size cd_level_and_size ct_level_and_size oc_path kV_path dc_path pm_path cd_path ct_path oc_goes_in_front kV_goes_in_front dc_goes_in_front pm_goes_in_front cd_goes_in_front ct_goes_in_front oc_size_of_lowest_stack kV_size_of_lowest_stack dc_size_of_lowest_stack pm_size_of_lowest_stack cd_size_of_lowest_stack ct_size_of_lowest_stack oc_powers kV_powers dc_powers pm_powers cd_powers ct_powers oc_telling_dues kV_telling_dues dc_telling_dues pm_telling_dues cd_telling_dues ct_telling_dues oc_first_difference kV_first_difference dc_first_difference pm_first_difference cd_first_difference ct_first_difference oc_told_apart kV_told_apart dc_told_apart pm_told_apart cd_told_apart ct_told_apart oc_law_cell_at kV_law_cell_at dc_law_cell_at pm_law_cell_at cd_law_cell_at ct_law_cell_at oc_law_mixed kV_law_mixed dc_law_mixed pm_law_mixed cd_law_mixed ct_law_mixed oc_law_source kV_law_source dc_law_source pm_law_source cd_law_source ct_law_source oc_law_next kV_law_next dc_law_next pm_law_next cd_law_next ct_law_next oc_law_is_front kV_law_is_front dc_law_is_front pm_law_is_front cd_law_is_front ct_law_is_front oc_law_due kV_law_due dc_law_due pm_law_due cd_law_due ct_law_due oc_law_words_of kV_law_words_of dc_law_words_of pm_law_words_of cd_law_words_of ct_law_words_of oc_law kV_law dc_law pm_law cd_law ct_law : Value}
    (a_is_integer : PySem.W.nsIn K mainGlobals "is_integer" = some (some (.ref f_is_integer)))
    (l_is_integer : K.lookup f_is_integer = some ⟨oc_is_integer, od_is_integer, .func (PySem.W.fnOf "is_integer" "is_integer" (defArgs s_is_integer) (defBody s_is_integer) (defScope s_is_integer) .none kV_is_integer dc_is_integer pm_is_integer an_is_integer cd_is_integer ct_is_integer), sl_is_integer⟩)
    (c_is_integer : PySem.W.codeIn K cd_is_integer "is_integer" = true) (k_is_integer : PySem.W.keepIn K (.ref f_is_integer) = true)
    (a_is_word : PySem.W.nsIn K mainGlobals "is_word" = some (some (.ref f_is_word)))
    (l_is_word : K.lookup f_is_word = some ⟨oc_is_word, od_is_word, .func (PySem.W.fnOf "is_word" "is_word" (defArgs s_is_word) (defBody s_is_word) (defScope s_is_word) .none kV_is_word dc_is_word pm_is_word an_is_word cd_is_word ct_is_word), sl_is_word⟩)
    (c_is_word : PySem.W.codeIn K cd_is_word "is_word" = true) (k_is_word : PySem.W.keepIn K (.ref f_is_word) = true)
    (a_is_base : PySem.W.nsIn K mainGlobals "is_base" = some (some (.ref f_is_base)))
    (l_is_base : K.lookup f_is_base = some ⟨oc_is_base, od_is_base, .func (PySem.W.fnOf "is_base" "is_base" (defArgs s_is_base) (defBody s_is_base) (defScope s_is_base) .none kV_is_base dc_is_base pm_is_base an_is_base cd_is_base ct_is_base), sl_is_base⟩)
    (c_is_base : PySem.W.codeIn K cd_is_base "is_base" = true) (k_is_base : PySem.W.keepIn K (.ref f_is_base) = true)
    (a_is_length : PySem.W.nsIn K mainGlobals "is_length" = some (some (.ref f_is_length)))
    (l_is_length : K.lookup f_is_length = some ⟨oc_is_length, od_is_length, .func (PySem.W.fnOf "is_length" "is_length" (defArgs s_is_length) (defBody s_is_length) (defScope s_is_length) .none kV_is_length dc_is_length pm_is_length an_is_length cd_is_length ct_is_length), sl_is_length⟩)
    (c_is_length : PySem.W.codeIn K cd_is_length "is_length" = true) (k_is_length : PySem.W.keepIn K (.ref f_is_length) = true)
    (a_are_levels : PySem.W.nsIn K mainGlobals "are_levels" = some (some (.ref f_are_levels)))
    (l_are_levels : K.lookup f_are_levels = some ⟨oc_are_levels, od_are_levels, .func (PySem.W.fnOf "are_levels" "are_levels" (defArgs s_are_levels) (defBody s_are_levels) (defScope s_are_levels) .none kV_are_levels dc_are_levels pm_are_levels an_are_levels cd_are_levels ct_are_levels), sl_are_levels⟩)
    (c_are_levels : PySem.W.codeIn K cd_are_levels "are_levels" = true) (k_are_levels : PySem.W.keepIn K (.ref f_are_levels) = true)
    (a_check_base : PySem.W.nsIn K mainGlobals "check_base" = some (some (.ref f_check_base)))
    (l_check_base : K.lookup f_check_base = some ⟨oc_check_base, od_check_base, .func (PySem.W.fnOf "check_base" "check_base" (defArgs s_check_base) (defBody s_check_base) (defScope s_check_base) .none kV_check_base dc_check_base pm_check_base an_check_base cd_check_base ct_check_base), sl_check_base⟩)
    (c_check_base : PySem.W.codeIn K cd_check_base "check_base" = true) (k_check_base : PySem.W.keepIn K (.ref f_check_base) = true)
    (a_check_levels : PySem.W.nsIn K mainGlobals "check_levels" = some (some (.ref f_check_levels)))
    (l_check_levels : K.lookup f_check_levels = some ⟨oc_check_levels, od_check_levels, .func (PySem.W.fnOf "check_levels" "check_levels" (defArgs s_check_levels) (defBody s_check_levels) (defScope s_check_levels) .none kV_check_levels dc_check_levels pm_check_levels an_check_levels cd_check_levels ct_check_levels), sl_check_levels⟩)
    (c_check_levels : PySem.W.codeIn K cd_check_levels "check_levels" = true) (k_check_levels : PySem.W.keepIn K (.ref f_check_levels) = true)
    (a_word_at : PySem.W.nsIn K mainGlobals "word_at" = some (some (.ref f_word_at)))
    (l_word_at : K.lookup f_word_at = some ⟨oc_word_at, od_word_at, .func (PySem.W.fnOf "word_at" "word_at" (defArgs s_word_at) (defBody s_word_at) (defScope s_word_at) .none kV_word_at dc_word_at pm_word_at an_word_at cd_word_at ct_word_at), sl_word_at⟩)
    (c_word_at : PySem.W.codeIn K cd_word_at "word_at" = true) (k_word_at : PySem.W.keepIn K (.ref f_word_at) = true)
    (a_level_and_size : PySem.W.nsIn K mainGlobals "level_and_size" = some (some (.ref f_level_and_size)))
    (l_level_and_size : K.lookup f_level_and_size = some ⟨oc_level_and_size, od_level_and_size, .func (PySem.W.fnOf "level_and_size" "level_and_size" (defArgs s_level_and_size) (defBody s_level_and_size) (defScope s_level_and_size) .none kV_level_and_size dc_level_and_size pm_level_and_size an_level_and_size cd_level_and_size ct_level_and_size), sl_level_and_size⟩)
    (c_level_and_size : PySem.W.codeIn K cd_level_and_size "level_and_size" = true) (k_level_and_size : PySem.W.keepIn K (.ref f_level_and_size) = true)
    (a_path : PySem.W.nsIn K mainGlobals "path" = some (some (.ref f_path)))
    (l_path : K.lookup f_path = some ⟨oc_path, od_path, .func (PySem.W.fnOf "path" "path" (defArgs s_path) (defBody s_path) (defScope s_path) .none kV_path dc_path pm_path an_path cd_path ct_path), sl_path⟩)
    (c_path : PySem.W.codeIn K cd_path "path" = true) (k_path : PySem.W.keepIn K (.ref f_path) = true)
    (a_goes_in_front : PySem.W.nsIn K mainGlobals "goes_in_front" = some (some (.ref f_goes_in_front)))
    (l_goes_in_front : K.lookup f_goes_in_front = some ⟨oc_goes_in_front, od_goes_in_front, .func (PySem.W.fnOf "goes_in_front" "goes_in_front" (defArgs s_goes_in_front) (defBody s_goes_in_front) (defScope s_goes_in_front) .none kV_goes_in_front dc_goes_in_front pm_goes_in_front an_goes_in_front cd_goes_in_front ct_goes_in_front), sl_goes_in_front⟩)
    (c_goes_in_front : PySem.W.codeIn K cd_goes_in_front "goes_in_front" = true) (k_goes_in_front : PySem.W.keepIn K (.ref f_goes_in_front) = true)
    (a_size_of_lowest_stack : PySem.W.nsIn K mainGlobals "size_of_lowest_stack" = some (some (.ref f_size_of_lowest_stack)))
    (l_size_of_lowest_stack : K.lookup f_size_of_lowest_stack = some ⟨oc_size_of_lowest_stack, od_size_of_lowest_stack, .func (PySem.W.fnOf "size_of_lowest_stack" "size_of_lowest_stack" (defArgs s_size_of_lowest_stack) (defBody s_size_of_lowest_stack) (defScope s_size_of_lowest_stack) .none kV_size_of_lowest_stack dc_size_of_lowest_stack pm_size_of_lowest_stack an_size_of_lowest_stack cd_size_of_lowest_stack ct_size_of_lowest_stack), sl_size_of_lowest_stack⟩)
    (c_size_of_lowest_stack : PySem.W.codeIn K cd_size_of_lowest_stack "size_of_lowest_stack" = true) (k_size_of_lowest_stack : PySem.W.keepIn K (.ref f_size_of_lowest_stack) = true)
    (a_powers : PySem.W.nsIn K mainGlobals "powers" = some (some (.ref f_powers)))
    (l_powers : K.lookup f_powers = some ⟨oc_powers, od_powers, .func (PySem.W.fnOf "powers" "powers" (defArgs s_powers) (defBody s_powers) (defScope s_powers) .none kV_powers dc_powers pm_powers an_powers cd_powers ct_powers), sl_powers⟩)
    (c_powers : PySem.W.codeIn K cd_powers "powers" = true) (k_powers : PySem.W.keepIn K (.ref f_powers) = true)
    (a_telling_dues : PySem.W.nsIn K mainGlobals "telling_dues" = some (some (.ref f_telling_dues)))
    (l_telling_dues : K.lookup f_telling_dues = some ⟨oc_telling_dues, od_telling_dues, .func (PySem.W.fnOf "telling_dues" "telling_dues" (defArgs s_telling_dues) (defBody s_telling_dues) (defScope s_telling_dues) .none kV_telling_dues dc_telling_dues pm_telling_dues an_telling_dues cd_telling_dues ct_telling_dues), sl_telling_dues⟩)
    (c_telling_dues : PySem.W.codeIn K cd_telling_dues "telling_dues" = true) (k_telling_dues : PySem.W.keepIn K (.ref f_telling_dues) = true)
    (a_first_difference : PySem.W.nsIn K mainGlobals "first_difference" = some (some (.ref f_first_difference)))
    (l_first_difference : K.lookup f_first_difference = some ⟨oc_first_difference, od_first_difference, .func (PySem.W.fnOf "first_difference" "first_difference" (defArgs s_first_difference) (defBody s_first_difference) (defScope s_first_difference) .none kV_first_difference dc_first_difference pm_first_difference an_first_difference cd_first_difference ct_first_difference), sl_first_difference⟩)
    (c_first_difference : PySem.W.codeIn K cd_first_difference "first_difference" = true) (k_first_difference : PySem.W.keepIn K (.ref f_first_difference) = true)
    (a_told_apart : PySem.W.nsIn K mainGlobals "told_apart" = some (some (.ref f_told_apart)))
    (l_told_apart : K.lookup f_told_apart = some ⟨oc_told_apart, od_told_apart, .func (PySem.W.fnOf "told_apart" "told_apart" (defArgs s_told_apart) (defBody s_told_apart) (defScope s_told_apart) .none kV_told_apart dc_told_apart pm_told_apart an_told_apart cd_told_apart ct_told_apart), sl_told_apart⟩)
    (c_told_apart : PySem.W.codeIn K cd_told_apart "told_apart" = true) (k_told_apart : PySem.W.keepIn K (.ref f_told_apart) = true)
    (a_law_cell_at : PySem.W.nsIn K mainGlobals "_law_cell_at" = some (some (.ref f_law_cell_at)))
    (l_law_cell_at : K.lookup f_law_cell_at = some ⟨oc_law_cell_at, od_law_cell_at, .func (PySem.W.fnOf "_law_cell_at" "_law_cell_at" (defArgs s__law_cell_at) (defBody s__law_cell_at) (defScope s__law_cell_at) .none kV_law_cell_at dc_law_cell_at pm_law_cell_at an_law_cell_at cd_law_cell_at ct_law_cell_at), sl_law_cell_at⟩)
    (c_law_cell_at : PySem.W.codeIn K cd_law_cell_at "_law_cell_at" = true) (k_law_cell_at : PySem.W.keepIn K (.ref f_law_cell_at) = true)
    (a_law_mixed : PySem.W.nsIn K mainGlobals "_law_mixed" = some (some (.ref f_law_mixed)))
    (l_law_mixed : K.lookup f_law_mixed = some ⟨oc_law_mixed, od_law_mixed, .func (PySem.W.fnOf "_law_mixed" "_law_mixed" (defArgs s__law_mixed) (defBody s__law_mixed) (defScope s__law_mixed) .none kV_law_mixed dc_law_mixed pm_law_mixed an_law_mixed cd_law_mixed ct_law_mixed), sl_law_mixed⟩)
    (c_law_mixed : PySem.W.codeIn K cd_law_mixed "_law_mixed" = true) (k_law_mixed : PySem.W.keepIn K (.ref f_law_mixed) = true)
    (a_law_source : PySem.W.nsIn K mainGlobals "_law_source" = some (some (.ref f_law_source)))
    (l_law_source : K.lookup f_law_source = some ⟨oc_law_source, od_law_source, .func (PySem.W.fnOf "_law_source" "_law_source" (defArgs s__law_source) (defBody s__law_source) (defScope s__law_source) .none kV_law_source dc_law_source pm_law_source an_law_source cd_law_source ct_law_source), sl_law_source⟩)
    (c_law_source : PySem.W.codeIn K cd_law_source "_law_source" = true) (k_law_source : PySem.W.keepIn K (.ref f_law_source) = true)
    (a_law_next : PySem.W.nsIn K mainGlobals "_law_next" = some (some (.ref f_law_next)))
    (l_law_next : K.lookup f_law_next = some ⟨oc_law_next, od_law_next, .func (PySem.W.fnOf "_law_next" "_law_next" (defArgs s__law_next) (defBody s__law_next) (defScope s__law_next) .none kV_law_next dc_law_next pm_law_next an_law_next cd_law_next ct_law_next), sl_law_next⟩)
    (c_law_next : PySem.W.codeIn K cd_law_next "_law_next" = true) (k_law_next : PySem.W.keepIn K (.ref f_law_next) = true)
    (a_law_is_front : PySem.W.nsIn K mainGlobals "_law_is_front" = some (some (.ref f_law_is_front)))
    (l_law_is_front : K.lookup f_law_is_front = some ⟨oc_law_is_front, od_law_is_front, .func (PySem.W.fnOf "_law_is_front" "_law_is_front" (defArgs s__law_is_front) (defBody s__law_is_front) (defScope s__law_is_front) .none kV_law_is_front dc_law_is_front pm_law_is_front an_law_is_front cd_law_is_front ct_law_is_front), sl_law_is_front⟩)
    (c_law_is_front : PySem.W.codeIn K cd_law_is_front "_law_is_front" = true) (k_law_is_front : PySem.W.keepIn K (.ref f_law_is_front) = true)
    (a_law_due : PySem.W.nsIn K mainGlobals "_law_due" = some (some (.ref f_law_due)))
    (l_law_due : K.lookup f_law_due = some ⟨oc_law_due, od_law_due, .func (PySem.W.fnOf "_law_due" "_law_due" (defArgs s__law_due) (defBody s__law_due) (defScope s__law_due) .none kV_law_due dc_law_due pm_law_due an_law_due cd_law_due ct_law_due), sl_law_due⟩)
    (c_law_due : PySem.W.codeIn K cd_law_due "_law_due" = true) (k_law_due : PySem.W.keepIn K (.ref f_law_due) = true)
    (a_law_words_of : PySem.W.nsIn K mainGlobals "_law_words_of" = some (some (.ref f_law_words_of)))
    (l_law_words_of : K.lookup f_law_words_of = some ⟨oc_law_words_of, od_law_words_of, .func (PySem.W.fnOf "_law_words_of" "_law_words_of" (defArgs s__law_words_of) (defBody s__law_words_of) (defScope s__law_words_of) .none kV_law_words_of dc_law_words_of pm_law_words_of an_law_words_of cd_law_words_of ct_law_words_of), sl_law_words_of⟩)
    (c_law_words_of : PySem.W.codeIn K cd_law_words_of "_law_words_of" = true) (k_law_words_of : PySem.W.keepIn K (.ref f_law_words_of) = true)
    (a_law : PySem.W.nsIn K mainGlobals "law" = some (some (.ref f_law)))
    (l_law : K.lookup f_law = some ⟨oc_law, od_law, .func (PySem.W.fnOf "law" "law" (defArgs s_law) (defBody s_law) (defScope s_law) .none kV_law dc_law pm_law an_law cd_law ct_law), sl_law⟩)
    (c_law : PySem.W.codeIn K cd_law "law" = true) (k_law : PySem.W.keepIn K (.ref f_law) = true)
    (z_isinstance : PySem.W.nsIn K mainGlobals "isinstance" = some none)
    (z_int : PySem.W.nsIn K mainGlobals "int" = some none)
    (z_bool : PySem.W.nsIn K mainGlobals "bool" = some none)
    (z_str : PySem.W.nsIn K mainGlobals "str" = some none)
    (z_all : PySem.W.nsIn K mainGlobals "all" = some none)
    (z_list : PySem.W.nsIn K mainGlobals "list" = some none)
    (z_len : PySem.W.nsIn K mainGlobals "len" = some none)
    (z_min : PySem.W.nsIn K mainGlobals "min" = some none)
    (z_max : PySem.W.nsIn K mainGlobals "max" = some none)
    (z_sorted : PySem.W.nsIn K mainGlobals "sorted" = some none)
    (z_range : PySem.W.nsIn K mainGlobals "range" = some none)
    (z_repr : PySem.W.nsIn K mainGlobals "repr" = some none)
    (a_WORDS : PySem.W.nsIn K mainGlobals "WORDS" = some (some (.ref f_WORDS)))
    (l_WORDS : K.lookup f_WORDS = some ⟨.type "tuple", od_WORDS, .seq #[.str "stack" tk0_WORDS, .str "queue" tk1_WORDS] tn_WORDS, ts_WORDS⟩)
    (a_MOST_LEVELS : PySem.W.nsIn K mainGlobals "MOST_LEVELS" = some (some (.int 60 tk_MOST_LEVELS)))
    : ∃ (fd : FuncData) (sp : Sp), (∀ (s : Shared) (u : Value), BindsTo s fd ⟨[u], []⟩ [("_law_script", u)]) ∧ (∀ (H : Hp) (a : Addr) (ns : List Int), ns.length ≤ 63 → SqL K H a (ns.map V.int) → sp [.ref a] H (fun v _ => v = .bl true) E0) ∧ ∀ base : Heap, K.In base → base.Ns mainGlobals mg → FnG l.prog w K mg base 6 fa fd ["_law_script"] sp := by
  have e := hfa.symm.trans (PySem.W.mg_of X G a_law)
  cases e
  have T : Tx K mg := ⟨PySem.W.mg_none_of X G z_isinstance, PySem.W.mg_none_of X G z_int, PySem.W.mg_none_of X G z_bool, PySem.W.mg_none_of X G z_str, PySem.W.mg_none_of X G z_all, PySem.W.mg_none_of X G z_list, PySem.W.mg_none_of X G z_len, PySem.W.mg_none_of X G z_min, PySem.W.mg_none_of X G z_max, PySem.W.mg_none_of X G z_sorted, PySem.W.mg_none_of X G z_range, PySem.W.mg_none_of X G z_repr⟩
  have h_WORDS : ∃ a, mg "WORDS" = some (.ref a) ∧ ∀ H, SqT K H a [.str "stack", .str "queue"] := ⟨f_WORDS, PySem.W.mg_of X G a_WORDS, fun H => .inr ⟨_, _, _, l_WORDS, rfl, rfl, by simp [sizeLine_eq], .cons ⟨_, rfl⟩ (.cons ⟨_, rfl⟩ (.nil))⟩⟩
  have h_MOST_LEVELS : mg "MOST_LEVELS" = some (.int 60 tk_MOST_LEVELS) := PySem.W.mg_of X G a_MOST_LEVELS
  have D_is_integer : Df K mg "is_integer" s_is_integer ["given"] := by
    have F := fun_mk (st := s_is_integer) l_is_integer c_is_integer k_is_integer
    exact ⟨_, _, F, PySem.W.mg_of X G a_is_integer, F.binds (ps := ["given"]) fun _ _ _ _ _ _ us hl => match us, hl with | [_], _ => rfl⟩
  have D_is_word : Df K mg "is_word" s_is_word ["given"] := by
    have F := fun_mk (st := s_is_word) l_is_word c_is_word k_is_word
    exact ⟨_, _, F, PySem.W.mg_of X G a_is_word, F.binds (ps := ["given"]) fun _ _ _ _ _ _ us hl => match us, hl with | [_], _ => rfl⟩
  have D_is_base : Df K mg "is_base" s_is_base ["given"] := by
    have F := fun_mk (st := s_is_base) l_is_base c_is_base k_is_base
    exact ⟨_, _, F, PySem.W.mg_of X G a_is_base, F.binds (ps := ["given"]) fun _ _ _ _ _ _ us hl => match us, hl with | [_], _ => rfl⟩
  have D_is_length : Df K mg "is_length" s_is_length ["given"] := by
    have F := fun_mk (st := s_is_length) l_is_length c_is_length k_is_length
    exact ⟨_, _, F, PySem.W.mg_of X G a_is_length, F.binds (ps := ["given"]) fun _ _ _ _ _ _ us hl => match us, hl with | [_], _ => rfl⟩
  have D_are_levels : Df K mg "are_levels" s_are_levels ["given"] := by
    have F := fun_mk (st := s_are_levels) l_are_levels c_are_levels k_are_levels
    exact ⟨_, _, F, PySem.W.mg_of X G a_are_levels, F.binds (ps := ["given"]) fun _ _ _ _ _ _ us hl => match us, hl with | [_], _ => rfl⟩
  have D_check_base : Df K mg "check_base" s_check_base ["base"] := by
    have F := fun_mk (st := s_check_base) l_check_base c_check_base k_check_base
    exact ⟨_, _, F, PySem.W.mg_of X G a_check_base, F.binds (ps := ["base"]) fun _ _ _ _ _ _ us hl => match us, hl with | [_], _ => rfl⟩
  have D_check_levels : Df K mg "check_levels" s_check_levels ["levels"] := by
    have F := fun_mk (st := s_check_levels) l_check_levels c_check_levels k_check_levels
    exact ⟨_, _, F, PySem.W.mg_of X G a_check_levels, F.binds (ps := ["levels"]) fun _ _ _ _ _ _ us hl => match us, hl with | [_], _ => rfl⟩
  have D_word_at : Df K mg "word_at" s_word_at ["levels", "level"] := by
    have F := fun_mk (st := s_word_at) l_word_at c_word_at k_word_at
    exact ⟨_, _, F, PySem.W.mg_of X G a_word_at, F.binds (ps := ["levels", "level"]) fun _ _ _ _ _ _ us hl => match us, hl with | [_, _], _ => rfl⟩
  have D_level_and_size : Df K mg "level_and_size" s_level_and_size ["base", "now", "due"] := by
    have F := fun_mk (st := s_level_and_size) l_level_and_size c_level_and_size k_level_and_size
    exact ⟨_, _, F, PySem.W.mg_of X G a_level_and_size, F.binds (ps := ["base", "now", "due"]) fun _ _ _ _ _ _ us hl => match us, hl with | [_, _, _], _ => rfl⟩
  have D_path : Df K mg "path" s_path ["base", "now", "due"] := by
    have F := fun_mk (st := s_path) l_path c_path k_path
    exact ⟨_, _, F, PySem.W.mg_of X G a_path, F.binds (ps := ["base", "now", "due"]) fun _ _ _ _ _ _ us hl => match us, hl with | [_, _, _], _ => rfl⟩
  have D_goes_in_front : Df K mg "goes_in_front" s_goes_in_front ["base", "levels", "now", "due", "lowest"] := by
    have F := fun_mk (st := s_goes_in_front) l_goes_in_front c_goes_in_front k_goes_in_front
    exact ⟨_, _, F, PySem.W.mg_of X G a_goes_in_front, F.binds (ps := ["base", "levels", "now", "due", "lowest"]) fun _ _ _ _ _ _ us hl => match us, hl with | [_, _, _, _, _], _ => rfl⟩
  have D_size_of_lowest_stack : Df K mg "size_of_lowest_stack" s_size_of_lowest_stack ["base", "levels"] := by
    have F := fun_mk (st := s_size_of_lowest_stack) l_size_of_lowest_stack c_size_of_lowest_stack k_size_of_lowest_stack
    exact ⟨_, _, F, PySem.W.mg_of X G a_size_of_lowest_stack, F.binds (ps := ["base", "levels"]) fun _ _ _ _ _ _ us hl => match us, hl with | [_, _], _ => rfl⟩
  have D_powers : Df K mg "powers" s_powers ["base", "many"] := by
    have F := fun_mk (st := s_powers) l_powers c_powers k_powers
    exact ⟨_, _, F, PySem.W.mg_of X G a_powers, F.binds (ps := ["base", "many"]) fun _ _ _ _ _ _ us hl => match us, hl with | [_, _], _ => rfl⟩
  have D_telling_dues : Df K mg "telling_dues" s_telling_dues ["base", "levels", "other_base", "other_levels"] := by
    have F := fun_mk (st := s_telling_dues) l_telling_dues c_telling_dues k_telling_dues
    exact ⟨_, _, F, PySem.W.mg_of X G a_telling_dues, F.binds (ps := ["base", "levels", "other_base", "other_levels"]) fun _ _ _ _ _ _ us hl => match us, hl with | [_, _, _, _], _ => rfl⟩
  have D_first_difference : Df K mg "first_difference" s_first_difference ["base", "levels", "other_base", "other_levels", "due"] := by
    have F := fun_mk (st := s_first_difference) l_first_difference c_first_difference k_first_difference
    exact ⟨_, _, F, PySem.W.mg_of X G a_first_difference, F.binds (ps := ["base", "levels", "other_base", "other_levels", "due"]) fun _ _ _ _ _ _ us hl => match us, hl with | [_, _, _, _, _], _ => rfl⟩
  have D_told_apart : Df K mg "told_apart" s_told_apart ["base", "levels", "other_base", "other_levels"] := by
    have F := fun_mk (st := s_told_apart) l_told_apart c_told_apart k_told_apart
    exact ⟨_, _, F, PySem.W.mg_of X G a_told_apart, F.binds (ps := ["base", "levels", "other_base", "other_levels"]) fun _ _ _ _ _ _ us hl => match us, hl with | [_, _, _, _], _ => rfl⟩
  have D_law_cell_at : Df K mg "_law_cell_at" s__law_cell_at ["_law_script", "_law_k"] := by
    have F := fun_mk (st := s__law_cell_at) l_law_cell_at c_law_cell_at k_law_cell_at
    exact ⟨_, _, F, PySem.W.mg_of X G a_law_cell_at, F.binds (ps := ["_law_script", "_law_k"]) fun _ _ _ _ _ _ us hl => match us, hl with | [_, _], _ => rfl⟩
  have D_law_mixed : Df K mg "_law_mixed" s__law_mixed ["_law_cell", "_law_k"] := by
    have F := fun_mk (st := s__law_mixed) l_law_mixed c_law_mixed k_law_mixed
    exact ⟨_, _, F, PySem.W.mg_of X G a_law_mixed, F.binds (ps := ["_law_cell", "_law_k"]) fun _ _ _ _ _ _ us hl => match us, hl with | [_, _], _ => rfl⟩
  have D_law_source : Df K mg "_law_source" s__law_source ["_law_script", "_law_k"] := by
    have F := fun_mk (st := s__law_source) l_law_source c_law_source k_law_source
    exact ⟨_, _, F, PySem.W.mg_of X G a_law_source, F.binds (ps := ["_law_script", "_law_k"]) fun _ _ _ _ _ _ us hl => match us, hl with | [_, _], _ => rfl⟩
  have D_law_next : Df K mg "_law_next" s__law_next ["_law_source_here", "_law_many"] := by
    have F := fun_mk (st := s__law_next) l_law_next c_law_next k_law_next
    exact ⟨_, _, F, PySem.W.mg_of X G a_law_next, F.binds (ps := ["_law_source_here", "_law_many"]) fun _ _ _ _ _ _ us hl => match us, hl with | [_, _], _ => rfl⟩
  have D_law_is_front : Df K mg "_law_is_front" s__law_is_front ["_law_base", "_law_levels", "_law_now", "_law_due_here"] := by
    have F := fun_mk (st := s__law_is_front) l_law_is_front c_law_is_front k_law_is_front
    exact ⟨_, _, F, PySem.W.mg_of X G a_law_is_front, F.binds (ps := ["_law_base", "_law_levels", "_law_now", "_law_due_here"]) fun _ _ _ _ _ _ us hl => match us, hl with | [_, _, _, _], _ => rfl⟩
  have D_law_due : Df K mg "_law_due" s__law_due ["_law_one", "_law_two"] := by
    have F := fun_mk (st := s__law_due) l_law_due c_law_due k_law_due
    exact ⟨_, _, F, PySem.W.mg_of X G a_law_due, F.binds (ps := ["_law_one", "_law_two"]) fun _ _ _ _ _ _ us hl => match us, hl with | [_, _], _ => rfl⟩
  have D_law_words_of : Df K mg "_law_words_of" s__law_words_of ["_law_source_here"] := by
    have F := fun_mk (st := s__law_words_of) l_law_words_of c_law_words_of k_law_words_of
    exact ⟨_, _, F, PySem.W.mg_of X G a_law_words_of, F.binds (ps := ["_law_source_here"]) fun _ _ _ _ _ _ us hl => match us, hl with | [_], _ => rfl⟩
  have D_law : Df K mg "law" s_law ["_law_script"] := by
    have F := fun_mk (st := s_law) l_law c_law k_law
    exact ⟨_, _, F, PySem.W.mg_of X G a_law, F.binds (ps := ["_law_script"]) fun _ _ _ _ _ _ us hl => match us, hl with | [_], _ => rfl⟩
  refine ⟨PySem.W.fnOf "law" "law" (defArgs s_law) (defBody s_law) (defScope s_law) .none kV_law dc_law pm_law an_law cd_law ct_law, spLaw K, fun s v => .of_eq rfl, fun H a ns h1 h2 => ⟨a, ns, rfl, h2, h1, fun _ => rfl⟩, fun base _ _ => ?_⟩
  have h_is_integer : Has l.prog w K mg base 1 "is_integer" ["given"] [] spIsInt := D_is_integer.has fun _ _ F => ok_is_integer F T
  have h_is_base : Has l.prog w K mg base 2 "is_base" ["given"] [] spIsBase := D_is_base.has fun _ _ F => ok_is_base F h_is_integer
  have h_check_base : Has l.prog w K mg base 3 "check_base" ["base"] [] spCheckBase := D_check_base.has fun _ _ F => ok_check_base F h_is_base
  have h_level_and_size : Has l.prog w K mg base 1 "level_and_size" ["base", "now", "due"] [] spLevel := D_level_and_size.has fun _ _ F => ok_level_and_size F 
  have h_path : Has l.prog w K mg base 2 "path" ["base", "now", "due"] [] spPath := D_path.has fun _ _ F => ok_path F h_level_and_size
  have h_word_at : Has l.prog w K mg base 1 "word_at" ["levels", "level"] [] (spWordAt K) := D_word_at.has fun _ _ F => ok_word_at F T
  have h_is_word : Has l.prog w K mg base 1 "is_word" ["given"] [] spIsWord := D_is_word.has fun _ _ F => ok_is_word F T h_WORDS
  have h_is_length : Has l.prog w K mg base 2 "is_length" ["given"] [] spIsLength := D_is_length.has fun _ _ F => ok_is_length F ⟨_, h_MOST_LEVELS⟩ h_is_integer
  have h_are_levels : Has l.prog w K mg base 3 "are_levels" ["given"] [] (spAreLevels K) := D_are_levels.has fun _ _ F => ok_are_levels F T h_is_length h_is_word
  have h_check_levels : Has l.prog w K mg base 4 "check_levels" ["levels"] [] (spCheckLevels K) := D_check_levels.has fun _ _ F => ok_check_levels F h_are_levels
  have h_goes_in_front : Has l.prog w K mg base 3 "goes_in_front" ["base", "levels", "now", "due", "lowest"] [] (spFront K) := D_goes_in_front.has fun _ _ F => ok_goes_in_front F h_path h_word_at
  have h_size_of_lowest_stack : Has l.prog w K mg base 1 "size_of_lowest_stack" ["base", "levels"] [] (spLow K) := D_size_of_lowest_stack.has fun _ _ F => ok_size_of_lowest_stack F 
  have h_powers : Has l.prog w K mg base 1 "powers" ["base", "many"] [] spPowers := D_powers.has fun _ _ F => ok_powers F T
  have h_telling_dues : Has l.prog w K mg base 2 "telling_dues" ["base", "levels", "other_base", "other_levels"] [] (spTelling K) := D_telling_dues.has fun _ _ F => ok_telling_dues F T h_powers h_size_of_lowest_stack
  have h_first_difference : Has l.prog w K mg base 4 "first_difference" ["base", "levels", "other_base", "other_levels", "due"] [] (spFstD K) := D_first_difference.has fun _ _ F => ok_first_difference F T h_path h_goes_in_front
  have h_told_apart : Has l.prog w K mg base 5 "told_apart" ["base", "levels", "other_base", "other_levels"] [] (spTold K) := D_told_apart.has fun _ _ F => ok_told_apart F h_check_base h_check_levels h_telling_dues h_first_difference
  have h_law_is_front : Has l.prog w K mg base 1 "_law_is_front" ["_law_base", "_law_levels", "_law_now", "_law_due_here"] [] (spLawFront K) := D_law_is_front.has fun _ _ F => ok_law_front F T
  have h_law_cell_at : Has l.prog w K mg base 1 "_law_cell_at" ["_law_script", "_law_k"] [] (spCellAt K) := D_law_cell_at.has fun _ _ F => ok_cell_at F T
  have h_law_mixed : Has l.prog w K mg base 1 "_law_mixed" ["_law_cell", "_law_k"] [] spMixed := D_law_mixed.has fun _ _ F => ok_mixed F 
  have h_law_source : Has l.prog w K mg base 2 "_law_source" ["_law_script", "_law_k"] [] (spSource K) := D_law_source.has fun _ _ F => ok_source F T h_law_cell_at h_law_mixed
  have h_law_next : Has l.prog w K mg base 2 "_law_next" ["_law_source_here", "_law_many"] [] spNext := D_law_next.has fun _ _ F => ok_next F h_law_mixed
  have h_law_due : Has l.prog w K mg base 2 "_law_due" ["_law_one", "_law_two"] [] (spLawDue K) := D_law_due.has fun _ _ F => ok_law_due F T h_law_is_front
  have h_law_words_of : Has l.prog w K mg base 3 "_law_words_of" ["_law_source_here"] [] spWordsOf := D_law_words_of.has fun _ _ F => ok_words_of F T h_law_next
  exact ok_law (funC_mk (st := s_law) l_law c_law k_law) T h_law_source h_law_next h_law_words_of h_law_due h_told_apart
end Td
open PySem PySem.W PyProof.Rows in
set_option maxRecDepth 100000 in
set_option maxHeartbeats 0 in
theorem PySem.Challenge.cw_timerdeque_k28_wheels_compared_gone_thro_holds : PySem.Challenge.rw_timerdeque_k28_wheels_compared_gone_thro.Holds := by
  w_on; o_law; k_head; (case hw => w_witness2)
  k_fill
  refine Td.walk_guard (l := PySem.Challenge.rw_timerdeque_k28_wheels_compared_gone_thro) (n := 63) (k := 6) (x := "_law_script") rfl (by decide) rfl ⟨rfl, by decide, by decide⟩ (fun w h Y => PySem.W.kIn_of Y) ?F
  case F =>
    intro w mg fa h KX G hmg
    refine' Td.all_mk KX G hmg ?a_is_integer ?l_is_integer ?c_is_integer ?k_is_integer ?a_is_word ?l_is_word ?c_is_word ?k_is_word ?a_is_base ?l_is_base ?c_is_base ?k_is_base ?a_is_length ?l_is_length ?c_is_length ?k_is_length ?a_are_levels ?l_are_levels ?c_are_levels ?k_are_levels ?a_check_base ?l_check_base ?c_check_base ?k_check_base ?a_check_levels ?l_check_levels ?c_check_levels ?k_check_levels ?a_word_at ?l_word_at ?c_word_at ?k_word_at ?a_level_and_size ?l_level_and_size ?c_level_and_size ?k_level_and_size ?a_path ?l_path ?c_path ?k_path ?a_goes_in_front ?l_goes_in_front ?c_goes_in_front ?k_goes_in_front ?a_size_of_lowest_stack ?l_size_of_lowest_stack ?c_size_of_lowest_stack ?k_size_of_lowest_stack ?a_powers ?l_powers ?c_powers ?k_powers ?a_telling_dues ?l_telling_dues ?c_telling_dues ?k_telling_dues ?a_first_difference ?l_first_difference ?c_first_difference ?k_first_difference ?a_told_apart ?l_told_apart ?c_told_apart ?k_told_apart ?a_law_cell_at ?l_law_cell_at ?c_law_cell_at ?k_law_cell_at ?a_law_mixed ?l_law_mixed ?c_law_mixed ?k_law_mixed ?a_law_source ?l_law_source ?c_law_source ?k_law_source ?a_law_next ?l_law_next ?c_law_next ?k_law_next ?a_law_is_front ?l_law_is_front ?c_law_is_front ?k_law_is_front ?a_law_due ?l_law_due ?c_law_due ?k_law_due ?a_law_words_of ?l_law_words_of ?c_law_words_of ?k_law_words_of ?a_law ?l_law ?c_law ?k_law ?z_isinstance ?z_int ?z_bool ?z_str ?z_all ?z_list ?z_len ?z_min ?z_max ?z_sorted ?z_range ?z_repr ?a_WORDS ?l_WORDS ?a_MOST_LEVELS
    (case a_is_integer => k_is)
    (case l_is_integer => k_is)
    (case c_is_integer => k_is)
    (case k_is_integer => k_is)
    (case a_is_word => k_is)
    (case l_is_word => k_is)
    (case c_is_word => k_is)
    (case k_is_word => k_is)
    (case a_is_base => k_is)
    (case l_is_base => k_is)
    (case c_is_base => k_is)
    (case k_is_base => k_is)
    (case a_is_length => k_is)
    (case l_is_length => k_is)
    (case c_is_length => k_is)
    (case k_is_length => k_is)
    (case a_are_levels => k_is)
    (case l_are_levels => k_is)
    (case c_are_levels => k_is)
    (case k_are_levels => k_is)
    (case a_check_base => k_is)
    (case l_check_base => k_is)
    (case c_check_base => k_is)
    (case k_check_base => k_is)
    (case a_check_levels => k_is)
    (case l_check_levels => k_is)
    (case c_check_levels => k_is)
    (case k_check_levels => k_is)
    (case a_word_at => k_is)
    (case l_word_at => k_is)
    (case c_word_at => k_is)
    (case k_word_at => k_is)
    (case a_level_and_size => k_is)
    (case l_level_and_size => k_is)
    (case c_level_and_size => k_is)
    (case k_level_and_size => k_is)
    (case a_path => k_is)
    (case l_path => k_is)
    (case c_path => k_is)
    (case k_path => k_is)
    (case a_goes_in_front => k_is)
    (case l_goes_in_front => k_is)
    (case c_goes_in_front => k_is)
    (case k_goes_in_front => k_is)
    (case a_size_of_lowest_stack => k_is)
    (case l_size_of_lowest_stack => k_is)
    (case c_size_of_lowest_stack => k_is)
    (case k_size_of_lowest_stack => k_is)
    (case a_powers => k_is)
    (case l_powers => k_is)
    (case c_powers => k_is)
    (case k_powers => k_is)
    (case a_telling_dues => k_is)
    (case l_telling_dues => k_is)
    (case c_telling_dues => k_is)
    (case k_telling_dues => k_is)
    (case a_first_difference => k_is)
    (case l_first_difference => k_is)
    (case c_first_difference => k_is)
    (case k_first_difference => k_is)
    (case a_told_apart => k_is)
    (case l_told_apart => k_is)
    (case c_told_apart => k_is)
    (case k_told_apart => k_is)
    (case a_law_cell_at => k_is)
    (case l_law_cell_at => k_is)
    (case c_law_cell_at => k_is)
    (case k_law_cell_at => k_is)
    (case a_law_mixed => k_is)
    (case l_law_mixed => k_is)
    (case c_law_mixed => k_is)
    (case k_law_mixed => k_is)
    (case a_law_source => k_is)
    (case l_law_source => k_is)
    (case c_law_source => k_is)
    (case k_law_source => k_is)
    (case a_law_next => k_is)
    (case l_law_next => k_is)
    (case c_law_next => k_is)
    (case k_law_next => k_is)
    (case a_law_is_front => k_is)
    (case l_law_is_front => k_is)
    (case c_law_is_front => k_is)
    (case k_law_is_front => k_is)
    (case a_law_due => k_is)
    (case l_law_due => k_is)
    (case c_law_due => k_is)
    (case k_law_due => k_is)
    (case a_law_words_of => k_is)
    (case l_law_words_of => k_is)
    (case c_law_words_of => k_is)
    (case k_law_words_of => k_is)
    (case a_law => k_is)
    (case l_law => k_is)
    (case c_law => k_is)
    (case k_law => k_is)
    (case z_isinstance => k_is)
    (case z_int => k_is)
    (case z_bool => k_is)
    (case z_str => k_is)
    (case z_all => k_is)
    (case z_list => k_is)
    (case z_len => k_is)
    (case z_min => k_is)
    (case z_max => k_is)
    (case z_sorted => k_is)
    (case z_range => k_is)
    (case z_repr => k_is)
    (case a_WORDS => k_is)
    (case l_WORDS => k_is)
    (case a_MOST_LEVELS => k_is)
