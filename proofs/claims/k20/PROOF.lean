import PyProof.Rows.All
import Wide.All
import OpenK.AllK
import Wide.FinOn
import HandS.ForMost
import HandS.IsInst
import HandS.Wide
import HandS.WideBits
import HandS.Iter
import HandS.NoneIn
import PyProof.LongRange
import HandS.Defaults
import HandS.Zip
import HandS.Flow
import HandS.SortKw
import HandS.SortOrd
import KE.DatumOrd
import PySem.Challenge.RW_timerdeque_k20_common_ticks
set_option Elab.async false
set_option linter.all false
set_option maxRecDepth 100000
set_option maxHeartbeats 4000000
set_option exponentiation.threshold 10000
namespace Td
open PySem PySem.Spec PyProof.Rows L2
/-! ### small things: promises by name, heaps, numbers -/
section
variable {P : Program} {w : World} {K : PySem.W.Frag} {mg : Str → Option Value} {base : Heap}
/-- the module's name x holds a def that keeps the promise sp, its last parameters filled up by dvs -/
def Has (P : Program) (w : World) (K : PySem.W.Frag) (mg : Str → Option Value) (base : Heap) (k : Nat) (x : Str) (ps : List Str) (dvs : List V) (sp : Sp) : Prop :=
  ∃ (f : Addr) (fd : FuncData) (ds : List Value), FnOk P w K mg base CX0 k f fd ps sp ∧ mg x = some (.ref f) ∧ PySem.W.keepIn K (.ref f) = true ∧ Binds K fd ps ds ∧ Vals dvs ds
/-- what the top says of a def without defaults -/
def Df (K : PySem.W.Frag) (mg : Str → Option Value) (x : Str) (st : Stmt) (ps : List Str) : Prop :=
  ∃ (f : Addr) (fd : FuncData), Fun K x x st f fd ∧ mg x = some (.ref f) ∧ Binds K fd ps []
theorem Df.has {k : Nat} {x : Str} {st : Stmt} {ps : List Str} {sp : Sp} (D : Df K mg x st ps) (ok : ∀ f fd, Fun K x x st f fd → FnOk P w K mg base CX0 k f fd ps sp) : Has P w K mg base k x ps [] sp := by
  obtain ⟨f, fd, F, m, b⟩ := D
  exact ⟨f, fd, [], ok f fd F, m, F.kp, b, .nil⟩
/-- a def with one default, the last parameter's -/
def Dd (K : PySem.W.Frag) (mg : Str → Option Value) (x : Str) (st : Stmt) (ps : List Str) (d : V) : Prop :=
  ∃ (f : Addr) (fd : FuncData), FunD K x x (defArgs st) (defBody st) (defScope st) [d] [] f fd ∧ mg x = some (.ref f) ∧ (∃ ds, Vals [d] ds ∧ Binds K fd ps ds) ∧ Binds K fd ps []
theorem Dd.has {k : Nat} {x : Str} {st : Stmt} {ps : List Str} {d : V} {sp : Sp} (D : Dd K mg x st ps d) (ok : ∀ f fd, FunD K x x (defArgs st) (defBody st) (defScope st) [d] [] f fd → FnOk P w K mg base CX0 k f fd ps sp) :
    Has P w K mg base k x ps [d] sp ∧ Has P w K mg base k x ps [] sp := by
  obtain ⟨f, fd, F, m, ⟨ds, r, b⟩, b0⟩ := D
  exact ⟨⟨f, fd, ds, ok f fd F, m, F.kp, b, r⟩, ⟨f, fd, [], ok f fd F, m, F.kp, b0, .nil⟩⟩
end
section
variable {X : Cx}
/-- a product of which one side is small, or both are not too great -/
def CMulA (i j : Int) : Prop := IntMulOk i j
theorem op_mulA : OpR X (binaryOp .Mult) (rI CMulA fun i j => .int (i * j)) := opI fun _ _ _ _ _ _ _ hc q => mul_int q hc
end
/-! x *= e, ints -/
section
variable {X : Cx}
def ipC (C : Int → Int → Prop) (f : Int → Int → Int) : TIp := fun x y H Q => ∃ i j, x = .int i ∧ y = .int j ∧ C i j ∧ Q (.int (f i j)) H
theorem ip_mulA : PIp X .Mult (ipC CMulA fun i j => i * j) := by
  intro pins s σ H x y v u Q I r1 r2 h
  obtain ⟨i, j, rfl, rfl, hm, q⟩ := h
  obtain ⟨t, rfl⟩ := r1
  obtain ⟨t', rfl⟩ := r2
  exact imul_int ⟨.int _, H, I.tok _, ⟨_, rfl⟩, q⟩ hm
end
theorem mul_l {i j : Int} (h1 : -(2 ^ 64) < i) (h2 : i < 2 ^ 64) : CMulA i j := CMul.ok (.inl ⟨h1, h2⟩)
theorem mul_r {i j : Int} (h1 : -(2 ^ 64) < j) (h2 : j < 2 ^ 64) : CMulA i j := CMul.ok (.inr ⟨h1, h2⟩)
theorem mul_w {i j : Int} (a b : Nat) (ha : i.natAbs < 2 ^ a) (hb : j.natAbs < 2 ^ b) (h0 : 0 < a := by decide) (h1 : 0 < b := by decide) (h : a + b ≤ 1000000 := by decide) : CMulA i j := (wide_mul ha hb h0 h1 h).ok
theorem div_s {i j : Int} (h : 0 < j) (h2 : j < 2 ^ 300) : CDivW i j := wide_div (b := 300) h (by omega) (by decide) (by decide)
theorem div_b {i j : Int} (b : Nat) (h : 0 < j) (h2 : j < 2 ^ b) (h0 : 0 < b := by decide) (h9 : b ≤ 9000 := by decide) : CDivW i j := by
  refine wide_div (b := b) h ?_ h0 h9
  have e : ((2 ^ b : Nat) : Int) = (2 : Int) ^ b := by
    rw [Int.natCast_pow]
    rfl
  omega
theorem same_upd {H : Hp} {p : Addr} {o : HO} (h : H p = none) : Same H (upd H p o) := fun b x e => by
  rw [upd_ne (ne_of_none e h)]
  exact e
theorem sizeLine_ge {n : Nat} (h : n ≤ 1000000) : n < sizeLine := by
  rw [sizeLine_eq]
  omega
theorem sizeLine_le {n : Nat} (h : n ≤ 1000000) : n ≤ sizeLine := Nat.le_of_lt (sizeLine_ge h)
theorem pos_of {a c : Nat} (h : a ≤ c) (n : ¬ a = c) : 0 < c := by omega
/-! ### operators on numbers that are not negative -/
def rN (C : Nat → Nat → Prop) (g : Nat → Nat → Nat) : R2 := fun x y H Q => ∃ a b : Nat, x = .int (a : Nat) ∧ y = .int (b : Nat) ∧ C a b ∧ Q (.int ((g a b : Nat) : Int)) H
section
variable {X : Cx}
theorem opN {f : Value → Value → Sem Value} {C : Nat → Nat → Prop} {g : Nat → Nat → Nat} {CI : Int → Int → Prop} {gI : Int → Int → V} (h : OpR X f (rI CI gI)) (e : ∀ a b : Nat, C a b → CI (a : Nat) (b : Nat) ∧ gI (a : Nat) (b : Nat) = .int ((g a b : Nat) : Int)) : OpR X f (rN C g) := by
  intro pins s σ H x y v u Q I rx ry hq
  obtain ⟨a, b, ex, ey, hc, q⟩ := hq
  obtain ⟨h1, h2⟩ := e a b hc
  exact h pins s σ H x y v u Q I rx ry ⟨_, _, ex, ey, h1, by rw [h2]; exact q⟩
theorem opN0 {f : Value → Value → Sem Value} {C : Nat → Nat → Prop} {g : Nat → Nat → Nat} {gI : Int → Int → V} (h : OpR X f (rI0 gI)) (e : ∀ a b : Nat, C a b → gI (a : Nat) (b : Nat) = .int ((g a b : Nat) : Int)) : OpR X f (rN C g) := by
  intro pins s σ H x y v u Q I rx ry hq
  obtain ⟨a, b, ex, ey, hc, q⟩ := hq
  exact h pins s σ H x y v u Q I rx ry ⟨_, _, ex, ey, by rw [e a b hc]; exact q⟩
def NDiv (_ b : Nat) : Prop := 0 < b ∧ b < 2 ^ 9000
def NMod (_ b : Nat) : Prop := 0 < b
def NSub (a b : Nat) : Prop := b ≤ a
def NMul (a b : Nat) : Prop := IntMulOk (a : Int) (b : Int)
def NAny (_ _ : Nat) : Prop := True
theorem op_divN : OpR X (binaryOp .FloorDiv) (rN NDiv fun a b => a / b) := opN op_fdivW fun a b h => ⟨wide_div (b := 9000) (Int.natCast_pos.mpr h.1) h.2 (by decide) (Nat.le_refl _), rfl⟩
theorem op_remN : OpR X (binaryOp .Mod) (rN NMod fun a b => a % b) := opN op_mod fun a b h => ⟨Int.natCast_pos.mpr h, rfl⟩
theorem op_mulN : OpR X (binaryOp .Mult) (rN NMul fun a b => a * b) := opN op_mulA fun a b h => ⟨h, congrArg V.int (Int.natCast_mul a b).symm⟩
theorem op_addN : OpR X (binaryOp .Add) (rN NAny fun a b => a + b) := opN0 op_add fun _ _ _ => rfl
theorem op_subN : OpR X (binaryOp .Sub) (rN NSub fun a b => a - b) := opN0 op_sub fun a b h => congrArg V.int (Int.natCast_sub h).symm
end
theorem ndiv {a b : Nat} (t : Nat) (h : 0 < b) (h2 : b < 2 ^ t) (ht : t ≤ 9000 := by decide) : NDiv a b := ⟨h, Nat.lt_of_lt_of_le h2 (Nat.pow_le_pow_right (by decide) ht)⟩
theorem nmul_l {a b : Nat} (h : a < 2 ^ 64) : NMul a b := mul_l (by omega) (by omega)
theorem nmul_r {a b : Nat} (h : b < 2 ^ 64) : NMul a b := mul_r (by omega) (by omega)
theorem nmul_w {a b : Nat} (i j : Nat) (ha : a < 2 ^ i) (hb : b < 2 ^ j) (h0 : 0 < i := by decide) (h1 : 0 < j := by decide) (h : i + j ≤ 1000000 := by decide) : NMul a b := mul_w i j ha hb h0 h1 h
theorem int_ne {a b : Nat} (h : a ≠ b) : decide (V.int (a : Nat) = V.int (b : Nat)) = false := decide_eq_false fun e => h (Int.ofNat.inj (V.int.inj e))
theorem dT {p : Prop} [Decidable p] (h : p) : V.bl (decide p) = V.bl true := congrArg V.bl (decide_eq_true h)
theorem dF {p : Prop} [Decidable p] (h : ¬ p) : V.bl (decide p) = V.bl false := congrArg V.bl (decide_eq_false h)
theorem nT {p : Prop} [Decidable p] (h : ¬ p) : V.bl (!decide p) = V.bl true := congrArg V.bl (congrArg (!·) (decide_eq_false h))
theorem nF {p : Prop} [Decidable p] (h : p) : V.bl (!decide p) = V.bl false := congrArg V.bl (congrArg (!·) (decide_eq_true h))
theorem vN {a b : Nat} (h : a ≠ b) : ¬ V.int (a : Nat) = V.int (b : Nat) := fun e => h (Int.ofNat.inj (V.int.inj e))
theorem vE {a b : Nat} (h : a = b) : V.int (a : Nat) = V.int (b : Nat) := congrArg (fun c : Nat => V.int (c : Nat)) h
theorem vI {a b : Int} (h : a ≠ b) : ¬ V.int a = V.int b := fun e => h (V.int.inj e)
/-! ### rules with the written part named (within a comprehension's block) -/
section
variable {X : Cx} {K : PySem.W.Frag}
theorem ix_tupK (e : X.K = K) : IxR X (rIxT K) := by subst e; exact ix_tup
theorem ix_listK (e : X.K = K) : IxR X (rIxL K) := by subst e; exact ix_list
theorem sl_tupK (e : X.K = K) : SlR X (rSlT K) := by subst e; exact sl_tup
theorem sl_listK (e : X.K = K) : SlR X (rSlL K) := by subst e; exact sl_list
theorem op_eqK (e : X.K = K) (hu : X.A.units + 64 < cLine) : OpR X (compareOp .Eq) (rEqD K) := by subst e; exact op_eqD hu
theorem op_neK (e : X.K = K) (hu : X.A.units + 64 < cLine) : OpR X (compareOp .NotEq) (rNeD K) := by subst e; exact op_neD hu
theorem isiK (e : X.K = K) : CallR X (.builtin "isinstance") (rIsi K) := by subst e; exact call_isi
def rLenK (K : PySem.W.Frag) : List V → Hp → VK → Prop := fun xs H Q => ∃ p ys, xs = [.ref p] ∧ (SqL K H p ys ∨ SqT K H p ys) ∧ Q (.int ys.length) H
theorem lenK (e : X.K = K) : CallR X (.builtin "len") (rLenK K) := by subst e; exact call_len_seq
theorem allK (e : X.K = K) (hc : X.calm = true) : CallR X (.builtin "all") (rAll K) := by subst e; exact cr_all hc
theorem sumK (e : X.K = K) (hc : X.calm = true) : CallR X (.builtin "sum") (rSum K) := by subst e; exact cr_sum hc
theorem maxK (e : X.K = K) (hc : X.calm = true) : CallR X (.builtin "max") (rMax K) := by subst e; exact cr_max hc
theorem minK (e : X.K = K) (hc : X.calm = true) : CallR X (.builtin "min") (rMin K) := by subst e; exact cr_min hc
theorem anyK (e : X.K = K) (hc : X.calm = true) : CallR X (.builtin "any") (rAny K) := by subst e; exact cr_any hc
end
section
variable {X : Cx} {K : PySem.W.Frag}
theorem ix_ltK (e : X.K = K) : IxR X (fun x y H Q => rIxL K x y H Q ∨ rIxT K x y H Q) := by subst e; exact ix_list.or ix_tup
theorem pe_orTK {a b : Expr} {ta tb : TE} {rest : List Expr} {pos : Pos} (e : X.K = K) (ha : PE X a ta) (hb : PE X (.BoolOp .Or (b :: rest) pos) tb) : PE X (.BoolOp .Or (a :: b :: rest) pos) (tOrT K ta tb) := by subst e; exact pe_orT ha hb
end
theorem yesT {σ : L2.St} {H : Hp} {Q : Bool → Hp → Prop} (h : Q true H) : tYes σ H Q := h
section
variable {X : Cx} {K : PySem.W.Frag}
theorem pg_tupK {es : List Expr} {k : Nat} {t : TGs} {n : Nat} {pos : Pos} (e : X.K = K) (hc : X.calm = true) (h : PGs X es t)
    (hn : (assignEach es X.env).length = n := by rfl) (hst : (assignEach es X.env).findIdx? (·.1) = none := by rfl) : PG X (.Tuple es k pos) (gTup K n t) := by
  subst e
  exact pg_tup hc h hn hst
end
theorem tyx_list {K : PySem.W.Frag} {H : Hp} {a : Addr} {xs : List V} (h : SqL K H a xs) : TyX K H (.ref a) (.type "list") := by
  rcases h with (h | ⟨o, h⟩) | ⟨o, its, n, h, hc, _⟩
  · exact .base (.lst h)
  · exact .base (.frz h)
  · exact .kList h hc
/-- max and min of two numbers that are not negative -/
def rNN (g : Nat → Nat → Nat) : List V → Hp → VK → Prop := fun xs H Q => ∃ a b : Nat, xs = [.int (a : Nat), .int (b : Nat)] ∧ Q (.int ((g a b : Nat) : Int)) H
section
variable {X : Cx}
theorem max2N (hc : X.calm = true) : CallR X (.builtin "max") (rNN max) := by
  intro pins s σ H xs us Q I r h
  obtain ⟨a, b, rfl, q⟩ := h
  refine call_max2 hc pins s σ H _ us Q I r ⟨_, _, rfl, ?_⟩
  have e : (if (b : Int) > (a : Int) then (b : Int) else (a : Int)) = ((max a b : Nat) : Int) := by split <;> omega
  rw [e]
  exact q
theorem max0N (hc : X.calm = true) : CallR X (.builtin "max") (fun xs H Q => ∃ (z : Int) (n : Nat), xs = [.int 0, .int z] ∧ (if z > 0 then z else 0) = (n : Int) ∧ Q (.int (n : Nat)) H) := by
  intro pins s σ H xs us Q I r h
  obtain ⟨z, n, rfl, e, q⟩ := h
  refine call_max2 hc pins s σ H _ us Q I r ⟨0, z, rfl, ?_⟩
  rw [e]
  exact q
theorem min2N (hc : X.calm = true) : CallR X (.builtin "min") (rNN min) := by
  intro pins s σ H xs us Q I r h
  obtain ⟨a, b, rfl, q⟩ := h
  refine call_min2 hc pins s σ H _ us Q I r ⟨_, _, rfl, ?_⟩
  have e : (if (b : Int) < (a : Int) then (b : Int) else (a : Int)) = ((min a b : Nat) : Int) := by split <;> omega
  rw [e]
  exact q
end
/-- one rest behind several ways -/
theorem cut_at {α : Type} {I : α → Hp → Prop} {G : Prop} (R : α → Hp → Prop) (h1 : (∀ a H, I a H → R a H) → G) (h2 : ∀ a H, I a H → R a H) : G := h1 h2
theorem cut_rest {I : Hp → Prop} {G : Prop} (R : Hp → Prop) (h1 : (∀ H, I H → R H) → G) (h2 : ∀ H, I H → R H) : G := h1 h2
/-! ### range over numbers of any size -/
theorem turn_long {P : Program} {w : World} {K : PySem.W.Frag} {tg : Expr} (r : Addr) (lo c : Int) (n : Nat) :
    Turn P w K tg (Itc lo c n) [r] r (fun i hp => IsLongIter hp r (lo + (i : Nat) * c) ((n : Int) - (i : Nat)) c) where
  mem := List.mem_singleton.mpr rfl
  obj := fun _ _ here b hb => by
    cases List.mem_singleton.mp hb
    exact ⟨_, here, fun _ z => nomatch z⟩
  keep := fun _ _ _ here same => same r (List.mem_singleton.mpr rfl) _ here
  item := by
    intro Y y1 y2 y3 calm i pins s σ H E inv own here more
    subst y1; subst y2; subst y3
    have o := own r (List.mem_singleton.mpr rfl)
    refine (Walks.longrange (prog := Y.prog) (w := Y.w) (inv.ok.hd calm) r lo c n).item i s _ _ more here fun v h2 k hv next keep => ?_
    obtain ⟨t, rfl⟩ := hv
    have inv2 : Inv Y pins σ H { s with heap := h2, toks := k } := inv.turned (fun b ob hb e => keep b ob (fun z => hb (List.mem_singleton.mp z)) e) o.1 o.2.1 o.2.2.2.1 o.2.2.2.2.1 o.2.2.2.2.2
    have stay : ∀ b ∈ [r], H b = none := fun b hb => (own b hb).1
    exact ⟨_, rfl, go_of (s := { s with heap := h2, toks := k }) (n := "longrange_iterator") next rfl rfl (by decide) ⟨.int (lo + (i : Nat) * c), H, inv2, ⟨t, rfl⟩, ⟨rfl, rfl⟩, next, stay⟩⟩
  done := by
    intro Y y1 y2 y3 calm i pins s σ H E inv own here over
    subst y1; subst y2; subst y3
    have o := own r (List.mem_singleton.mpr rfl)
    have le : n ≤ i := over
    exact wpAny_pyNext_long_end (inv.ok.hd calm) here (by omega) fun h2 same => ⟨rfl, inv.turned (t' := s.toks) (fun b ob hb e => same b ob hb e) o.1 o.2.1 o.2.2.2.1 o.2.2.2.2.1 o.2.2.2.2.2⟩
  self := fun _ _ _ _ _ here h => wpAny_pyIter_longiter here h
/-- a range object just made, whatever its size -/
theorem range_wide {X : Cx} {tg : Expr} {pins : List (Addr × Obj)} {σ : L2.St} {H : Hp} {s : Shared} {R : It → Hp → Prop} {E : Value → Shared → Prop} {lo hi c : Int} {t u v : Tok} {tk n : Nat} (I : Inv X pins σ H s)
    (hn : Builtin.Range.rangeSize lo hi c = n) (q : R (Itc lo c n) H) :
    wpAny (model X.prog X.w) X.A (pyIter (.ref s.heap.objs.size)) (PIE X pins σ tg R) E { s with heap := s.heap.push { cls := .type "range", data := .fields #[.int lo t, .int hi u, .int c v] }, toks := tk } := by
  have made : Inv X pins σ H { s with heap := s.heap.push { cls := .type "range", data := .fields #[.int lo t, .int hi u, .int c v] }, toks := tk } := I.kept fun b ob e => Heap.get?_push_of_some _ e
  have e0 : lo + ((0 : Nat) : Int) * c = lo := by simp
  have e9 : (n : Int) - ((0 : Nat) : Int) = Builtin.Range.rangeSize lo hi c := by
    rw [hn]
    simp
  cases small : Builtin.Range.small lo hi c with
  | true =>
    refine wpAny_pyIter_range (IsRange.new ..) small (pi_one (tk := tk) made _ (turn_rangeC _ lo c n) ?_ q)
    show IsRangeIter _ _ (lo + ((0 : Nat) : Int) * c) ((n : Int) - ((0 : Nat) : Int)) c
    rw [e0, e9]
    exact Heap.get?_push_size _ rfl
  | false =>
    refine wpAny_pyIter_longrange (IsRange.new ..) small (pi_one (tk := tk) made _ (turn_long _ lo c n) ?_ q)
    show IsLongIter _ _ (lo + ((0 : Nat) : Int) * c) ((n : Int) - ((0 : Nat) : Int)) c
    rw [e0, e9]
    exact Heap.get?_push_size _ rfl
theorem itc_one (lo : Int) (n : Nat) : Itc lo 1 n = Itr lo n := by
  unfold Itc Itr
  congr 1
  funext i H x H'
  rw [Int.mul_one]
def iWide2 (ta : TA) : TI := fun σ H R => ta σ H fun vs H1 => ∃ i j : Int, vs = [.int i, .int j] ∧ R (Itr i (j - i).toNat) H1
def iWide3 (ta : TA) : TI := fun σ H R => ta σ H fun vs H1 => ∃ (i j c : Int) (n : Nat), vs = [.int i, .int j, .int c] ∧ CDivP (j - i) c ∧ Builtin.Range.rangeSize i j c = n ∧ R (Itc i c n) H1
section
variable {X : Cx} {tg : Expr}
theorem pi_wide2 {a b : Expr} {ta : TA} {p pos : Pos} (hg : Gl X "range") (hm : X.mg "range" = none) (ha : PA X [a, b] ta) (h2 : starEach [a, b] X.env = [(false, eval a X.env), (false, eval b X.env)] := by rfl) (h1 : starEach [b] X.env = [(false, eval b X.env)] := by rfl) :
    PI X tg (.Call (.Name "range" p) [a, b] [] pos) (iWide2 ta) := by
  refine ⟨fun pins s σ H R I h => Call_ (ld_blt I hg hm boot_range (PyProof.Rows.callWith_type1 (thn (ha.run pos pins s σ H _ I h) fun us s1 ⟨vs, H1, I1, r1, q1⟩ => ?_) (by rw [h2, h1]) (by rw [h1]; rfl)))⟩
  obtain ⟨i, j, rfl, q⟩ := q1
  obtain ⟨u1, u2, rfl, ⟨t, rfl⟩, ⟨t', rfl⟩⟩ := vals2 r1
  refine call_range_2 (range_wide (n := (j - i).toNat) I1 ?_ (by rw [itc_one]; exact q))
  rw [rangeSize_one]
  split <;> omega
theorem pi_wide3 {a b c : Expr} {ta : TA} {p pos : Pos} (hg : Gl X "range") (hm : X.mg "range" = none) (ha : PA X [a, b, c] ta)
    (h3 : starEach [a, b, c] X.env = (false, eval a X.env) :: starEach [b, c] X.env := by rfl) (hn : (backTo pos (starEach [b, c] X.env)).any (·.1) = false := by rfl) :
    PI X tg (.Call (.Name "range" p) [a, b, c] [] pos) (iWide3 ta) := by
  refine ⟨fun pins s σ H R I h => Call_ (ld_blt I hg hm boot_range (PyProof.Rows.callWith_type1 (thn (ha.run pos pins s σ H _ I h) fun us s1 ⟨vs, H1, I1, r1, q1⟩ => ?_) h3 hn))⟩
  obtain ⟨i, j, k, n, rfl, hk, hz, q⟩ := q1
  cases r1 with
  | cons ra rr =>
    obtain ⟨u2, u3, rfl, ⟨t', rfl⟩, ⟨t'', rfl⟩⟩ := vals2 rr
    obtain ⟨t, rfl⟩ := ra
    have k0 : k ≠ 0 := fun z => by
      have := hk.1
      omega
    exact call_range_3 k0 (range_wide (tk := s1.toks) I1 hz q) (.inl hk.2)
end
/-- a list made over a range with a step -/
theorem lc_step {lo c : Int} {n : Nat} {g : TG} {tt : TT} {te : TE} {ws : List Nat} {σ : L2.St} {G : Hp} {D : Addr} {Qd : Hp → Prop} (Pv : Nat → Hp → Prop) (start : Pv 0 (upd G D (.lst [])))
    (step : ∀ i G, i < n → Pv i G → g (.int (lo + (i : Nat) * c)) (wipe σ ws) G fun τ G2 => wipe τ ws = wipe σ ws ∧ tt τ G2 fun k G3 => if k = true then te τ G3 fun z G4 => ∃ ac, G4 D = some (.lst ac) ∧ ac.length < sizeLine ∧ Pv (i + 1) (upd G4 D (.lst (ac ++ [z]))) else Pv (i + 1) G3)
    (last : ∀ G, Pv n G → Qd G) : ∃ W : Nat → Nat → Hp → Prop, (∃ m, W 0 m (upd G D (.lst []))) ∧ ∀ i m G, W i m G → ((Itc lo c n).stop i G ∧ Qd G) ∨
      ((Itc lo c n).go i G ∧ ∃ N : Hp → Prop, (∀ G', N G' → ∃ m', m' < m ∧ W (i + 1) m' G') ∧ ∀ x G', (Itc lo c n).yld i G x G' → g x (wipe σ ws) G' fun τ G2 => wipe τ ws = wipe σ ws ∧ tt τ G2 fun k G3 => if k = true then te τ G3 fun z G4 => ∃ ac, G4 D = some (.lst ac) ∧ ac.length < sizeLine ∧ N (upd G4 D (.lst (ac ++ [z]))) else N G3) := by
  refine ⟨fun i m G => (m = n - i ∧ i ≤ n) ∧ Pv i G, ⟨n, ⟨rfl, Nat.zero_le _⟩, start⟩, ?_⟩
  rintro i m G ⟨⟨rfl, le⟩, pv⟩
  rcases Nat.lt_or_ge i n with lt | ge
  · exact .inr ⟨lt, Pv (i + 1), fun G' p' => ⟨n - (i + 1), by omega, ⟨rfl, lt⟩, p'⟩, fun x G' ⟨e1, e2⟩ => by
      rw [e1, e2]
      exact step i G lt pv⟩
  · have e : i = n := Nat.le_antisymm le ge
    rw [e] at pv ⊢
    exact .inl ⟨Nat.le_refl _, last G pv⟩
/-! ### where two periodic timers meet: the mathematics -/
def IsMeet (a p o q f e : Nat) : Prop := e = p / Nat.gcd p q * q ∧ max a o ≤ f ∧ f < max a o + e ∧ p ∣ f - a ∧ q ∣ f - o
theorem lcm_form {p q : Nat} (hp : 1 ≤ p) : p / Nat.gcd p q * q = q / Nat.gcd p q * p := by
  have hg : 0 < Nat.gcd p q := Nat.gcd_pos_of_pos_left q hp
  have e1 : p / Nat.gcd p q * Nat.gcd p q = p := Nat.div_mul_cancel (Nat.gcd_dvd_left p q)
  have e2 : q / Nat.gcd p q * Nat.gcd p q = q := Nat.div_mul_cancel (Nat.gcd_dvd_right p q)
  refine Nat.eq_of_mul_eq_mul_right hg ?_
  rw [Nat.mul_right_comm, e1, Nat.mul_right_comm, e2, Nat.mul_comm]
theorem lcm_pos {p q : Nat} (hp : 1 ≤ p) (hq : 1 ≤ q) : 0 < p / Nat.gcd p q * q := by
  have hg : 0 < Nat.gcd p q := Nat.gcd_pos_of_pos_left q hp
  exact Nat.mul_pos (Nat.div_pos (Nat.le_of_dvd (by omega) (Nat.gcd_dvd_left p q)) hg) (by omega)
/-- one step of the division chain -/
theorem chain_step {n m d r : Nat} {x y : Int} (hx : (m : Int) ∣ x * n - d) (hy : (m : Int) ∣ y * n - r) :
    (m : Int) ∣ (x - ((d / r : Nat) : Int) * y) * n - ((d % r : Nat) : Int) := by
  have e1 : ((d % r : Nat) : Int) = (d : Int) - ((d / r : Nat) : Int) * (r : Int) := by
    have z := Nat.div_add_mod d r
    have z2 : ((r * (d / r) + d % r : Nat) : Int) = (d : Int) := congrArg Int.ofNat z
    rw [Int.natCast_add, Int.natCast_mul, Int.mul_comm] at z2
    omega
  have e2 : (x - ((d / r : Nat) : Int) * y) * n - ((d % r : Nat) : Int) = (x * n - d) - ((d / r : Nat) : Int) * (y * n - r) := by
    rw [e1, Int.sub_mul, Int.mul_sub, Int.mul_assoc]
    omega
  rw [e2]
  exact Int.dvd_sub hx (Int.dvd_mul_of_dvd_right hy)
theorem chain_size {m d r a b : Nat} (h : a * r + b * d = m) : b * (d % r) + (a + d / r * b) * r = m := by
  have e := Nat.div_add_mod d r
  have e1 : b * d = b * (r * (d / r)) + b * (d % r) := by rw [← Nat.mul_add, e]
  have e2 : (a + d / r * b) * r = a * r + b * (r * (d / r)) := by
    rw [Nat.add_mul, Nat.mul_comm (d / r) b, Nat.mul_assoc, Nat.mul_comm (d / r) r]
  rw [e2]
  omega
theorem meet_of {a p o q : Nat} {x : Int} (hp : 1 ≤ p) (hq : 1 ≤ q) (hx : (q : Int) ∣ x * p - (Nat.gcd p q : Nat)) (hg : ((o : Int) - a) % ((Nat.gcd p q : Nat) : Int) = 0) :
    ∃ f : Nat, (if (o : Int) > (a : Int) then (o : Int) else (a : Int)) + ((a : Int) + ((o : Int) - a) / ((Nat.gcd p q : Nat) : Int) * x * p - (if (o : Int) > (a : Int) then (o : Int) else (a : Int))) % ((p / Nat.gcd p q * q : Nat) : Int) = (f : Int) ∧ IsMeet a p o q f (p / Nat.gcd p q * q) := by
  have hbegin : (if (o : Int) > (a : Int) then (o : Int) else (a : Int)) = ((max a o : Nat) : Int) := by split <;> omega
  rw [hbegin]
  have he := lcm_pos hp hq
  have hpe : (p : Int) ∣ ((p / Nat.gcd p q * q : Nat) : Int) := by
    rw [lcm_form hp]
    exact Int.natCast_dvd_natCast.mpr (Nat.dvd_mul_left p _)
  have hqe : (q : Int) ∣ ((p / Nat.gcd p q * q : Nat) : Int) := Int.natCast_dvd_natCast.mpr (Nat.dvd_mul_left q _)
  have hgd : ((Nat.gcd p q : Nat) : Int) * (((o : Int) - a) / ((Nat.gcd p q : Nat) : Int)) = (o : Int) - a := by
    have z := Int.emod_add_mul_ediv ((o : Int) - a) ((Nat.gcd p q : Nat) : Int)
    omega
  generalize ((o : Int) - a) / ((Nat.gcd p q : Nat) : Int) = u at hgd ⊢
  generalize hE : p / Nat.gcd p q * q = e at he hpe hqe ⊢
  have r0 : 0 ≤ ((a : Int) + u * x * p - ((max a o : Nat) : Int)) % (e : Int) := Int.emod_nonneg _ (by omega)
  have r1 : ((a : Int) + u * x * p - ((max a o : Nat) : Int)) % (e : Int) < e := Int.emod_lt_of_pos _ (by omega)
  have r2 := Int.emod_add_mul_ediv ((a : Int) + u * x * p - ((max a o : Nat) : Int)) (e : Int)
  generalize ((a : Int) + u * x * p - ((max a o : Nat) : Int)) / (e : Int) = w at r2
  generalize ((a : Int) + u * x * p - ((max a o : Nat) : Int)) % (e : Int) = r at r0 r1 r2 ⊢
  refine ⟨(((max a o : Nat) : Int) + r).toNat, by omega, by rw [hE], by omega, by omega, ?_, ?_⟩
  · have e1 : (((((max a o : Nat) : Int) + r).toNat - a : Nat) : Int) = u * x * p - e * w := by omega
    rw [← Int.natCast_dvd_natCast, e1]
    exact Int.dvd_sub (Int.dvd_mul_left _ _) (Int.dvd_mul_of_dvd_left hpe)
  · have e1 : (((((max a o : Nat) : Int) + r).toNat - o : Nat) : Int) = u * (x * p - (Nat.gcd p q : Nat)) - e * w := by
      rw [Int.mul_sub, ← Int.mul_assoc, Int.mul_comm u ((Nat.gcd p q : Nat) : Int)]
      omega
    rw [← Int.natCast_dvd_natCast, e1]
    exact Int.dvd_sub (Int.dvd_mul_of_dvd_right hx) (Int.dvd_mul_of_dvd_left hqe)
theorem lcm_dvd {p q d : Nat} (hp : 1 ≤ p) (h1 : p ∣ d) (h2 : q ∣ d) : p / Nat.gcd p q * q ∣ d := by
  have hg : 0 < Nat.gcd p q := Nat.gcd_pos_of_pos_left q hp
  have e : p / Nat.gcd p q * q = Nat.lcm p q := by
    unfold Nat.lcm
    rw [Nat.div_mul_right_comm (Nat.gcd_dvd_left p q)]
  rw [e]
  exact Nat.lcm_dvd h1 h2
theorem meet_uniq {a p o q f e f' : Nat} (hp : 1 ≤ p) (h : IsMeet a p o q f e) (h1 : max a o ≤ f') (h2 : f' < max a o + e) (h3 : p ∣ f' - a) (h4 : q ∣ f' - o) : f' = f := by
  obtain ⟨he, b1, b2, b3, b4⟩ := h
  rcases Nat.lt_trichotomy f' f with l | l | l
  · have d1 : p ∣ f - f' := by
      have z := Nat.dvd_sub b3 h3
      rw [show f - a - (f' - a) = f - f' by omega] at z
      exact z
    have d2 : q ∣ f - f' := by
      have z := Nat.dvd_sub b4 h4
      rw [show f - o - (f' - o) = f - f' by omega] at z
      exact z
    have := Nat.le_of_dvd (by omega) (lcm_dvd hp d1 d2)
    omega
  · exact l
  · have d1 : p ∣ f' - f := by
      have z := Nat.dvd_sub h3 b3
      rw [show f' - a - (f - a) = f' - f by omega] at z
      exact z
    have d2 : q ∣ f' - f := by
      have z := Nat.dvd_sub h4 b4
      rw [show f' - o - (f - o) = f' - f by omega] at z
      exact z
    have := Nat.le_of_dvd (by omega) (lcm_dvd hp d1 d2)
    omega
theorem IsMeet.swap {a p o q f e : Nat} (hp : 1 ≤ p) (h : IsMeet a p o q f e) : IsMeet o q a p f e := by
  obtain ⟨he, b1, b2, b3, b4⟩ := h
  refine ⟨?_, by omega, by omega, b4, b3⟩
  rw [he, lcm_form hp, Nat.gcd_comm]
/-- two timers meet only where the phases differ by what their measure divides -/
theorem meet_gcd {a p o q f : Nat} (h1 : a ≤ f) (h2 : o ≤ f) (h3 : p ∣ f - a) (h4 : q ∣ f - o) : ((o : Int) - a) % ((Nat.gcd p q : Nat) : Int) = 0 := by
  have d1 : ((Nat.gcd p q : Nat) : Int) ∣ ((f - a : Nat) : Int) := Int.natCast_dvd_natCast.mpr (Nat.dvd_trans (Nat.gcd_dvd_left p q) h3)
  have d2 : ((Nat.gcd p q : Nat) : Int) ∣ ((f - o : Nat) : Int) := Int.natCast_dvd_natCast.mpr (Nat.dvd_trans (Nat.gcd_dvd_right p q) h4)
  have d3 := Int.dvd_sub d1 d2
  rw [show ((f - a : Nat) : Int) - ((f - o : Nat) : Int) = (o : Int) - a by omega] at d3
  exact Int.emod_eq_zero_of_dvd d3
theorem gcd_swap {a o p q : Nat} : ((o : Int) - a) % ((Nat.gcd p q : Nat) : Int) = 0 ↔ ((a : Int) - o) % ((Nat.gcd q p : Nat) : Int) = 0 := by
  rw [Nat.gcd_comm]
  constructor
  · intro h
    have z := Int.dvd_neg.mpr (Int.dvd_of_emod_eq_zero h)
    rw [show -((o : Int) - a) = (a : Int) - o by omega] at z
    exact Int.emod_eq_zero_of_dvd z
  · intro h
    have z := Int.dvd_neg.mpr (Int.dvd_of_emod_eq_zero h)
    rw [show -((a : Int) - o) = (o : Int) - a by omega] at z
    exact Int.emod_eq_zero_of_dvd z
def topS (i : Nat) : Stmt := PySem.Challenge.pw_timerdeque_k20_common_ticks.main.body.getD i (.Pass ⟨0, 0, 0, 0⟩)
abbrev s_is_integer : Stmt := topS 4
abbrev N_is_integer : List Str := ["given"]
theorem sc_is_integer : FnScope N_is_integer ["given"] (defScope s_is_integer) := by
  refine ⟨rfl, rfl, rfl, ?_, rfl, ?_, ?_⟩ <;> decide +kernel
abbrev s_is_tick : Stmt := topS 5
abbrev N_is_tick : List Str := ["given", "least"]
theorem sc_is_tick : FnScope N_is_tick ["given", "least"] (defScope s_is_tick) := by
  refine ⟨rfl, rfl, rfl, ?_, rfl, ?_, ?_⟩ <;> decide +kernel
abbrev s_is_period : Stmt := topS 6
abbrev N_is_period : List Str := ["given"]
theorem sc_is_period : FnScope N_is_period ["given"] (defScope s_is_period) := by
  refine ⟨rfl, rfl, rfl, ?_, rfl, ?_, ?_⟩ <;> decide +kernel
abbrev s_is_periodic : Stmt := topS 8
abbrev N_is_periodic : List Str := ["given", "phase", "period"]
theorem sc_is_periodic : FnScope N_is_periodic ["given"] (defScope s_is_periodic) := by
  refine ⟨rfl, rfl, rfl, ?_, rfl, ?_, ?_⟩ <;> decide +kernel
abbrev s_check_periodic : Stmt := topS 9
abbrev N_check_periodic : List Str := ["given"]
theorem sc_check_periodic : FnScope N_check_periodic ["given"] (defScope s_check_periodic) := by
  refine ⟨rfl, rfl, rfl, ?_, rfl, ?_, ?_⟩ <;> decide +kernel
abbrev s_divisor_and_factor : Stmt := topS 10
abbrev N_divisor_and_factor : List Str := ["number", "modulus", "divisor", "rest", "factor", "following", "times"]
theorem sc_divisor_and_factor : FnScope N_divisor_and_factor ["number", "modulus"] (defScope s_divisor_and_factor) := by
  refine ⟨rfl, rfl, rfl, ?_, rfl, ?_, ?_⟩ <;> decide +kernel
abbrev s_meetings : Stmt := topS 11
abbrev N_meetings : List Str := ["one", "other", "phase", "period", "other_phase", "other_period", "divisor", "factor", "apart", "tick", "every", "begin"]
theorem sc_meetings : FnScope N_meetings ["one", "other"] (defScope s_meetings) := by
  refine ⟨rfl, rfl, rfl, ?_, rfl, ?_, ?_⟩ <;> decide +kernel
abbrev s_common : Stmt := topS 12
abbrev N_common : List Str := ["one", "other"]
theorem sc_common : FnScope N_common ["one", "other"] (defScope s_common) := by
  refine ⟨rfl, rfl, rfl, ?_, rfl, ?_, ?_⟩ <;> decide +kernel
abbrev s__law_cell_at : Stmt := topS 14
abbrev N__law_cell_at : List Str := ["_law_script", "_law_k"]
theorem sc__law_cell_at : FnScope N__law_cell_at ["_law_script", "_law_k"] (defScope s__law_cell_at) := by
  refine ⟨rfl, rfl, rfl, ?_, rfl, ?_, ?_⟩ <;> decide +kernel
abbrev s__law_mixed : Stmt := topS 15
abbrev N__law_mixed : List Str := ["_law_cell", "_law_k", "_law_low"]
theorem sc__law_mixed : FnScope N__law_mixed ["_law_cell", "_law_k"] (defScope s__law_mixed) := by
  refine ⟨rfl, rfl, rfl, ?_, rfl, ?_, ?_⟩ <;> decide +kernel
abbrev s__law_source : Stmt := topS 16
abbrev N__law_source : List Str := ["_law_script", "_law_k", "_law_cell"]
theorem sc__law_source : FnScope N__law_source ["_law_script", "_law_k"] (defScope s__law_source) := by
  refine ⟨rfl, rfl, rfl, ?_, rfl, ?_, ?_⟩ <;> decide +kernel
abbrev s__law_next : Stmt := topS 17
abbrev N__law_next : List Str := ["_law_source_here", "_law_many", "_law_found"]
theorem sc__law_next : FnScope N__law_next ["_law_source_here", "_law_many"] (defScope s__law_next) := by
  refine ⟨rfl, rfl, rfl, ?_, rfl, ?_, ?_⟩ <;> decide +kernel
abbrev s__law_pair : Stmt := topS 18
abbrev N__law_pair : List Str := ["_law_source_here", "_law_measure_here", "_law_most", "_law_far"]
theorem sc__law_pair : FnScope N__law_pair ["_law_source_here", "_law_measure_here"] (defScope s__law_pair) := by
  refine ⟨rfl, rfl, rfl, ?_, rfl, ?_, ?_⟩ <;> decide +kernel
abbrev s__law_measure : Stmt := topS 19
abbrev N__law_measure : List Str := ["_law_one", "_law_two"]
theorem sc__law_measure : FnScope N__law_measure ["_law_one", "_law_two"] (defScope s__law_measure) := by
  refine ⟨rfl, rfl, rfl, ?_, rfl, ?_, ?_⟩ <;> decide +kernel
abbrev s__law_gone_through : Stmt := topS 20
abbrev N__law_gone_through : List Str := ["_law_one", "_law_two", "_law_begin", "_law_tick"]
theorem sc__law_gone_through : FnScope N__law_gone_through ["_law_one", "_law_two"] (defScope s__law_gone_through) := by
  refine ⟨rfl, rfl, rfl, ?_, rfl, ?_, ?_⟩ <;> decide +kernel
abbrev s__law_right : Stmt := topS 21
abbrev N__law_right : List Str := ["_law_one", "_law_two", "_law_told", "_law_measure_here", "_law_first", "_law_distance"]
theorem sc__law_right : FnScope N__law_right ["_law_one", "_law_two", "_law_told"] (defScope s__law_right) := by
  refine ⟨rfl, rfl, rfl, ?_, rfl, ?_, ?_⟩ <;> decide +kernel
abbrev s_law : Stmt := topS 22
abbrev N_law : List Str := ["_law_script", "_law_k", "_law_source_here", "_law_measure_here", "_law_one", "_law_two", "_law_told", "_law_time"]
theorem sc_law : FnScope N_law ["_law_script"] (defScope s_law) := by
  refine ⟨rfl, rfl, rfl, ?_, rfl, ?_, ?_⟩ <;> decide +kernel
/-- what the top leaves of built-in names -/
structure Tx (K : PySem.W.Frag) (mg : Str → Option Value) : Prop where
  b_isinstance : mg "isinstance" = none
  b_int : mg "int" = none
  b_bool : mg "bool" = none
  b_tuple : mg "tuple" = none
  b_len : mg "len" = none
  b_max : mg "max" = none
  b_range : mg "range" = none
  b_min : mg "min" = none
/-! ### the program: what an integer is, bases, ticks -/
def slotInt (σ : L2.St) (i : Nat) : Nat := match σ[i]? with
  | some (some (.int z)) => z.toNat
  | _ => 0
theorem cast_div (a b : Nat) : (a : Int) / (b : Int) = ((a / b : Nat) : Int) := rfl
theorem cast_mod (a b : Nat) : (a : Int) % (b : Int) = ((a % b : Nat) : Int) := rfl
theorem cast_mul (a b : Nat) : (a : Int) * (b : Int) = ((a * b : Nat) : Int) := (Int.natCast_mul a b).symm
theorem cast_add (a b : Nat) : (a : Int) + (b : Int) = ((a + b : Nat) : Int) := rfl
theorem natAbs_cast (a : Nat) : ((a : Nat) : Int).natAbs = a := rfl
theorem divp_s {i j : Int} (b : Nat) (hj : 0 < j) (hi : i.natAbs < 2 ^ b) (h : b ≤ 3000 := by decide) : CDivP i j := by
  refine divp_ok hj ?_
  have := PyProof.Rows.intBits_le hi
  omega
section
variable {P : Program} {w : World} {K : PySem.W.Frag} {mg : Str → Option Value} {base : Heap}
def spIsInt : Sp := fun vs H Q _ => ∃ n : Int, vs = [.int n] ∧ Q (.bl true) H
theorem ok_is_integer {f : Addr} {fd : FuncData} (F : Fun K "is_integer" "is_integer" s_is_integer f fd) (T : Tx K mg) : FnOk P w K mg base CX0 1 f fd ["given"] spIsInt := by
  refine F.ok sc_is_integer (fun vs H Q E h => ?_) (fun cdv A outer s H vs Q E hr h => ?_)
  · obtain ⟨n, rfl, _⟩ := h
    rfl
  · obtain ⟨n, rfl, q⟩ := h
    refine ⟨_, (pss_one (ps_ret (pe_and (pe_callB (isiK (K := K) rfl) (by rfl) T.b_isinstance (by decide +kernel) (pa_cons (pv 0) (pa_cons (pe_bltn (v := .ty "int") (u := .type "int") (by rfl) T.b_int (by decide +kernel) rfl) pa_nil))) (pe_one (pe_not (pe_callB (isiK (K := K) rfl) (by rfl) T.b_isinstance (by decide +kernel) (pa_cons (pv 0) (pa_cons (pe_bltn (v := .ty "bool") (u := .type "bool") (by rfl) T.b_bool (by decide +kernel) rfl) pa_nil)))))))), ?_⟩
    refine ⟨.int n, rfl, .int n, _, _, _, true, rfl, .ty "int", .base (.int n), kit_ty (by decide +kernel), true, rfl, iteT ?_⟩
    exact ⟨.int n, rfl, .int n, _, _, _, false, rfl, .ty "bool", .base (.int n), kit_ty (by decide +kernel), false, rfl, q⟩
end
/-! a tick, of an integer -/
section
variable {P : Program} {w : World} {K : PySem.W.Frag} {mg : Str → Option Value} {base : Heap}
def spIsTick : Sp := fun vs H Q _ => ∃ n l : Int, vs = [.int n, .int l] ∧ l ≤ n ∧ Q (.bl true) H
theorem ok_is_tick {f : Addr} {fd : FuncData} (F : FunD K "is_tick" "is_tick" (defArgs s_is_tick) (defBody s_is_tick) (defScope s_is_tick) [.int 0] [] f fd) (T : Tx K mg) (h1 : Has P w K mg base 1 "is_integer" ["given"] [] spIsInt) : FnOk P w K mg base CX0 2 f fd ["given", "least"] spIsTick := by
  obtain ⟨f_is_integer, fd_is_integer, ds_is_integer, G_is_integer, m_is_integer, k_is_integer, b_is_integer, v_is_integer⟩ := h1
  refine F.ok sc_is_tick (fun vs H Q E h => ?_) (fun cdv A outer s H vs Q E hr h => ?_)
  · obtain ⟨n, l, rfl, _⟩ := h
    rfl
  · obtain ⟨n, l, rfl, l1, q⟩ := h
    refine ⟨_, PSs.nox (pss_one (ps_ret (pe_and (pe_call G_is_integer hr (by rfl) m_is_integer k_is_integer b_is_integer v_is_integer pass0 (pa_cons (pv 0) pa_nil)) (pe_one (pe_cmpR op_ge (pv 0) (pv 1) (nomark _)))))), ?_⟩
    refine ⟨.int n, rfl, n, rfl, true, rfl, iteT ?_⟩
    refine ⟨.int n, rfl, .int l, rfl, n, l, rfl, rfl, ?_⟩
    have e : V.bl (decide (n ≥ l)) = V.bl true := dT l1
    show Q (V.bl (decide (n ≥ l))) H
    rw [e]
    exact q
end
/-! ### a period, of an integer -/
section
variable {P : Program} {w : World} {K : PySem.W.Frag} {mg : Str → Option Value} {base : Heap}
def spIsPeriod : Sp := fun vs H Q _ => ∃ n : Int, vs = [.int n] ∧ 1 ≤ n ∧ Q (.bl true) H
theorem ok_is_period {f : Addr} {fd : FuncData} (F : Fun K "is_period" "is_period" s_is_period f fd) (h1 : Has P w K mg base 1 "is_integer" ["given"] [] spIsInt) : FnOk P w K mg base CX0 2 f fd ["given"] spIsPeriod := by
  obtain ⟨f_is_integer, fd_is_integer, ds_is_integer, G_is_integer, m_is_integer, k_is_integer, b_is_integer, v_is_integer⟩ := h1
  refine F.ok sc_is_period (fun vs H Q E h => ?_) (fun cdv A outer s H vs Q E hr h => ?_)
  · obtain ⟨n, rfl, _⟩ := h
    rfl
  · obtain ⟨n, rfl, l1, q⟩ := h
    refine ⟨_, (pss_one (ps_ret (pe_and (pe_call G_is_integer hr (by rfl) m_is_integer k_is_integer b_is_integer v_is_integer pass0 (pa_cons (pv 0) pa_nil)) (pe_one (pe_cmpR op_ge (pv 0) pe_int (nomark _)))))), ?_⟩
    refine ⟨.int n, rfl, n, rfl, true, rfl, iteT ?_⟩
    refine ⟨.int n, rfl, n, 1, rfl, rfl, ?_⟩
    have e : V.bl (decide (n ≥ 1)) = V.bl true := dT l1
    show Q (V.bl (decide (n ≥ 1))) H
    rw [e]
    exact q
end
/-! ### the program: periodic timers, which of two is ahead -/
section
variable {P : Program} {w : World} {K : PySem.W.Frag} {mg : Str → Option Value} {base : Heap}
theorem tyx_tup {K : PySem.W.Frag} {H : Hp} {a : Addr} {xs : List V} (h : H a = some (.tup xs)) : TyX K H (.ref a) (.type "tuple") := .base (.tup h)
def spPeriodic : Sp := fun vs H Q _ => ∃ (t : Addr) (a p : Nat), vs = [.ref t] ∧ H t = some (.tup [.int (a : Nat), .int (p : Nat)]) ∧ 1 ≤ p ∧ Q (.bl true) H
theorem ok_is_periodic {f : Addr} {fd : FuncData} (F : Fun K "is_periodic" "is_periodic" s_is_periodic f fd) (T : Tx K mg) (h1 : Has P w K mg base 2 "is_tick" ["given", "least"] [.int 0] spIsTick) (h2 : Has P w K mg base 2 "is_period" ["given"] [] spIsPeriod) : FnOk P w K mg base CX0 3 f fd ["given"] spPeriodic := by
  obtain ⟨f_is_tick1, fd_is_tick1, ds_is_tick1, G_is_tick1, m_is_tick1, k_is_tick1, b_is_tick1, v_is_tick1⟩ := h1
  obtain ⟨f_is_period, fd_is_period, ds_is_period, G_is_period, m_is_period, k_is_period, b_is_period, v_is_period⟩ := h2
  refine F.ok sc_is_periodic (fun vs H Q E h => ?_) (fun cdv A outer s H vs Q E hr h => ?_)
  · obtain ⟨t, a, p, rfl, _⟩ := h
    rfl
  · obtain ⟨t, a, p, rfl, ht, hp, q⟩ := h
    refine ⟨_, (pss_cons (ps_if (PW.pt (pw_or (pt_not (pt_val (pe_callB (isiK (K := K) rfl) (by rfl) T.b_isinstance (by decide +kernel) (pa_cons (pv 0) (pa_cons (pe_bltn (v := .ty "tuple") (u := .type "tuple") (by rfl) T.b_tuple (by decide +kernel) rfl) pa_nil))))) (pw_or1 (pt_cmpR op_ne (pe_callB (lenK (K := K) rfl) (by rfl) T.b_len PySem.boot_len (pa_cons (pv 0) pa_nil)) pe_int (nomark _)))))
        (pss_one (ps_ret pe_bl))
        pss_nil)
      (pss_cons (ps_asg (pv 0) (pg_tupK (K := K) (n := 2) rfl rfl (pgs_cons (pg_name (i := 1) sc_is_periodic.nd rfl (.inl rfl)) (pgs_cons (pg_name (i := 2) sc_is_periodic.nd rfl (.inl rfl)) pgs_nil))))
      (pss_one (ps_ret (pe_and (pe_call G_is_tick1 hr (by rfl) m_is_tick1 k_is_tick1 b_is_tick1 v_is_tick1 pass0 (pa_cons (pv 1) pa_nil)) (pe_one (pe_call G_is_period hr (by rfl) m_is_period k_is_period b_is_period v_is_period pass0 (pa_cons (pv 2) pa_nil)))))))), ?_⟩
    refine ⟨.ref t, rfl, _, _, _, _, true, rfl, .ty "tuple", tyx_tup ht, kit_ty (by decide +kernel), true, rfl, iteF ?_⟩
    refine ⟨.ref t, rfl, t, _, rfl, .inr (.inl (.inl ht)), rfl, false, nF rfl, iteF ?_⟩
    refine ⟨.ref t, rfl, t, _, rfl, .inl (.inl ht), rfl, _, _, rfl, _, _, rfl, rfl, ?_⟩
    refine ⟨_, rfl, (a : Nat), 0, rfl, by omega, true, rfl, iteT ?_⟩
    exact ⟨_, rfl, (p : Nat), rfl, by omega, q⟩
def spCheckPeriodic : Sp := fun vs H Q _ => ∃ (t : Addr) (a p : Nat), vs = [.ref t] ∧ H t = some (.tup [.int (a : Nat), .int (p : Nat)]) ∧ 1 ≤ p ∧ Q .non H
theorem ok_check_periodic {f : Addr} {fd : FuncData} (F : Fun K "check_periodic" "check_periodic" s_check_periodic f fd) (h1 : Has P w K mg base 3 "is_periodic" ["given"] [] spPeriodic) : FnOk P w K mg base CX0 4 f fd ["given"] spCheckPeriodic := by
  obtain ⟨f_is_periodic, fd_is_periodic, ds_is_periodic, G_is_periodic, m_is_periodic, k_is_periodic, b_is_periodic, v_is_periodic⟩ := h1
  refine F.ok sc_check_periodic (fun vs H Q E h => ?_) (fun cdv A outer s H vs Q E hr h => ?_)
  · obtain ⟨t, a, p, rfl, _⟩ := h
    rfl
  · obtain ⟨t, a, p, rfl, ht, hp, q⟩ := h
    refine ⟨_, (pss_one (ps_if (pt_not (pt_val (pe_call G_is_periodic hr (by rfl) m_is_periodic k_is_periodic b_is_periodic v_is_periodic pass0 (pa_cons (pv 0) pa_nil))))
        (pss_one ps_never)
        pss_nil)), ?_⟩
    exact ⟨_, rfl, t, a, p, rfl, ht, hp, true, rfl, iteF q⟩
end
/-! ### the program: where two periodic timers meet -/
section
variable {P : Program} {w : World} {K : PySem.W.Frag} {mg : Str → Option Value} {base : Heap}
def spDivFac : Sp := fun vs H Q _ => ∃ n m : Nat, vs = [.int (n : Nat), .int (m : Nat)] ∧ 1 ≤ n ∧ 1 ≤ m ∧ n < 2 ^ 210 ∧ m < 2 ^ 210 ∧ ∀ x : Int, (m : Int) ∣ x * n - (Nat.gcd n m : Nat) → x.natAbs ≤ m → ∀ H' t, Same H H' → H t = none → H' t = some (.tup [.int (Nat.gcd n m : Nat), .int x]) → Q (.ref t) H'
theorem ok_divisor_and_factor {f : Addr} {fd : FuncData} (F : Fun K "divisor_and_factor" "divisor_and_factor" s_divisor_and_factor f fd) : FnOk P w K mg base CX0 1 f fd ["number", "modulus"] spDivFac := by
  refine F.ok sc_divisor_and_factor (fun vs H Q E h => ?_) (fun cdv A outer s H vs Q E hr h => ?_)
  · obtain ⟨n, m, rfl, _⟩ := h
    rfl
  · obtain ⟨n, m, rfl, hn, hm, hn2, hm2, q⟩ := h
    refine ⟨_, (pss_cons (ps_par (i := 2) (j := 3) (by rfl) sc_divisor_and_factor.nd rfl rfl (by decide) rfl rfl (pa_cons (pv 0) (pa_cons (pv 1) pa_nil)) (by rfl))
      (pss_cons (ps_asg (pe_tup (pa_cons pe_int (pa_cons pe_int pa_nil))) (pg_tupK (K := K) (n := 2) rfl rfl (pgs_cons (pg_name (i := 4) sc_divisor_and_factor.nd rfl (.inl rfl)) (pgs_cons (pg_name (i := 5) sc_divisor_and_factor.nd rfl (.inl rfl)) pgs_nil))))
      (pss_cons (ps_while PassesOwn.never (pt_cmpR op_ne (pv 3) pe_int (nomark _))
        (pss_cons (ps_set (i := 6) sc_divisor_and_factor.nd rfl (.inl rfl) (pe_op op_fdivW (pv 2) (pv 3)))
        (pss_cons (ps_par (i := 2) (j := 3) (by rfl) sc_divisor_and_factor.nd rfl rfl (by decide) rfl rfl (pa_cons (pv 3) (pa_cons (pe_op op_sub (pv 2) (pe_op op_mulA (pv 6) (pv 3))) pa_nil)) (by rfl))
        (pss_one (ps_par (i := 4) (j := 5) (by rfl) sc_divisor_and_factor.nd rfl rfl (by decide) rfl rfl (pa_cons (pv 5) (pa_cons (pe_op op_sub (pv 4) (pe_op op_mulA (pv 6) (pv 5))) pa_nil)) (by rfl))))))
      (pss_one (ps_ret (pe_tup (pa_cons (pv 2) (pa_cons (pv 4) pa_nil)))))))), ?_⟩
    refine ⟨_, rfl, _, rfl, _, _, rfl, by simp [sizeLine_eq], fun t0 ht0 => ⟨t0, _, rfl, .inl (.inl upd_same), rfl, _, _, rfl, _, _, rfl, rfl, ?_⟩⟩
    refine while_by (fun σ H' => ∃ (d r a b : Nat) (x y : Int) (y6 : Option V), σ = [some (.int (n : Nat)), some (.int (m : Nat)), some (.int (d : Nat)), some (.int (r : Nat)), some (.int x), some (.int y), y6] ∧ Same H H' ∧ ((x = (a : Int) ∧ y = -(b : Int)) ∨ (x = -(a : Int) ∧ y = (b : Int))) ∧
        1 ≤ d ∧ d < 2 ^ 210 ∧ r < 2 ^ 210 ∧ Nat.gcd d r = Nat.gcd n m ∧ a * r + b * d = m ∧ a ≤ m ∧ (m : Int) ∣ x * n - d ∧ (m : Int) ∣ y * n - r)
      (fun σ _ => slotInt σ 3) ⟨n, m, 1, 0, 1, 0, none, rfl, same_upd ht0, .inl ⟨rfl, rfl⟩, hn, hn2, hm2, rfl, by omega, hm, ⟨0, by omega⟩, ⟨-1, by omega⟩⟩ ?_ ?_
    · rintro σ H' ⟨d, r, a, b, x, y, y6, rfl, sm, hxy, hd, hd2, hr2, hgcd, hsz, ham, hx, hy⟩
      by_cases h0 : r = 0
      · refine ⟨_, rfl, rfl, false, nF (vE h0), iteF ?_⟩
        subst h0
        rw [Nat.gcd_zero_right] at hgcd
        subst hgcd
        refine ⟨_, rfl, _, rfl, by simp [sizeLine_eq], fun t ht => ?_⟩
        exact q x hx (by rcases hxy with z | z <;> omega) _ t (sm.trans (same_upd ht)) (sm.free ht) upd_same
      · refine ⟨_, rfl, rfl, true, nT (vN (b := 0) h0), iteT ?_⟩
        have hb : b ≤ m := by
          have z : b * 1 ≤ b * d := Nat.mul_le_mul_left b hd
          omega
        have hq : d / r ≤ d := Nat.div_le_self d r
        have hmod : d % r < r := Nat.mod_lt d (by omega)
        refine ⟨_, rfl, _, rfl, (d : Nat), (r : Nat), rfl, rfl, (ndiv (a := d) 210 (by omega : 0 < r) hr2 |> fun z => wide_div (b := 9000) (Int.natCast_pos.mpr z.1) z.2 (by decide) (Nat.le_refl _)), ?_⟩
        have e1 : (d : Int) - ((d / r : Nat) : Int) * (r : Int) = ((d % r : Nat) : Int) := by
          have z := Nat.div_add_mod d r
          have z2 : ((r * (d / r) + d % r : Nat) : Int) = (d : Int) := congrArg Int.ofNat z
          rw [Int.natCast_add, Int.natCast_mul, Int.mul_comm] at z2
          omega
        refine ⟨_, rfl, _, rfl, _, rfl, _, rfl, ((d / r : Nat) : Int), (r : Nat), rfl, rfl, mul_w 210 210 (by rw [natAbs_cast]; omega) (by rw [natAbs_cast]; exact hr2), (d : Nat), _, rfl, rfl, .int (r : Nat), .int ((d % r : Nat) : Int), congrArg (fun z : Int => [V.int (r : Nat), V.int z]) e1, ?_⟩
        refine ⟨_, rfl, _, rfl, _, rfl, _, rfl, ((d / r : Nat) : Int), y, rfl, rfl, mul_w 210 210 (by rw [natAbs_cast]; omega) (by rcases hxy with z | z <;> omega), x, _, rfl, rfl, .int y, .int (x - ((d / r : Nat) : Int) * y), rfl, ?_⟩
        refine ⟨⟨r, d % r, b, a + d / r * b, y, x - ((d / r : Nat) : Int) * y, _, rfl, sm, ?_, by omega, hr2, by omega, ?_, chain_size hsz, hb, hy, chain_step hx hy⟩, ?_⟩
        · rcases hxy with ⟨z1, z2⟩ | ⟨z1, z2⟩
          · refine .inr ⟨z2, ?_⟩
            rw [z1, z2, Int.mul_neg, Int.natCast_add, Int.natCast_mul]
            omega
          · refine .inl ⟨z2, ?_⟩
            rw [z1, z2, Int.natCast_add, Int.natCast_mul]
            omega
        · rw [Nat.gcd_comm, ← Nat.gcd_rec, Nat.gcd_comm]
          exact hgcd
        · show (((d % r : Nat) : Int)).toNat < ((r : Int)).toNat
          rw [Int.toNat_natCast, Int.toNat_natCast]
          exact hmod
    · rintro σ H' Q1 Q2 h ⟨x, hx, hs, k, e, z⟩
      exact ⟨x, hx, hs, k, e, h _ _ z⟩
/-- what common() tells of two timers -/
def MeetV (H : Hp) (v : V) (a p o q : Nat) : Prop :=
  (¬ ((o : Int) - a) % ((Nat.gcd p q : Nat) : Int) = 0 ∧ v = .non) ∨ (((o : Int) - a) % ((Nat.gcd p q : Nat) : Int) = 0 ∧ ∃ (t : Addr) (f e : Nat), v = .ref t ∧ H t = some (.tup [.int (f : Nat), .int (e : Nat)]) ∧ IsMeet a p o q f e)
def spMeet : Sp := fun vs H Q _ => ∃ (t1 t2 : Addr) (a p o q : Nat), vs = [.ref t1, .ref t2] ∧ H t1 = some (.tup [.int (a : Nat), .int (p : Nat)]) ∧ H t2 = some (.tup [.int (o : Nat), .int (q : Nat)]) ∧ 1 ≤ p ∧ 1 ≤ q ∧ p < 2 ^ 210 ∧ q < 2 ^ 210 ∧ a < 2 ^ 210 ∧ o < 2 ^ 210 ∧
  ∀ v H', Same H H' → MeetV H' v a p o q → (∀ t, v = .ref t → H t = none) → Q v H'
theorem ok_meetings {f : Addr} {fd : FuncData} (F : Fun K "meetings" "meetings" s_meetings f fd) (T : Tx K mg) (h1 : Has P w K mg base 1 "divisor_and_factor" ["number", "modulus"] [] spDivFac) : FnOk P w K mg base CX0 2 f fd ["one", "other"] spMeet := by
  obtain ⟨f_divisor_and_factor, fd_divisor_and_factor, ds_divisor_and_factor, G_divisor_and_factor, m_divisor_and_factor, k_divisor_and_factor, b_divisor_and_factor, v_divisor_and_factor⟩ := h1
  refine F.ok sc_meetings (fun vs H Q E h => ?_) (fun cdv A outer s H vs Q E hr h => ?_)
  · obtain ⟨t1, t2, a, p, o, q, rfl, _⟩ := h
    rfl
  · obtain ⟨t1, t2, a, p, o, q, rfl, e1, e2, hp, hq, hp2, hq2, ha2, ho2, c⟩ := h
    have hg : 0 < Nat.gcd p q := Nat.gcd_pos_of_pos_left q hp
    have hg2 : Nat.gcd p q < 2 ^ 210 := Nat.lt_of_le_of_lt (Nat.le_of_dvd (by omega) (Nat.gcd_dvd_left p q)) hp2
    have cg : ∀ i : Int, CDivW i ((Nat.gcd p q : Nat) : Int) := fun i => wide_div (b := 210) (Int.natCast_pos.mpr hg) hg2 (by decide) (by decide)
    refine ⟨_, (pss_cons (ps_asg (pv 0) (pg_tupK (K := K) (n := 2) rfl rfl (pgs_cons (pg_name (i := 2) sc_meetings.nd rfl (.inl rfl)) (pgs_cons (pg_name (i := 3) sc_meetings.nd rfl (.inl rfl)) pgs_nil))))
      (pss_cons (ps_asg (pv 1) (pg_tupK (K := K) (n := 2) rfl rfl (pgs_cons (pg_name (i := 4) sc_meetings.nd rfl (.inl rfl)) (pgs_cons (pg_name (i := 5) sc_meetings.nd rfl (.inl rfl)) pgs_nil))))
      (pss_cons (ps_asg (pe_call G_divisor_and_factor hr (by rfl) m_divisor_and_factor k_divisor_and_factor b_divisor_and_factor v_divisor_and_factor pass0 (pa_cons (pv 3) (pa_cons (pv 5) pa_nil))) (pg_tupK (K := K) (n := 2) rfl rfl (pgs_cons (pg_name (i := 6) sc_meetings.nd rfl (.inl rfl)) (pgs_cons (pg_name (i := 7) sc_meetings.nd rfl (.inl rfl)) pgs_nil))))
      (pss_cons (ps_set (i := 8) sc_meetings.nd rfl (.inl rfl) (pe_op op_sub (pv 4) (pv 2)))
      (pss_cons (ps_if (pt_cmpR op_ne (pe_op op_mod (pv 8) (pv 6)) pe_int (nomark _))
        (pss_one (ps_ret pe_non))
        pss_nil)
      (pss_cons (ps_set (i := 9) sc_meetings.nd rfl (.inl rfl) (pe_op op_add (pv 2) (pe_op op_mulA (pe_op op_mulA (pe_op op_fdivW (pv 8) (pv 6)) (pv 7)) (pv 3))))
      (pss_cons (ps_set (i := 10) sc_meetings.nd rfl (.inl rfl) (pe_op op_mulA (pe_op op_fdivW (pv 3) (pv 6)) (pv 5)))
      (pss_cons (ps_set (i := 11) sc_meetings.nd rfl (.inl rfl) (pe_callB (call_max2 rfl) (by rfl) T.b_max (by decide +kernel) (pa_cons (pv 2) (pa_cons (pv 4) pa_nil))))
      (pss_one (ps_ret (pe_tup (pa_cons (pe_op op_add (pv 11) (pe_op op_mod (pe_op op_sub (pv 9) (pv 11)) (pv 10))) (pa_cons (pv 10) pa_nil))))))))))))), ?_⟩
    refine ⟨.ref t1, rfl, t1, _, rfl, .inl (.inl e1), rfl, _, _, rfl, _, _, rfl, rfl, ?_⟩
    refine ⟨.ref t2, rfl, t2, _, rfl, .inl (.inl e2), rfl, _, _, rfl, _, _, rfl, rfl, ?_⟩
    refine ⟨_, rfl, _, rfl, p, q, rfl, hp, hq, hp2, hq2, fun x hx hxm H1 t3 s1 ht3 e3 => ?_⟩
    refine ⟨t3, _, rfl, .inl (.inl e3), rfl, _, _, rfl, _, _, rfl, rfl, ?_⟩
    -- apart
    refine ⟨_, rfl, _, rfl, (o : Nat), (a : Nat), rfl, rfl, ?_⟩
    by_cases hgd : ((o : Int) - a) % ((Nat.gcd p q : Nat) : Int) = 0
    · refine ⟨_, rfl, _, rfl, (o : Int) - a, ((Nat.gcd p q : Nat) : Int), rfl, rfl, Int.natCast_pos.mpr hg, rfl, false, nF (congrArg V.int hgd), iteF ?_⟩
      have hu : (((o : Int) - a) / ((Nat.gcd p q : Nat) : Int)).natAbs < 2 ^ 211 := by
        have z := Int.natAbs_ediv_le_natAbs ((o : Int) - a) ((Nat.gcd p q : Nat) : Int)
        omega
      have hux : (((o : Int) - a) / ((Nat.gcd p q : Nat) : Int) * x).natAbs < 2 ^ 421 := by
        have z := wide_lt (j := x) hu (show x.natAbs < 2 ^ 210 by omega)
        exact z
      have hpg : p / Nat.gcd p q ≤ p := Nat.div_le_self _ _
      refine ⟨_, rfl, _, rfl, _, rfl, (o : Int) - a, ((Nat.gcd p q : Nat) : Int), rfl, rfl, cg _, _, rfl, ((o : Int) - a) / ((Nat.gcd p q : Nat) : Int), x, rfl, rfl, mul_w 211 210 hu (by omega), _, rfl, _, (p : Nat), rfl, rfl, mul_w 421 210 hux (by rw [natAbs_cast]; exact hp2), (a : Nat), _, rfl, rfl, ?_⟩
      refine ⟨_, rfl, _, rfl, (p : Nat), ((Nat.gcd p q : Nat) : Int), rfl, rfl, cg _, _, rfl, ((p / Nat.gcd p q : Nat) : Int), (q : Nat), rfl, rfl, mul_w 210 210 (by rw [natAbs_cast]; omega) (by rw [natAbs_cast]; exact hq2), ?_⟩
      obtain ⟨fst, ef, hm⟩ := meet_of hp hq hx hgd
      have he := lcm_pos hp hq
      have ee : ((p / Nat.gcd p q : Nat) : Int) * (q : Int) = ((p / Nat.gcd p q * q : Nat) : Int) := (Int.natCast_mul _ _).symm
      refine ⟨_, rfl, _, rfl, (a : Nat), (o : Nat), rfl, ?_⟩
      refine ⟨_, rfl, _, rfl, _, rfl, _, _, rfl, rfl, _, rfl, _, ((p / Nat.gcd p q * q : Nat) : Int), rfl, congrArg V.int ee, Int.natCast_pos.mpr he, _, _, rfl, rfl, _, rfl, by simp [sizeLine_eq], fun t ht => ?_⟩
      refine c (.ref t) _ (s1.trans (same_upd ht)) (.inr ⟨hgd, t, fst, p / Nat.gcd p q * q, rfl, ?_, hm⟩) (fun t' e => by cases e; exact s1.free ht)
      rw [upd_same]
      have e8 : (a : Int) + ((o : Int) - a) / ((Nat.gcd p q : Nat) : Int) * x * p = (a : Int) + ((o : Int) - a) / ((Nat.gcd p q : Nat) : Int) * x * (p : Nat) := rfl
      exact congrArg some (congrArg HO.tup (by
        rw [← ef, ← ee]
        ))
    · refine ⟨_, rfl, _, rfl, (o : Int) - a, ((Nat.gcd p q : Nat) : Int), rfl, rfl, Int.natCast_pos.mpr hg, rfl, true, nT (vI hgd), iteT ?_⟩
      exact c .non H1 s1 (.inl ⟨hgd, rfl⟩) (fun t e => by cases e)
end
/-! ### the program: common -/
section
variable {P : Program} {w : World} {K : PySem.W.Frag} {mg : Str → Option Value} {base : Heap}
theorem ok_common {f : Addr} {fd : FuncData} (F : Fun K "common" "common" s_common f fd) (h1 : Has P w K mg base 4 "check_periodic" ["given"] [] spCheckPeriodic) (h2 : Has P w K mg base 2 "meetings" ["one", "other"] [] spMeet) : FnOk P w K mg base CX0 5 f fd ["one", "other"] spMeet := by
  obtain ⟨f_check_periodic, fd_check_periodic, ds_check_periodic, G_check_periodic, m_check_periodic, k_check_periodic, b_check_periodic, v_check_periodic⟩ := h1
  obtain ⟨f_meetings, fd_meetings, ds_meetings, G_meetings, m_meetings, k_meetings, b_meetings, v_meetings⟩ := h2
  refine F.ok sc_common (fun vs H Q E h => ?_) (fun cdv A outer s H vs Q E hr h => ?_)
  · obtain ⟨t1, t2, a, p, o, q, rfl, _⟩ := h
    rfl
  · obtain ⟨t1, t2, a, p, o, q, rfl, e1, e2, hp, hq, c⟩ := h
    refine ⟨_, (pss_cons (ps_expr (pe_call G_check_periodic hr (by rfl) m_check_periodic k_check_periodic b_check_periodic v_check_periodic pass0 (pa_cons (pv 0) pa_nil)))
      (pss_cons (ps_expr (pe_call G_check_periodic hr (by rfl) m_check_periodic k_check_periodic b_check_periodic v_check_periodic pass0 (pa_cons (pv 1) pa_nil)))
      (pss_one (ps_ret (pe_call G_meetings (hr.mono (by decide)) (by rfl) m_meetings k_meetings b_meetings v_meetings pass0 (pa_cons (pv 0) (pa_cons (pv 1) pa_nil))))))), ?_⟩
    refine ⟨_, rfl, t1, a, p, rfl, e1, hp, ?_⟩
    refine ⟨_, rfl, t2, o, q, rfl, e2, hq, ?_⟩
    exact ⟨_, rfl, _, rfl, t1, t2, a, p, o, q, rfl, e1, e2, hp, hq, c⟩
end
/-! ### the law's drawing of numbers -/
def SrcAt (H : Hp) (p : Addr) : Prop := ∃ a b c : Int, H p = some (.lst [.int a, .int b, .int c])
/-- all but the source p stands as it was; p is a source again -/
structure Stp (p : Addr) (H H' : Hp) : Prop where
  keep : ∀ q o, q ≠ p → H q = some o → H' q = some o
  src : SrcAt H' p
theorem Stp.refl {p : Addr} {H : Hp} (h : SrcAt H p) : Stp p H H := ⟨fun _ _ _ e => e, h⟩
theorem Stp.trans {p : Addr} {H H1 H2 : Hp} (a : Stp p H H1) (b : Stp p H1 H2) : Stp p H H2 := ⟨fun q o n e => b.keep q o n (a.keep q o n e), b.src⟩
theorem Stp.same {p : Addr} {H H1 H2 : Hp} (a : Stp p H H1) (b : Same H1 H2) : Stp p H H2 := by
  obtain ⟨x, y, z, e⟩ := a.src
  exact ⟨fun q o n e => b q o (a.keep q o n e), ⟨x, y, z, b _ _ e⟩⟩
theorem SrcAt.same {p : Addr} {H H' : Hp} (h : SrcAt H p) (s : Same H H') : SrcAt H' p := by
  obtain ⟨a, b, c, e⟩ := h
  exact ⟨a, b, c, s _ _ e⟩
theorem Stp.free {p q : Addr} {H H' : Hp} (a : Stp p H H') (hq : H' q = none) : H q = none := by
  cases e : H q with
  | none => rfl
  | some o =>
    by_cases z : q = p
    · obtain ⟨x, y, u, w⟩ := a.src
      rw [z, w] at hq
      cases hq
    · rw [a.keep q o z e] at hq
      cases hq
theorem SrcAt.ne {H : Hp} {p l : Addr} (h : SrcAt H p) (hl : H l = none) : l ≠ p := fun e => by
  obtain ⟨x, y, z, w⟩ := h
  rw [e, w] at hl
  cases hl
theorem SrcAt.stp_same {p : Addr} {H H' : Hp} (h : SrcAt H p) (s : Same H H') : Stp p H H' := (Stp.refl h).same s
theorem Stp.seqL {K : PySem.W.Frag} {p a : Addr} {xs : List V} {H H' : Hp} (s : Stp p H H') (n : a ≠ p) (h : SqL K H a xs) : SqL K H' a xs := by
  rcases h with (h | ⟨o, h⟩) | h
  · exact .inl (.inl (s.keep _ _ n h))
  · exact .inl (.inr ⟨o, s.keep _ _ n h⟩)
  · exact .inr h
section
variable {P : Program} {w : World} {K : PySem.W.Frag} {mg : Str → Option Value} {base : Heap}
def spCellAt (K : PySem.W.Frag) : Sp := fun vs H Q _ => ∃ (a : Addr) (ns : List Int) (k : Nat), vs = [.ref a, .int (k : Nat)] ∧ SqL K H a (ns.map V.int) ∧ ∀ v : Int, Q (.int v) H
theorem ok_cell_at {f : Addr} {fd : FuncData} (F : Fun K "_law_cell_at" "_law_cell_at" s__law_cell_at f fd) (T : Tx K mg) : FnOk P w K mg base CX0 1 f fd ["_law_script", "_law_k"] (spCellAt K) := by
  refine F.ok sc__law_cell_at (fun vs H Q E h => ?_) (fun cdv A outer s H vs Q E hr h => ?_)
  · obtain ⟨a, ns, k, rfl, _⟩ := h
    rfl
  · obtain ⟨a, ns, k, rfl, hS, q⟩ := h
    refine ⟨_, (pss_cons (ps_if (pt_cmpR op_lt (pv 1) (pe_callB (lenK (K := K) rfl) (by rfl) T.b_len PySem.boot_len (pa_cons (pv 0) pa_nil)) (nomark _))
        (pss_one (ps_ret (pe_ix (ix_listK (K := K) rfl) (pv 0) (pv 1) (fun _ _ => rfl))))
        pss_nil)
      (pss_one (ps_ret pe_int))), ?_⟩
    refine ⟨_, rfl, .ref a, rfl, a, ns.map V.int, rfl, .inl hS, _, _, rfl, rfl, _, rfl, ite2 (fun e => ?_) (fun e => ?_)⟩
    · have hk : k < ns.length := by
        have z := of_decide_eq_true e
        rw [List.length_map] at z
        omega
      have g : (ns.map V.int)[k]? = some (.int ns[k]) := by
        rw [List.getElem?_map, List.getElem?_eq_getElem hk]
        rfl
      exact ⟨.ref a, rfl, _, rfl, a, _, _, _, rfl, rfl, hS, atI_nat g, q _⟩
    · exact q 0
def spMixed : Sp := fun vs H Q _ => ∃ c k : Int, vs = [.int c, .int k] ∧ ∀ r : Int, 0 ≤ r → r < 2147483563 → Q (.int r) H
theorem ok_mixed {f : Addr} {fd : FuncData} (F : Fun K "_law_mixed" "_law_mixed" s__law_mixed f fd) : FnOk P w K mg base CX0 1 f fd ["_law_cell", "_law_k"] spMixed := by
  refine F.ok sc__law_mixed (fun vs H Q E h => ?_) (fun cdv A outer s H vs Q E hr h => ?_)
  · obtain ⟨c, k, rfl, _⟩ := h
    rfl
  · obtain ⟨c, k, rfl, q⟩ := h
    refine ⟨_, (pss_cons (ps_set (i := 2) sc__law_mixed.nd rfl (.inl rfl) (pe_op op_add (pe_op op_mod (pv 0) pe_int) (pe_op op_mulA (pe_op op_fdivW (pv 0) pe_int) pe_int)))
      (pss_cons (ps_set (i := 2) sc__law_mixed.nd rfl (.inl rfl) (pe_op op_mod (pe_op op_mulA (pe_op op_add (pe_op op_add (pv 2) (pe_op op_mulA pe_int (pv 1))) pe_int) pe_int) pe_int))
      (pss_cons (ps_set (i := 2) sc__law_mixed.nd rfl (.inl rfl) (pe_op op_mod (pe_op op_mulA (pv 2) (pe_op op_add (pe_op op_add (pe_op op_fdivW (pv 2) pe_int) pe_int) (pv 1))) pe_int))
      (pss_one (ps_ret (pe_op op_mod (pe_op op_mulA (pv 2) (pe_op op_add (pe_op op_fdivW (pv 2) pe_int) pe_int)) pe_int)))))), ?_⟩
    refine ⟨_, rfl, c, 2147483629, rfl, rfl, (by decide : (0 : Int) < 2147483629), _, rfl, c, 2147483629, rfl, rfl, div_s (by decide) (by decide), _, 30011, rfl, rfl, mul_r (by decide) (by decide), _, _, rfl, rfl, ?_⟩
    refine ⟨_, rfl, _, rfl, 69621, k, rfl, rfl, mul_l (by decide) (by decide), _, _, rfl, rfl, _, 1, rfl, rfl, _, 48271, rfl, rfl, mul_r (by decide) (by decide), _, 2147483629, rfl, rfl, (by decide : (0 : Int) < 2147483629), ?_⟩
    generalize hl : (c % 2147483629 + c / 2147483629 * 30011 + 69621 * k + 1) * 48271 = l0
    have b1 : 0 ≤ l0 % 2147483629 := Int.emod_nonneg _ (by decide)
    have b2 : l0 % 2147483629 < 2147483629 := Int.emod_lt_of_pos _ (by decide)
    refine ⟨_, rfl, _, rfl, l0 % 2147483629, 907, rfl, rfl, div_s (by decide) (by decide), _, 16831, rfl, rfl, _, rfl, _, k, rfl, rfl, l0 % 2147483629, _, rfl, rfl, mul_l (by omega) (by omega), _, 2147483587, rfl, rfl, (by decide : (0 : Int) < 2147483587), ?_⟩
    generalize (l0 % 2147483629) * (l0 % 2147483629 / 907 + 16831 + k) = l1
    have b3 : 0 ≤ l1 % 2147483587 := Int.emod_nonneg _ (by decide)
    have b4 : l1 % 2147483587 < 2147483587 := Int.emod_lt_of_pos _ (by decide)
    refine ⟨_, rfl, _, rfl, _, 1201, rfl, rfl, div_s (by decide) (by decide), _, 30011, rfl, rfl, _, _, rfl, rfl, mul_l (i := l1 % 2147483587) (by omega) (by omega), _, 2147483563, rfl, rfl, (by decide : (0 : Int) < 2147483563), ?_⟩
    exact q _ (Int.emod_nonneg _ (by decide)) (Int.emod_lt_of_pos _ (by decide))
def spSource (K : PySem.W.Frag) : Sp := fun vs H Q _ => ∃ (a : Addr) (ns : List Int) (k : Nat), vs = [.ref a, .int (k : Nat)] ∧ SqL K H a (ns.map V.int) ∧ ∀ H' p, Same H H' → H p = none → SrcAt H' p → Q (.ref p) H'
theorem ok_source {f : Addr} {fd : FuncData} (F : Fun K "_law_source" "_law_source" s__law_source f fd) (T : Tx K mg) (h1 : Has P w K mg base 1 "_law_cell_at" ["_law_script", "_law_k"] [] (spCellAt K))
    (h2 : Has P w K mg base 1 "_law_mixed" ["_law_cell", "_law_k"] [] spMixed) : FnOk P w K mg base CX0 2 f fd ["_law_script", "_law_k"] (spSource K) := by
  obtain ⟨f__law_cell_at, fd__law_cell_at, ds__law_cell_at, G__law_cell_at, m__law_cell_at, k__law_cell_at, b__law_cell_at, v__law_cell_at⟩ := h1
  obtain ⟨f__law_mixed, fd__law_mixed, ds__law_mixed, G__law_mixed, m__law_mixed, k__law_mixed, b__law_mixed, v__law_mixed⟩ := h2
  refine F.ok sc__law_source (fun vs H Q E h => ?_) (fun cdv A outer s H vs Q E hr h => ?_)
  · obtain ⟨a, ns, k, rfl, _⟩ := h
    rfl
  · obtain ⟨a, ns, k, rfl, hS, q⟩ := h
    refine ⟨_, (pss_cons (ps_if (pt_cmpR op_lt (pv 1) (pe_callB (lenK (K := K) rfl) (by rfl) T.b_len PySem.boot_len (pa_cons (pv 0) pa_nil)) (nomark _))
        (pss_one (ps_ret (pe_lst (pa_cons (pe_ix (ix_listK (K := K) rfl) (pv 0) (pv 1) (fun _ _ => rfl)) (pa_cons (pe_ix (ix_listK (K := K) rfl) (pv 0) (pv 1) (fun _ _ => rfl)) (pa_cons pe_int pa_nil))))))
        pss_nil)
      (pss_cons (ps_set (i := 2) sc__law_source.nd rfl (.inl rfl) (pe_call G__law_mixed hr (by rfl) m__law_mixed k__law_mixed b__law_mixed v__law_mixed pass0 (pa_cons (pe_call G__law_cell_at hr (by rfl) m__law_cell_at k__law_cell_at b__law_cell_at v__law_cell_at pass0 (pa_cons (pv 0) (pa_cons pe_int pa_nil))) (pa_cons (pe_op op_add pe_int (pv 1)) pa_nil))))
      (pss_one (ps_ret (pe_lst (pa_cons (pv 2) (pa_cons (pv 2) (pa_cons pe_int pa_nil)))))))), ?_⟩
    refine ⟨_, rfl, .ref a, rfl, a, ns.map V.int, rfl, .inl hS, _, _, rfl, rfl, _, rfl, ite2 (fun e => ?_) (fun e => ?_)⟩
    · have hk : k < ns.length := by
        have z := of_decide_eq_true e
        rw [List.length_map] at z
        omega
      have g : (ns.map V.int)[k]? = some (.int ns[k]) := by
        rw [List.getElem?_map, List.getElem?_eq_getElem hk]
        rfl
      refine ⟨.ref a, rfl, _, rfl, a, _, _, _, rfl, rfl, hS, atI_nat g, .ref a, rfl, _, rfl, a, _, _, _, rfl, rfl, hS, atI_nat g, by simp [sizeLine_eq], fun p hp => ?_⟩
      exact q _ p (same_upd hp) hp ⟨_, _, _, upd_same⟩
    · refine ⟨.ref a, rfl, a, ns, 0, rfl, hS, fun v => ⟨_, rfl, 1000, _, rfl, rfl, v, _, rfl, fun r _ _ => ?_⟩⟩
      refine ⟨_, rfl, _, rfl, by simp [sizeLine_eq], fun p hp => ?_⟩
      exact q _ p (same_upd hp) hp ⟨_, _, _, upd_same⟩
def spNext : Sp := fun vs H Q _ => ∃ (p : Addr) (m : Int), vs = [.ref p, .int m] ∧ 0 < m ∧ m < 2 ^ 300 ∧ SrcAt H p ∧ ∀ (r : Nat) H', (r : Int) < m → Stp p H H' → Q (.int (r : Nat)) H'
theorem ok_next {f : Addr} {fd : FuncData} (F : Fun K "_law_next" "_law_next" s__law_next f fd) (h2 : Has P w K mg base 1 "_law_mixed" ["_law_cell", "_law_k"] [] spMixed) : FnOk P w K mg base CX0 2 f fd ["_law_source_here", "_law_many"] spNext := by
  obtain ⟨f__law_mixed, fd__law_mixed, ds__law_mixed, G__law_mixed, m__law_mixed, k__law_mixed, b__law_mixed, v__law_mixed⟩ := h2
  refine F.ok sc__law_next (fun vs H Q E h => ?_) (fun cdv A outer s H vs Q E hr h => ?_)
  · obtain ⟨p, m, rfl, _⟩ := h
    rfl
  · obtain ⟨p, m, rfl, hm, hm2, ⟨a, b, c, hp⟩, q⟩ := h
    have fin : ∀ (x : Int) (H' : Hp), Stp p H H' → Q (.int (x % m)) H' := fun x H' s => by
      have h0 : 0 ≤ x % m := Int.emod_nonneg _ (by omega)
      have h1 : x % m < m := Int.emod_lt_of_pos _ hm
      have e : ((x % m).toNat : Int) = x % m := Int.toNat_of_nonneg h0
      have z := q (x % m).toNat H' (by omega) s
      rw [e] at z
      exact z
    have st : ∀ x y z : Int, Stp p H (upd H p (.lst [.int x, .int y, .int z])) := fun x y z => ⟨fun q o n e => by rw [upd_ne n]; exact e, ⟨x, y, z, upd_same⟩⟩
    refine ⟨_, (pss_cons (ps_if (pt_cmpR op_ge (pe_ix (ix_listK (K := K) rfl) (pv 0) pe_int (fun _ _ => rfl)) (pe_op op_pow pe_int pe_int) (nomark _))
        (pss_cons (ps_set (i := 2) sc__law_next.nd rfl (.inl rfl) (pe_op op_mod (pe_ix (ix_listK (K := K) rfl) (pv 0) pe_int (fun _ _ => rfl)) (pv 1)))
        (pss_cons (ps_asg (pe_op op_fdivW (pe_ix (ix_listK (K := K) rfl) (pv 0) pe_int (fun _ _ => rfl)) (pv 1)) (pg_sub (pv 0) pe_int set_list))
        (pss_one (ps_ret (pv 2)))))
        pss_nil)
      (pss_cons (ps_asg (pe_op op_add (pe_ix (ix_listK (K := K) rfl) (pv 0) pe_int (fun _ _ => rfl)) pe_int) (pg_sub (pv 0) pe_int set_list))
      (pss_one (ps_ret (pe_op op_mod (pe_call G__law_mixed hr (by rfl) m__law_mixed k__law_mixed b__law_mixed v__law_mixed pass0 (pa_cons (pe_ix (ix_listK (K := K) rfl) (pv 0) pe_int (fun _ _ => rfl)) (pa_cons (pe_ix (ix_listK (K := K) rfl) (pv 0) pe_int (fun _ _ => rfl)) pa_nil))) (pv 1)))))), ?_⟩
    refine ⟨.ref p, rfl, p, _, 0, .int a, rfl, rfl, SqL.of hp, atI_nat (j := 0) rfl, 10, 18, rfl, rfl, ⟨by decide, by decide, by decide⟩, a, _, rfl, rfl, _, rfl, ite2 (fun _ => ?_) (fun _ => ?_)⟩
    · refine ⟨.ref p, rfl, p, _, 0, .int a, rfl, rfl, SqL.of hp, atI_nat (j := 0) rfl, .int m, rfl, a, m, rfl, rfl, hm, ?_⟩
      refine ⟨.ref p, rfl, p, _, 0, .int a, rfl, rfl, SqL.of hp, atI_nat (j := 0) rfl, .int m, rfl, a, m, rfl, rfl, div_s hm hm2, ?_⟩
      refine ⟨.ref p, rfl, p, _, 0, 0, rfl, rfl, hp, rfl, ?_⟩
      exact ⟨_, rfl, fin a _ (st _ _ _)⟩
    · refine ⟨.ref p, rfl, p, _, 2, .int c, rfl, rfl, SqL.of hp, atI_nat (j := 2) rfl, c, 1, rfl, rfl, ?_⟩
      refine ⟨.ref p, rfl, p, _, 2, 2, rfl, rfl, hp, rfl, ?_⟩
      have h2 : (upd H p (.lst [.int a, .int b, .int (c + 1)])) p = some (.lst [.int a, .int b, .int (c + 1)]) := upd_same
      refine ⟨.ref p, rfl, p, _, 1, .int b, rfl, rfl, SqL.of h2, atI_nat (j := 1) rfl, .ref p, rfl, p, _, 2, .int (c + 1), rfl, rfl, SqL.of h2, atI_nat (j := 2) rfl, b, c + 1, rfl, fun r _ _ => ?_⟩
      exact ⟨.int m, rfl, r, m, rfl, rfl, hm, fin r _ (st _ _ _)⟩
end
/-! ### data equal to itself -/
theorem neq_refl {d : PyData} (h : d.canLay0 = true) : V.bl (!PyData.eqv d d) = V.bl false := by
  rw [SeqAt.eqv_refl d h]
  rfl
theorem eq_refl {d : PyData} (h : d.canLay0 = true) : V.bl (PyData.eqv d d) = V.bl true := by
  rw [SeqAt.eqv_refl d h]
/-! ### law k20: pairs, measures, ticks gone through, what is right -/
section
variable {P : Program} {w : World} {K : PySem.W.Frag} {mg : Str → Option Value} {base : Heap}
def spPair20 : Sp := fun vs H Q _ => ∃ (p : Addr) (m : Nat), vs = [.ref p, .int (m : Nat)] ∧ 1 ≤ m ∧ m < 2 ^ 62 ∧ SrcAt H p ∧ ∀ (a q : Nat) H' T, a < 2 ^ 100 → 1 ≤ q → q < 2 ^ 110 → Stp p H H' → H T = none → H' T = some (.tup [.int (a : Nat), .int (q : Nat)]) → Q (.ref T) H'
theorem ok_pair20 {f : Addr} {fd : FuncData} (F : Fun K "_law_pair" "_law_pair" s__law_pair f fd) (h1 : Has P w K mg base 2 "_law_next" ["_law_source_here", "_law_many"] [] spNext) : FnOk P w K mg base CX0 3 f fd ["_law_source_here", "_law_measure_here"] spPair20 := by
  obtain ⟨f__law_next, fd__law_next, ds__law_next, G__law_next, m__law_next, k__law_next, b__law_next, v__law_next⟩ := h1
  refine F.ok sc__law_pair (fun vs H Q E h => ?_) (fun cdv A outer s H vs Q E hr h => ?_)
  · obtain ⟨p, m, rfl, _⟩ := h
    rfl
  · obtain ⟨p, m, rfl, hm1, hm2, hs, q⟩ := h
    have two : ∀ {H : Hp} {l : Addr} {o : HO}, SrcAt H p → H l = none → Stp p H (upd H l o) ∧ l ≠ p := fun {H l o} hs hl =>
      ⟨hs.stp_same (same_upd hl), hs.ne hl⟩
    refine ⟨_, (pss_cons (ps_set (i := 2) sc__law_pair.nd rfl (.inl rfl) (pe_ix (ix_listK (K := K) rfl) (pe_lst (pa_cons pe_int (pa_cons pe_int (pa_cons (pe_op op_pow pe_int pe_int) pa_nil)))) (pe_call G__law_next hr (by rfl) m__law_next k__law_next b__law_next v__law_next pass0 (pa_cons (pv 0) (pa_cons pe_int pa_nil))) (fun _ _ => rfl)))
      (pss_cons (ps_set (i := 3) sc__law_pair.nd rfl (.inl rfl) (pe_lst (pa_cons (pe_call G__law_next hr (by rfl) m__law_next k__law_next b__law_next v__law_next pass0 (pa_cons (pv 0) (pa_cons pe_int pa_nil))) (pa_cons (pe_call G__law_next hr (by rfl) m__law_next k__law_next b__law_next v__law_next pass0 (pa_cons (pv 0) (pa_cons pe_int pa_nil))) (pa_cons (pe_op op_addN (pe_op op_mulN (pv 1) (pe_call G__law_next hr (by rfl) m__law_next k__law_next b__law_next v__law_next pass0 (pa_cons (pv 0) (pa_cons (pe_op op_pow pe_int pe_int) pa_nil)))) (pe_call G__law_next hr (by rfl) m__law_next k__law_next b__law_next v__law_next pass0 (pa_cons (pv 0) (pa_cons pe_int pa_nil)))) pa_nil)))))
      (pss_cons (ps_expr (pe_bm PySem.F.plainAttrs_list PySem.F.slot_list_append PySem.F.type_list_append mt_append (pv 3) (pa_cons (pe_op op_addN (pe_op op_pow pe_int pe_int) (pe_call G__law_next hr (by rfl) m__law_next k__law_next b__law_next v__law_next pass0 (pa_cons (pv 0) (pa_cons (pe_op op_pow pe_int pe_int) pa_nil)))) pa_nil)))
      (pss_one (ps_ret (pe_tup (pa_cons (pe_ix (ix_listK (K := K) rfl) (pv 3) (pe_call G__law_next hr (by rfl) m__law_next k__law_next b__law_next v__law_next pass0 (pa_cons (pv 0) (pa_cons pe_int pa_nil))) (fun _ _ => rfl)) (pa_cons (pe_op op_mulN (pv 1) (pe_op op_addN pe_int (pe_call G__law_next hr (by rfl) m__law_next k__law_next b__law_next v__law_next pass0 (pa_cons (pv 0) (pa_cons (pv 2) pa_nil))))) pa_nil)))))))), ?_⟩
    refine ⟨10, 12, rfl, rfl, ⟨by decide, by decide, by decide⟩, by simp [sizeLine_eq], fun l hl => ?_⟩
    obtain ⟨s1, nl⟩ := two (o := .lst [.int 6, .int 1000, .int (10 ^ (12 : Int).toNat)]) hs hl
    refine ⟨_, rfl, p, 3, rfl, by decide, by decide, s1.src, fun c H2 hc s2 => ?_⟩
    have el := s2.keep _ _ nl upd_same
    obtain ⟨mo, emo, hmo0, hmo1⟩ : ∃ mo : Int, ([.int 6, .int 1000, .int (10 ^ (12 : Int).toNat)] : List V)[c]? = some (.int mo) ∧ 0 < mo ∧ mo ≤ 1000000000000 := by
      have hc3 : c < 3 := by omega
      match c, hc3 with
      | 0, _ => exact ⟨6, rfl, by decide, by decide⟩
      | 1, _ => exact ⟨1000, rfl, by decide, by decide⟩
      | 2, _ => exact ⟨_, rfl, by decide, by decide⟩
      | c + 3, h => omega
    refine ⟨l, _, c, _, rfl, rfl, SqL.of el, atI_nat emo, ?_⟩
    -- far
    refine ⟨_, rfl, p, 9, rfl, by decide, by decide, s2.src, fun r1 H3 hr1 s3 => ?_⟩
    refine ⟨_, rfl, p, 40, rfl, by decide, by decide, s3.src, fun r2 H4 hr2 s4 => ?_⟩
    refine ⟨_, rfl, _, rfl, 10, 6, rfl, rfl, ⟨by decide, by decide, by decide⟩, p, _, rfl, by decide, by decide, s4.src, fun r3 H5 hr3 s5 => ?_⟩
    have hr3' : r3 < 10 ^ 6 := by
      have e : (10 : Int) ^ (6 : Int).toNat = 1000000 := by decide
      have z : (r3 : Int) < 10 ^ (6 : Int).toNat := hr3
      omega
    refine ⟨m, r3, rfl, rfl, nmul_l (by omega), _, rfl, p, 3, rfl, by decide, by decide, s5.src, fun r4 H6 hr4 s6 => ?_⟩
    refine ⟨m * r3, r4, rfl, rfl, trivial, by simp [sizeLine_eq], fun L hL => ?_⟩
    obtain ⟨s7, nL⟩ := two (o := .lst [.int (r1 : Nat), .int (r2 : Nat), .int ((m * r3 + r4 : Nat) : Int)]) s6.src hL
    have eL7 : (upd H6 L (.lst [.int (r1 : Nat), .int (r2 : Nat), .int ((m * r3 + r4 : Nat) : Int)])) L = some (.lst [.int (r1 : Nat), .int (r2 : Nat), .int ((m * r3 + r4 : Nat) : Int)]) := upd_same
    have hL2 : H L = none := (((((s1.trans s2).trans s3).trans s4).trans s5).trans s6).free hL
    refine ⟨_, rfl, .inl ⟨rfl, _, .inl (.inl eL7)⟩, 10, 25, rfl, rfl, ⟨by decide, by decide, by decide⟩, _, rfl, 10, 9, rfl, rfl, ⟨by decide, by decide, by decide⟩, p, _, rfl, by decide, by decide, s7.src, fun r5 H8 hr5 s8 => ?_⟩
    have hr5' : r5 < 10 ^ 9 := by
      have e : (10 : Int) ^ (9 : Int).toNat = 1000000000 := by decide
      have z : (r5 : Int) < 10 ^ (9 : Int).toNat := hr5
      omega
    have eL8 := s8.keep _ _ nL eL7
    refine ⟨10000000000000000000000000, r5, congrArg V.int (by decide), rfl, trivial, L, _, _, rfl, rfl, eL8, by simp [sizeLine_eq], ?_⟩
    have s08 : Stp p H H8 := (((((((s1.trans s2).trans s3).trans s4).trans s5).trans s6).trans s7).trans s8)
    have s9 : Stp p H (upd H8 L (.lst ([.int (r1 : Nat), .int (r2 : Nat), .int ((m * r3 + r4 : Nat) : Int)] ++ [.int ((10000000000000000000000000 + r5 : Nat) : Int)]))) := ⟨fun c o n e => by
      rw [upd_ne (ne_of_none e hL2)]
      exact s08.keep _ _ n e, by
      obtain ⟨x, y, u, h⟩ := s08.src
      exact ⟨x, y, u, by rw [upd_ne nL.symm]; exact h⟩⟩
    -- the tuple
    refine ⟨_, rfl, _, rfl, p, 4, rfl, by decide, by decide, s9.src, fun c2 H10 hc2 s10 => ?_⟩
    have eL10 := s10.keep _ _ nL upd_same
    have hmr : m * r3 < 2 ^ 82 := by
      have z := Nat.mul_lt_mul'' hm2 (show r3 < 2 ^ 20 by omega)
      rw [← Nat.pow_add] at z
      exact z
    obtain ⟨a, ha, ea⟩ : ∃ a : Nat, a < 2 ^ 100 ∧ ([.int (r1 : Nat), .int (r2 : Nat), .int ((m * r3 + r4 : Nat) : Int)] ++ [.int ((10000000000000000000000000 + r5 : Nat) : Int)] : List V)[c2]? = some (.int (a : Nat)) := by
      have hc4 : c2 < 4 := by omega
      match c2, hc4 with
      | 0, _ => exact ⟨r1, by omega, rfl⟩
      | 1, _ => exact ⟨r2, by omega, rfl⟩
      | 2, _ => exact ⟨m * r3 + r4, by omega, rfl⟩
      | 3, _ => exact ⟨10000000000000000000000000 + r5, by omega, rfl⟩
      | c + 4, h => omega
    refine ⟨L, _, c2, _, rfl, rfl, SqL.of eL10, atI_nat ea, ?_⟩
    refine ⟨_, rfl, _, rfl, _, rfl, p, mo, rfl, hmo0, by omega, s10.src, fun r6 H11 hr6 s11 => ?_⟩
    have hr6' : 1 + r6 ≤ 1000000000000 := by omega
    have hq : m * (1 + r6) < 2 ^ 110 := by
      have z := Nat.mul_lt_mul'' hm2 (show 1 + r6 < 2 ^ 41 by omega)
      rw [← Nat.pow_add] at z
      exact Nat.lt_trans z (by decide)
    refine ⟨1, r6, rfl, rfl, trivial, m, 1 + r6, rfl, rfl, nmul_l (by omega), by simp [sizeLine_eq], fun T hT => ?_⟩
    have s0B : Stp p H H11 := (s9.trans s10).trans s11
    exact q a (m * (1 + r6)) _ T ha (Nat.mul_pos hm1 (by omega)) hq (s0B.same (same_upd hT)) (s0B.free hT) upd_same
def spGcd : Sp := fun vs H Q _ => ∃ n m : Nat, vs = [.int (n : Nat), .int (m : Nat)] ∧ Q (.int (Nat.gcd n m : Nat)) H
theorem ok_law_measure {f : Addr} {fd : FuncData} (F : Fun K "_law_measure" "_law_measure" s__law_measure f fd) : FnOk P w K mg base CX0 1 f fd ["_law_one", "_law_two"] spGcd := by
  refine F.ok sc__law_measure (fun vs H Q E h => ?_) (fun cdv A outer s H vs Q E hr h => ?_)
  · obtain ⟨n, m, rfl, _⟩ := h
    rfl
  · obtain ⟨n, m, rfl, q⟩ := h
    refine ⟨_, (pss_cons (ps_while PassesOwn.never (pt_cmpR op_gt (pv 1) pe_int (nomark _))
        (pss_one (ps_par (i := 0) (j := 1) (by rfl) sc__law_measure.nd rfl rfl (by decide) rfl rfl (pa_cons (pv 1) (pa_cons (pe_op op_remN (pv 0) (pv 1)) pa_nil)) (by rfl))))
      (pss_one (ps_ret (pv 0)))), ?_⟩
    refine while_by (fun σ H' => ∃ x y : Nat, σ = [some (.int (x : Nat)), some (.int (y : Nat))] ∧ H' = H ∧ Nat.gcd x y = Nat.gcd n m) (fun σ _ => slotInt σ 1) ⟨n, m, rfl, rfl, rfl⟩ ?_ ?_
    · rintro σ H' ⟨x, y, rfl, rfl, hg⟩
      by_cases h0 : y = 0
      · refine ⟨_, rfl, _, _, rfl, rfl, false, dF (by omega), iteF ⟨_, rfl, ?_⟩⟩
        rw [h0, Nat.gcd_zero_right] at hg
        rw [hg]
        exact q
      · have hy : 0 < y := by omega
        refine ⟨_, rfl, _, _, rfl, rfl, true, dT (by omega), iteT ?_⟩
        refine ⟨_, rfl, _, rfl, _, rfl, x, y, rfl, rfl, hy, _, _, rfl, ⟨y, x % y, rfl, rfl, ?_⟩, ?_⟩
        · rw [Nat.gcd_comm, ← Nat.gcd_rec, Nat.gcd_comm]
          exact hg
        · show (((x % y : Nat) : Int)).toNat < ((y : Int)).toNat
          rw [Int.toNat_natCast, Int.toNat_natCast]
          exact Nat.mod_lt x hy
    · rintro σ H' Q1 Q2 h ⟨x, hx, i, j, e1, e2, k, e, z⟩
      exact ⟨x, hx, i, j, e1, e2, k, e, h _ _ z⟩
def Both (a p o q t : Nat) : Prop := p ∣ t - a ∧ q ∣ t - o
def GoneV (a p o q : Nat) (v : V) : Prop := (∃ f : Nat, v = .int (f : Nat) ∧ max a o ≤ f ∧ f < max a o + p * q ∧ Both a p o q f ∧ ∀ t, max a o ≤ t → t < f → ¬ Both a p o q t) ∨ (v = .non ∧ ∀ t, max a o ≤ t → t < max a o + p * q → ¬ Both a p o q t)
def spGone : Sp := fun vs H Q _ => ∃ (t1 t2 : Addr) (a p o q : Nat), vs = [.ref t1, .ref t2] ∧ H t1 = some (.tup [.int (a : Nat), .int (p : Nat)]) ∧ H t2 = some (.tup [.int (o : Nat), .int (q : Nat)]) ∧ 1 ≤ p ∧ 1 ≤ q ∧ p * q < 3000 ∧ ∀ v, GoneV a p o q v → Q v H
theorem ok_gone_through {f : Addr} {fd : FuncData} (F : Fun K "_law_gone_through" "_law_gone_through" s__law_gone_through f fd) (T : Tx K mg) : FnOk P w K mg base CX0 1 f fd ["_law_one", "_law_two"] spGone := by
  refine F.ok sc__law_gone_through (fun vs H Q E h => ?_) (fun cdv A outer s H vs Q E hr h => ?_)
  · obtain ⟨t1, t2, a, p, o, q, rfl, _⟩ := h
    rfl
  · obtain ⟨t1, t2, a, p, o, q, rfl, e1, e2, hp, hq, hpq, c⟩ := h
    have hp3 : p < 3000 := by
      have z : p * 1 ≤ p * q := Nat.mul_le_mul_left p hq
      omega
    refine ⟨_, (pss_cons (ps_set (i := 2) sc__law_gone_through.nd rfl (.inl rfl) (pe_callB (max2N rfl) (by rfl) T.b_max (by decide +kernel) (pa_cons (pe_ix (ix_tupK (K := K) rfl) (pv 0) pe_int (fun _ _ => rfl)) (pa_cons (pe_ix (ix_tupK (K := K) rfl) (pv 1) pe_int (fun _ _ => rfl)) pa_nil))))
      (pss_cons (ps_for PassesOwn.never rfl (pi_wide2 (by rfl) T.b_range (pa_cons (pv 2) (pa_cons (pe_op op_addN (pv 2) (pe_op op_mulN (pe_ix (ix_tupK (K := K) rfl) (pv 0) pe_int (fun _ _ => rfl)) (pe_ix (ix_tupK (K := K) rfl) (pv 1) pe_int (fun _ _ => rfl)))) pa_nil))) (pg_name (i := 3) sc__law_gone_through.nd rfl (.inl rfl))
        (pss_one (ps_if (PW.pt (pw_and (pt_cmpR op_eq (pe_op op_remN (pe_op op_subN (pv 3) (pe_ix (ix_tupK (K := K) rfl) (pv 0) pe_int (fun _ _ => rfl))) (pe_ix (ix_tupK (K := K) rfl) (pv 0) pe_int (fun _ _ => rfl))) pe_int (nomark _)) (pw_and1 (pt_cmpR op_eq (pe_op op_remN (pe_op op_subN (pv 3) (pe_ix (ix_tupK (K := K) rfl) (pv 1) pe_int (fun _ _ => rfl))) (pe_ix (ix_tupK (K := K) rfl) (pv 1) pe_int (fun _ _ => rfl))) pe_int (nomark _)))))
          (pss_one (ps_ret (pv 3)))
          pss_nil)))
      (pss_one (ps_ret pe_non)))), ?_⟩
    refine ⟨.ref t1, rfl, t1, _, 0, _, rfl, rfl, .inl (.inl e1), atI_nat (j := 0) rfl, .ref t2, rfl, t2, _, 0, _, rfl, rfl, .inl (.inl e2), atI_nat (j := 0) rfl, a, o, rfl, ?_⟩
    refine ⟨_, rfl, _, rfl, .ref t1, rfl, t1, _, 1, _, rfl, rfl, .inl (.inl e1), atI_nat (j := 1) rfl, .ref t2, rfl, t2, _, 1, _, rfl, rfl, .inl (.inl e2), atI_nat (j := 1) rfl, p, q, rfl, rfl, nmul_l (by omega), max a o, p * q, rfl, rfl, trivial, _, _, rfl, for_range (lo := ((max a o : Nat) : Int)) (Pv := fun i σ H' => H' = H ∧ (∃ y, σ = [some (.ref t1), some (.ref t2), some (.int (max a o : Nat)), y]) ∧ ∀ j, j < i → ¬ Both a p o q (max a o + j)) ⟨rfl, ⟨none, rfl⟩, fun j hj => absurd hj (Nat.not_lt_zero j)⟩ ?_ ?_⟩
    · rintro i σ H' hi ⟨rfl, ⟨y, rfl⟩, hno⟩
      have hi2 : i < p * q := by
        have z : (((max a o + p * q : Nat) : Int) - ((max a o : Nat) : Int)).toNat = p * q := by omega
        have z2 : i < (((max a o + p * q : Nat) : Int) - ((max a o : Nat) : Int)).toNat := hi
        omega
      have skip : ¬ Both a p o q (max a o + i) → ∀ j, j < i + 1 → ¬ Both a p o q (max a o + j) := fun h j hj => by
        by_cases e : j = i
        · rw [e]
          exact h
        · exact hno j (by omega)
      refine ⟨_, rfl, .ref t1, rfl, t1, _, 0, _, rfl, rfl, .inl (.inl e1), atI_nat (j := 0) rfl, max a o + i, a, rfl, rfl, by show a ≤ max a o + i; omega, .ref t1, rfl, t1, _, 1, _, rfl, rfl, .inl (.inl e1), atI_nat (j := 1) rfl, max a o + i - a, p, rfl, rfl, hp, rfl, ?_⟩
      by_cases d1 : (max a o + i - a) % p = 0
      · refine ⟨true, dT (vE (b := 0) d1), iteT ?_⟩
        refine ⟨_, rfl, .ref t2, rfl, t2, _, 0, _, rfl, rfl, .inl (.inl e2), atI_nat (j := 0) rfl, max a o + i, o, rfl, rfl, by show o ≤ max a o + i; omega, .ref t2, rfl, t2, _, 1, _, rfl, rfl, .inl (.inl e2), atI_nat (j := 1) rfl, max a o + i - o, q, rfl, rfl, hq, rfl, ?_⟩
        by_cases d2 : (max a o + i - o) % q = 0
        · refine ⟨true, dT (vE (b := 0) d2), iteT ⟨_, rfl, ?_⟩⟩
          refine c _ (.inl ⟨max a o + i, rfl, by omega, by omega, ⟨Nat.dvd_of_mod_eq_zero d1, Nat.dvd_of_mod_eq_zero d2⟩, fun t h1 h2 => ?_⟩)
          have z := hno (t - max a o) (by omega)
          rw [show max a o + (t - max a o) = t by omega] at z
          exact z
        · refine ⟨false, dF (vN (b := 0) d2), iteF ?_⟩
          exact ⟨rfl, ⟨_, rfl⟩, skip fun z => d2 (Nat.mod_eq_zero_of_dvd z.2)⟩
      · refine ⟨false, dF (vN (b := 0) d1), iteF (iteF ?_)⟩
        exact ⟨rfl, ⟨_, rfl⟩, skip fun z => d1 (Nat.mod_eq_zero_of_dvd z.1)⟩
    · rintro σ H' ⟨rfl, ⟨y, rfl⟩, hno⟩
      refine c _ (.inr ⟨rfl, fun t h1 h2 => ?_⟩)
      have z := hno (t - max a o) (by
        have z : (((max a o + p * q : Nat) : Int) - ((max a o : Nat) : Int)).toNat = p * q := by omega
        show t - max a o < (((max a o + p * q : Nat) : Int) - ((max a o : Nat) : Int)).toNat
        omega)
      rw [show max a o + (t - max a o) = t by omega] at z
      exact z
def spRight20 : Sp := fun vs H Q _ => ∃ (t1 t2 : Addr) (v : V) (a p o q : Nat), vs = [.ref t1, .ref t2, v] ∧ H t1 = some (.tup [.int (a : Nat), .int (p : Nat)]) ∧ H t2 = some (.tup [.int (o : Nat), .int (q : Nat)]) ∧ 1 ≤ p ∧ 1 ≤ q ∧ p < 2 ^ 210 ∧ q < 2 ^ 210 ∧ MeetV H v a p o q ∧ Q (.bl true) H
theorem ok_law_right {f : Addr} {fd : FuncData} (F : Fun K "_law_right" "_law_right" s__law_right f fd) (T : Tx K mg) (h1 : Has P w K mg base 1 "_law_measure" ["_law_one", "_law_two"] [] spGcd) : FnOk P w K mg base CX0 2 f fd ["_law_one", "_law_two", "_law_told"] spRight20 := by
  obtain ⟨f__law_measure, fd__law_measure, ds__law_measure, G__law_measure, m__law_measure, k__law_measure, b__law_measure, v__law_measure⟩ := h1
  refine F.ok sc__law_right (fun vs H Q E h => ?_) (fun cdv A outer s H vs Q E hr h => ?_)
  · obtain ⟨t1, t2, v, a, p, o, q, rfl, _⟩ := h
    rfl
  · obtain ⟨t1, t2, v, a, p, o, q, rfl, e1, e2, hp, hq, hp2, hq2, hm, c⟩ := h
    have hg : 0 < Nat.gcd p q := Nat.gcd_pos_of_pos_left q hp
    have hg2 : Nat.gcd p q < 2 ^ 210 := Nat.lt_of_le_of_lt (Nat.le_of_dvd (by omega) (Nat.gcd_dvd_left p q)) hp2
    have sw : ((o : Int) - a) % ((Nat.gcd p q : Nat) : Int) = 0 ↔ ((a : Int) - o) % ((Nat.gcd p q : Nat) : Int) = 0 := by
      have z := gcd_swap (a := a) (o := o) (p := p) (q := q)
      rw [Nat.gcd_comm q p] at z
      exact z
    refine ⟨_, (pss_cons (ps_set (i := 3) sc__law_right.nd rfl (.inl rfl) (pe_call G__law_measure hr (by rfl) m__law_measure k__law_measure b__law_measure v__law_measure pass0 (pa_cons (pe_ix (ix_tupK (K := K) rfl) (pv 0) pe_int (fun _ _ => rfl)) (pa_cons (pe_ix (ix_tupK (K := K) rfl) (pv 1) pe_int (fun _ _ => rfl)) pa_nil))))
      (pss_cons (ps_if (pt_cmpR op_ne (pe_op op_mod (pe_op op_sub (pe_ix (ix_tupK (K := K) rfl) (pv 0) pe_int (fun _ _ => rfl)) (pe_ix (ix_tupK (K := K) rfl) (pv 1) pe_int (fun _ _ => rfl))) (pv 3)) pe_int (nomark _))
        (pss_one (ps_ret (pe_cmpR op_isN (pv 2) pe_non (nomark _))))
        pss_nil)
      (pss_cons (ps_if (PW.pt (pw_or (pt_not (pt_val (pe_callB (isiK (K := K) rfl) (by rfl) T.b_isinstance (by decide +kernel) (pa_cons (pv 2) (pa_cons (pe_bltn (v := .ty "tuple") (u := .type "tuple") (by rfl) T.b_tuple (by decide +kernel) rfl) pa_nil))))) (pw_or (pt_cmpR op_ne (pe_callB (lenK (K := K) rfl) (by rfl) T.b_len PySem.boot_len (pa_cons (pv 2) pa_nil)) pe_int (nomark _)) (pw_or (pt_val (pe_callB (isiK (K := K) rfl) (by rfl) T.b_isinstance (by decide +kernel) (pa_cons (pe_ix (ix_tupK (K := K) rfl) (pv 2) pe_int (fun _ _ => rfl)) (pa_cons (pe_bltn (v := .ty "bool") (u := .type "bool") (by rfl) T.b_bool (by decide +kernel) rfl) pa_nil)))) (pw_or1 (pt_val (pe_callB (isiK (K := K) rfl) (by rfl) T.b_isinstance (by decide +kernel) (pa_cons (pe_ix (ix_tupK (K := K) rfl) (pv 2) pe_int (fun _ _ => rfl)) (pa_cons (pe_bltn (v := .ty "bool") (u := .type "bool") (by rfl) T.b_bool (by decide +kernel) rfl) pa_nil)))))))))
        (pss_one (ps_ret pe_bl))
        pss_nil)
      (pss_cons (ps_asg (pv 2) (pg_tupK (K := K) (n := 2) rfl rfl (pgs_cons (pg_name (i := 4) sc__law_right.nd rfl (.inl rfl)) (pgs_cons (pg_name (i := 5) sc__law_right.nd rfl (.inl rfl)) pgs_nil))))
      (pss_cons (ps_if (PW.pt (pw_or (pt_cmpR op_ne (pv 5) (pe_op op_fdivW (pe_op op_mulA (pe_ix (ix_tupK (K := K) rfl) (pv 0) pe_int (fun _ _ => rfl)) (pe_ix (ix_tupK (K := K) rfl) (pv 1) pe_int (fun _ _ => rfl))) (pv 3)) (nomark _)) (pw_or1 (pt_not (pt_chain op_le op_lt pe_int (pe_op op_sub (pv 4) (pe_callB (max2N rfl) (by rfl) T.b_max (by decide +kernel) (pa_cons (pe_ix (ix_tupK (K := K) rfl) (pv 0) pe_int (fun _ _ => rfl)) (pa_cons (pe_ix (ix_tupK (K := K) rfl) (pv 1) pe_int (fun _ _ => rfl)) pa_nil)))) (pv 5))))))
        (pss_one (ps_ret pe_bl))
        pss_nil)
      (pss_one (ps_ret (pe_and (pe_cmpR op_eq (pe_op op_mod (pe_op op_sub (pv 4) (pe_ix (ix_tupK (K := K) rfl) (pv 0) pe_int (fun _ _ => rfl))) (pe_ix (ix_tupK (K := K) rfl) (pv 0) pe_int (fun _ _ => rfl))) pe_int (nomark _)) (pe_one (pe_cmpR op_eq (pe_op op_mod (pe_op op_sub (pv 4) (pe_ix (ix_tupK (K := K) rfl) (pv 1) pe_int (fun _ _ => rfl))) (pe_ix (ix_tupK (K := K) rfl) (pv 1) pe_int (fun _ _ => rfl))) pe_int (nomark _))))))))))), ?_⟩
    refine ⟨.ref t1, rfl, t1, _, 1, _, rfl, rfl, .inl (.inl e1), atI_nat (j := 1) rfl, .ref t2, rfl, t2, _, 1, _, rfl, rfl, .inl (.inl e2), atI_nat (j := 1) rfl, p, q, rfl, ?_⟩
    refine ⟨.ref t1, rfl, t1, _, 0, _, rfl, rfl, .inl (.inl e1), atI_nat (j := 0) rfl, .ref t2, rfl, t2, _, 0, _, rfl, rfl, .inl (.inl e2), atI_nat (j := 0) rfl, (a : Nat), (o : Nat), rfl, rfl, _, rfl, (a : Int) - o, ((Nat.gcd p q : Nat) : Int), rfl, rfl, Int.natCast_pos.mpr hg, rfl, ?_⟩
    rcases hm with ⟨hn, rfl⟩ | ⟨hy, t, fst, e, rfl, et, he, b1, b2, b3, b4⟩
    · refine ⟨true, nT (vI fun z => hn (sw.mpr z)), iteT ?_⟩
      exact ⟨_, rfl, rfl, c⟩
    · refine ⟨false, nF (congrArg V.int (sw.mp hy)), iteF ?_⟩
      refine ⟨.ref t, rfl, _, _, _, _, true, rfl, .ty "tuple", tyx_tup et, kit_ty (by decide +kernel), true, rfl, iteF ?_⟩
      refine ⟨.ref t, rfl, t, _, rfl, .inr (.inl (.inl et)), rfl, false, nF rfl, iteF ?_⟩
      refine ⟨.ref t, rfl, t, _, 0, _, rfl, rfl, .inl (.inl et), atI_nat (j := 0) rfl, _, _, _, _, false, rfl, .ty "bool", .base (.int _), kit_ty (by decide +kernel), false, rfl, iteF ?_⟩
      refine ⟨.ref t, rfl, t, _, 1, _, rfl, rfl, .inl (.inl et), atI_nat (j := 1) rfl, _, _, _, _, false, rfl, .ty "bool", .base (.int _), kit_ty (by decide +kernel), false, rfl, iteF ?_⟩
      refine ⟨.ref t, rfl, t, _, rfl, .inl (.inl et), rfl, _, _, rfl, _, _, rfl, rfl, ?_⟩
      have epq : ((p * q : Nat) : Int) / ((Nat.gcd p q : Nat) : Int) = ((e : Nat) : Int) := by
        rw [he, Nat.div_mul_right_comm (Nat.gcd_dvd_left p q)]
        rfl
      refine ⟨_, rfl, .ref t1, rfl, t1, _, 1, _, rfl, rfl, .inl (.inl e1), atI_nat (j := 1) rfl, .ref t2, rfl, t2, _, 1, _, rfl, rfl, .inl (.inl e2), atI_nat (j := 1) rfl, (p : Nat), (q : Nat), rfl, rfl, mul_w 210 210 (by rw [natAbs_cast]; exact hp2) (by rw [natAbs_cast]; exact hq2), _, rfl, ((p * q : Nat) : Int), ((Nat.gcd p q : Nat) : Int), congrArg V.int (Int.natCast_mul p q).symm, rfl, wide_div (b := 210) (Int.natCast_pos.mpr hg) hg2 (by decide) (by decide), rfl, false, nF (congrArg V.int epq.symm), iteF ?_⟩
      refine ⟨_, rfl, .ref t1, rfl, t1, _, 0, _, rfl, rfl, .inl (.inl e1), atI_nat (j := 0) rfl, .ref t2, rfl, t2, _, 0, _, rfl, rfl, .inl (.inl e2), atI_nat (j := 0) rfl, a, o, rfl, (fst : Nat), ((max a o : Nat) : Int), rfl, rfl, 0, _, rfl, rfl, true, dT (by omega), iteT ?_⟩
      refine ⟨_, rfl, _, _, rfl, rfl, true, dT (by omega), iteF ?_⟩
      have z1 : ((fst : Int) - (a : Int)) % (p : Int) = 0 := by
        rw [← Int.natCast_sub (show a ≤ fst by omega)]
        exact congrArg Int.ofNat (Nat.mod_eq_zero_of_dvd b3)
      have z2 : ((fst : Int) - (o : Int)) % (q : Int) = 0 := by
        rw [← Int.natCast_sub (show o ≤ fst by omega)]
        exact congrArg Int.ofNat (Nat.mod_eq_zero_of_dvd b4)
      refine ⟨_, rfl, .ref t1, rfl, t1, _, 0, _, rfl, rfl, .inl (.inl e1), atI_nat (j := 0) rfl, (fst : Nat), (a : Nat), rfl, rfl, .ref t1, rfl, t1, _, 1, _, rfl, rfl, .inl (.inl e1), atI_nat (j := 1) rfl, _, (p : Nat), rfl, rfl, Int.natCast_pos.mpr hp, rfl, true, dT (congrArg V.int z1), iteT ?_⟩
      refine ⟨_, rfl, .ref t2, rfl, t2, _, 0, _, rfl, rfl, .inl (.inl e2), atI_nat (j := 0) rfl, (fst : Nat), (o : Nat), rfl, rfl, .ref t2, rfl, t2, _, 1, _, rfl, rfl, .inl (.inl e2), atI_nat (j := 1) rfl, _, (q : Nat), rfl, rfl, Int.natCast_pos.mpr hq, rfl, ?_⟩
      have z3 : V.bl (decide (V.int (((fst : Int) - (o : Int)) % (q : Int)) = V.int 0)) = V.bl true := dT (congrArg V.int z2)
      show Q (V.bl (decide (V.int (((fst : Int) - (o : Int)) % (q : Int)) = V.int 0))) H
      rw [z3]
      exact c
end
/-! ### the law's loop over its numbers -/
theorem seq_new {K : PySem.W.Frag} {a p : Addr} {xs : List V} {H H1 H2 : Hp} (h : SqL K H a xs) (hp : H p = none) (s1 : Same H H1) (s2 : Stp p H1 H2) : SqL K H2 a xs := by
  rcases h with (h | ⟨o, h⟩) | h
  · exact .inl (.inl (s2.keep _ _ (ne_of_none h hp) (s1 _ _ h)))
  · exact .inl (.inr ⟨o, s2.keep _ _ (ne_of_none h hp) (s1 _ _ h)⟩)
  · exact .inr h
/-! ### the law -/
def IsMD (a p o q : Nat) (d : PyData) : Prop :=
  (¬ ((o : Int) - a) % ((Nat.gcd p q : Nat) : Int) = 0 ∧ d = .none) ∨ (((o : Int) - a) % ((Nat.gcd p q : Nat) : Int) = 0 ∧ ∃ f e : Nat, d = .tuple [.int (f : Nat), .int (e : Nat)] ∧ IsMeet a p o q f e)
theorem meet_dp {K : PySem.W.Frag} {H : Hp} {v : V} {a p o q : Nat} (h : MeetV H v a p o q) : ∃ d, Dp K H v d ∧ IsMD a p o q d := by
  rcases h with ⟨h1, rfl⟩ | ⟨h1, t, f, e, rfl, et, hm⟩
  · exact ⟨_, .non, .inl ⟨h1, rfl⟩⟩
  · exact ⟨_, .tup (.inl (.inl et)) (.cons (.int _) (.cons (.int _) .nil)), .inr ⟨h1, f, e, rfl, hm⟩⟩
theorem IsMD.uniq {a p o q : Nat} {d d' : PyData} (hp : 1 ≤ p) (h : IsMD a p o q d) (h' : IsMD a p o q d') : d = d' := by
  rcases h with ⟨h1, e1⟩ | ⟨h1, f, e, e1, hm⟩
  · rcases h' with ⟨_, e2⟩ | ⟨h2, _⟩
    · rw [e1, e2]
    · exact absurd h2 h1
  · rcases h' with ⟨h2, _⟩ | ⟨_, f', e', e2, hm'⟩
    · exact absurd h1 h2
    · have ee : e' = e := hm'.1.trans hm.1.symm
      have ef : f' = f := meet_uniq hp hm hm'.2.1 (by rw [← ee]; exact hm'.2.2.1) hm'.2.2.2.1 hm'.2.2.2.2
      rw [e1, e2, ee, ef]
theorem IsMD.swap {a p o q : Nat} {d : PyData} (hq : 1 ≤ q) (h : IsMD o q a p d) : IsMD a p o q d := by
  rcases h with ⟨h1, e1⟩ | ⟨h1, f, e, e1, hm⟩
  · exact .inl ⟨fun z => h1 (gcd_swap.mp z), e1⟩
  · exact .inr ⟨gcd_swap.mpr h1, f, e, e1, hm.swap hq⟩
theorem IsMD.lay {a p o q : Nat} {d : PyData} (h : IsMD a p o q d) : d.canLay0 = true := by
  rcases h with ⟨_, rfl⟩ | ⟨_, f, e, rfl, _⟩ <;> rfl
theorem IsMD.shaped {a p o q : Nat} {d : PyData} (h : IsMD a p o q d) : SeqAt.shaped d = true := by
  rcases h with ⟨_, rfl⟩ | ⟨_, f, e, rfl, _⟩ <;> rfl
theorem MeetV.same {H H' : Hp} {v : V} {a p o q : Nat} (h : MeetV H v a p o q) (s : Same H H') : MeetV H' v a p o q := by
  rcases h with h | ⟨h1, t, f, e, h2, et, hm⟩
  · exact .inl h
  · exact .inr ⟨h1, t, f, e, h2, s _ _ et, hm⟩
/-- at t stands a timer as the law draws them -/
def PairAt (H : Hp) (t : Addr) : Prop := ∃ a q : Nat, a < 2 ^ 100 ∧ 1 ≤ q ∧ q < 2 ^ 110 ∧ H t = some (.tup [.int (a : Nat), .int (q : Nat)])
section
variable {P : Program} {w : World} {K : PySem.W.Frag} {mg : Str → Option Value} {base : Heap}
def spLaw (K : PySem.W.Frag) : Sp := fun vs H Q _ => ∃ (a : Addr) (ns : List Int), vs = [.ref a] ∧ SqL K H a (ns.map V.int) ∧ ns.length ≤ 63 ∧ ∀ H', Q (.bl true) H'
theorem ok_law {f : Addr} {fd : FuncData} (F : Fun K "law" "law" s_law f fd) (T : Tx K mg) (h1 : Has P w K mg base 2 "_law_source" ["_law_script", "_law_k"] [] (spSource K))
    (h2 : Has P w K mg base 3 "_law_pair" ["_law_source_here", "_law_measure_here"] [] spPair20) (h3 : Has P w K mg base 5 "common" ["one", "other"] [] spMeet) (h4 : Has P w K mg base 2 "_law_right" ["_law_one", "_law_two", "_law_told"] [] spRight20)
    (h5 : Has P w K mg base 1 "_law_gone_through" ["_law_one", "_law_two"] [] spGone) (h6 : Has P w K mg base 2 "_law_next" ["_law_source_here", "_law_many"] [] spNext) :
    FnOk P w K mg base CX0 6 f fd ["_law_script"] (spLaw K) := by
  obtain ⟨f__law_source, fd__law_source, ds__law_source, G__law_source, m__law_source, k__law_source, b__law_source, v__law_source⟩ := h1
  obtain ⟨f__law_pair, fd__law_pair, ds__law_pair, G__law_pair, m__law_pair, k__law_pair, b__law_pair, v__law_pair⟩ := h2
  obtain ⟨f_common, fd_common, ds_common, G_common, m_common, k_common, b_common, v_common⟩ := h3
  obtain ⟨f__law_right, fd__law_right, ds__law_right, G__law_right, m__law_right, k__law_right, b__law_right, v__law_right⟩ := h4
  obtain ⟨f__law_gone_through, fd__law_gone_through, ds__law_gone_through, G__law_gone_through, m__law_gone_through, k__law_gone_through, b__law_gone_through, v__law_gone_through⟩ := h5
  obtain ⟨f__law_next, fd__law_next, ds__law_next, G__law_next, m__law_next, k__law_next, b__law_next, v__law_next⟩ := h6
  refine F.ok sc_law (fun vs H Q E h => ?_) (fun cdv A outer s H vs Q E hr h => ?_)
  · obtain ⟨a, ns, rfl, _⟩ := h
    rfl
  · obtain ⟨a, ns, rfl, hS, hlen, q⟩ := h
    refine ⟨_, (pss_cons (ps_for PassesOwn.never rfl (pi_range1 (by rfl) T.b_range (pa_cons (pe_callB (call_max2 rfl) (by rfl) T.b_max (by decide +kernel) (pa_cons pe_int (pa_cons (pe_callB (call_min2 rfl) (by rfl) T.b_min (by decide +kernel) (pa_cons pe_int (pa_cons (pe_callB (lenK (K := K) rfl) (by rfl) T.b_len PySem.boot_len (pa_cons (pv 0) pa_nil)) pa_nil))) pa_nil))) pa_nil)) (pg_name (i := 1) sc_law.nd rfl (.inl rfl))
        (pss_cons (ps_set (i := 2) sc_law.nd rfl (.inr rfl) (pe_call G__law_source (hr.mono (by decide)) (by rfl) m__law_source k__law_source b__law_source v__law_source pass0 (pa_cons (pv 0) (pa_cons (pv 1) pa_nil))))
        (pss_cons (ps_set (i := 3) sc_law.nd rfl (.inr rfl) (pe_ix (ix_listK (K := K) rfl) (pe_lst (pa_cons pe_int (pa_cons pe_int (pa_cons pe_int (pa_cons (pe_op op_addN pe_int (pe_call G__law_next (hr.mono (by decide)) (by rfl) m__law_next k__law_next b__law_next v__law_next pass0 (pa_cons (pv 2) (pa_cons (pe_op op_pow pe_int pe_int) pa_nil)))) (pa_cons (pe_op op_addN (pe_op op_pow pe_int pe_int) (pe_call G__law_next (hr.mono (by decide)) (by rfl) m__law_next k__law_next b__law_next v__law_next pass0 (pa_cons (pv 2) (pa_cons (pe_op op_pow pe_int pe_int) pa_nil)))) pa_nil)))))) (pe_call G__law_next (hr.mono (by decide)) (by rfl) m__law_next k__law_next b__law_next v__law_next pass0 (pa_cons (pv 2) (pa_cons pe_int pa_nil))) (fun _ _ => rfl)))
        (pss_cons (ps_asg (pe_lc (own := [("_law_time", 7)]) (g := gName 7) (tt := tYes) rfl sc_law.nd (pi_range1 (by rfl) T.b_range (pa_cons pe_int pa_nil)) (blkOk_by (own := [("_law_time", 7)]) (N := N_law) (sc := defScope s_law) (by decide +kernel)) (fun _ _ _ _ _ => (pg_name (i := 7) sc_law.nd rfl (.inl rfl))) (fun _ _ _ _ _ => pts_nil) (fun _ _ _ _ _ => (pe_call G__law_pair (hr.mono (by decide)) (by rfl) m__law_pair k__law_pair b__law_pair v__law_pair pass0 (pa_cons (pv 2) (pa_cons (pv 3) pa_nil))))) (pg_unl (n := 2) rfl (pgs_cons (pg_name (i := 4) sc_law.nd rfl (.inl rfl)) (pgs_cons (pg_name (i := 5) sc_law.nd rfl (.inl rfl)) pgs_nil))))
        (pss_cons (ps_if (pt_cmpR op_eq (pe_call G__law_next (hr.mono (by decide)) (by rfl) m__law_next k__law_next b__law_next v__law_next pass0 (pa_cons (pv 2) (pa_cons pe_int pa_nil))) pe_int (nomark _))
          (pss_one (ps_set (i := 5) sc_law.nd rfl (.inl rfl) (pe_tup (pa_cons (pe_ix (ix_tupK (K := K) rfl) (pv 5) pe_int (fun _ _ => rfl)) (pa_cons (pe_ix (ix_tupK (K := K) rfl) (pv 4) pe_int (fun _ _ => rfl)) pa_nil)))))
          pss_nil)
        (pss_cons (ps_set (i := 6) sc_law.nd rfl (.inl rfl) (pe_call G_common hr (by rfl) m_common k_common b_common v_common pass0 (pa_cons (pv 4) (pa_cons (pv 5) pa_nil))))
        (pss_cons (ps_if (PW.pt (pw_or (pt_not (pt_val (pe_call G__law_right (hr.mono (by decide)) (by rfl) m__law_right k__law_right b__law_right v__law_right pass0 (pa_cons (pv 4) (pa_cons (pv 5) (pa_cons (pv 6) pa_nil)))))) (pw_or (pt_cmpR (op_neK (K := K) rfl hr.units) (pe_call G_common hr (by rfl) m_common k_common b_common v_common pass0 (pa_cons (pv 5) (pa_cons (pv 4) pa_nil))) (pv 6) (nomark _)) (pw_or1 (pt_cmpR (op_neK (K := K) rfl hr.units) (pe_call G_common hr (by rfl) m_common k_common b_common v_common pass0 (pa_cons (pv 4) (pa_cons (pv 5) pa_nil))) (pv 6) (nomark _))))))
          (pss_one (ps_ret pe_bl))
          pss_nil)
        (pss_one (ps_if (PW.pt (pw_and (pt_cmpR op_lt (pe_op op_mulN (pe_ix (ix_tupK (K := K) rfl) (pv 4) pe_int (fun _ _ => rfl)) (pe_ix (ix_tupK (K := K) rfl) (pv 5) pe_int (fun _ _ => rfl))) pe_int (nomark _)) (pw_and1 (pt_cmpR op_ne (pe_call G__law_gone_through (hr.mono (by decide)) (by rfl) m__law_gone_through k__law_gone_through b__law_gone_through v__law_gone_through pass0 (pa_cons (pv 4) (pa_cons (pv 5) pa_nil))) (pe_ix (ix_ltK (K := K) rfl) (pe_orTK (K := K) rfl (pv 6) (pe_one (pe_lst (pa_cons pe_non pa_nil)))) pe_int (fun _ _ => rfl)) (nomark _)))))
          (pss_one (ps_ret pe_bl))
          pss_nil)))))))))
      (pss_one (ps_ret pe_bl))), ?_⟩
    refine ⟨.ref a, rfl, a, ns.map V.int, rfl, .inl hS, 8, _, rfl, 1, _, rfl, _, rfl, ?_, ?_, for_range (Pv := fun i σ H' => SqL K H' a (ns.map V.int) ∧ ∃ y1 y2 y3 y4 y5 y6 y7, σ = [some (.ref a), y1, y2, y3, y4, y5, y6, y7]) ⟨hS, none, none, none, none, none, none, none, rfl⟩ ?_ ?_⟩
    · split <;> split <;> omega
    · rw [List.length_map]
      split <;> split <;> omega
    · rintro i0 σ H0 hi ⟨hS, y1, y2, y3, y4, y5, y6, y7, rfl⟩
      refine ⟨_, rfl, _, rfl, a, ns, 0 + i0, rfl, hS, fun H1 p s1 hp0 hsrc => ?_⟩
      -- measure
      refine ⟨_, rfl, 10, 9, rfl, rfl, ⟨by decide, by decide, by decide⟩, p, _, rfl, by decide, by decide, hsrc, fun r1 H2 hr1 s2 => ?_⟩
      have hr1' : r1 < 10 ^ 9 := by
        have e : (10 : Int) ^ (9 : Int).toNat = 1000000000 := by decide
        have z : (r1 : Int) < 10 ^ (9 : Int).toNat := hr1
        omega
      refine ⟨1, r1, rfl, rfl, trivial, 10, 18, rfl, rfl, ⟨by decide, by decide, by decide⟩, _, rfl, 10, 6, rfl, rfl, ⟨by decide, by decide, by decide⟩, p, _, rfl, by decide, by decide, s2.src, fun r2 H3 hr2 s3 => ?_⟩
      have hr2' : r2 < 10 ^ 6 := by
        have e : (10 : Int) ^ (6 : Int).toNat = 1000000 := by decide
        have z : (r2 : Int) < 10 ^ (6 : Int).toNat := hr2
        omega
      refine ⟨1000000000000000000, r2, congrArg V.int (by decide), rfl, trivial, by simp [sizeLine_eq], fun l hl => ?_⟩
      have nl : l ≠ p := s3.src.ne hl
      have s4 : Stp p H3 (upd H3 l (.lst [.int 1, .int 2, .int 6, .int ((1 + r1 : Nat) : Int), .int ((1000000000000000000 + r2 : Nat) : Int)])) := s3.src.stp_same (same_upd hl)
      refine ⟨_, rfl, p, 5, rfl, by decide, by decide, s4.src, fun c H5 hc s5 => ?_⟩
      have el := s5.keep _ _ nl upd_same
      obtain ⟨m, hm1, hm2, em⟩ : ∃ m : Nat, 1 ≤ m ∧ m < 2 ^ 62 ∧ ([.int 1, .int 2, .int 6, .int ((1 + r1 : Nat) : Int), .int ((1000000000000000000 + r2 : Nat) : Int)] : List V)[c]? = some (.int (m : Nat)) := by
        have hc5 : c < 5 := by omega
        match c, hc5 with
        | 0, _ => exact ⟨1, by decide, by decide, rfl⟩
        | 1, _ => exact ⟨2, by decide, by decide, rfl⟩
        | 2, _ => exact ⟨6, by decide, by decide, rfl⟩
        | 3, _ => exact ⟨1 + r1, by omega, by omega, rfl⟩
        | 4, _ => exact ⟨1000000000000000000 + r2, by omega, by omega, rfl⟩
        | c + 5, h => omega
      refine ⟨l, _, c, _, rfl, rfl, SqL.of el, atI_nat em, ?_⟩
      have s15 : Stp p H1 H5 := ((s2.trans s3).trans s4).trans s5
      -- the two timers
      refine ⟨2, rfl, by decide, by decide, fun D hD => lc_range (lo := 0) (n := 2) (fun i H' => Stp p H5 H' ∧ ∃ ts : List Addr, ts.length = i ∧ (∀ t ∈ ts, PairAt H' t) ∧ H' D = some (.lst (ts.map V.ref)))
        ⟨s5.src.stp_same (same_upd hD), [], rfl, by simp, upd_same⟩ ?_ ?_⟩
      · rintro i H' hi2 ⟨st, ts, hts, hok, eD⟩
        refine ⟨rfl, yesT (iteT ?_)⟩
        refine ⟨_, rfl, _, rfl, p, m, rfl, hm1, hm2, st.src, fun a1 q1 H'' t ha1 hq1 hq2 st2 ht et => ?_⟩
        have nD := s5.src.ne hD
        have eD2 := st2.keep _ _ nD eD
        refine ⟨_, eD2, ?_, ⟨fun c o n e => ?_, ?_⟩, ts ++ [t], ?_, ?_, ?_⟩
        · rw [List.length_map, hts]
          exact sizeLine_ge (by omega)
        · rw [upd_ne (ne_of_none e hD)]
          exact st2.keep _ _ n (st.keep _ _ n e)
        · obtain ⟨x, y, u, h⟩ := st2.src
          exact ⟨x, y, u, by rw [upd_ne nD.symm]; exact h⟩
        · rw [List.length_append, hts]
          rfl
        · intro t' ht'
          rcases List.mem_append.mp ht' with h | h
          · obtain ⟨a2, q2, b1, b2, b3, b4⟩ := hok t' h
            refine ⟨a2, q2, b1, b2, b3, ?_⟩
            rw [upd_ne (ne_of b4 eD (by intro z; cases z))]
            refine st2.keep _ _ (fun z => ?_) b4
            obtain ⟨x, y, u, h⟩ := st.src
            rw [z, h] at b4
            cases b4
          · rw [List.mem_singleton.mp h]
            refine ⟨a1, q1, ha1, hq1, hq2, ?_⟩
            rw [upd_ne (ne_of et eD2 (by intro z; cases z))]
            exact et
        · rw [upd_same, List.map_append]
          rfl
      rintro H6 ⟨s6, ts, hts, hok, eD⟩
      obtain ⟨t1, t2, rfl⟩ : ∃ x y, ts = [x, y] := by
        match ts, hts with
        | [x, y], _ => exact ⟨x, y, rfl⟩
      obtain ⟨a1, q1, ha1, hq1, hq1', et1⟩ := hok t1 (by simp)
      obtain ⟨a2, q2, ha2, hq2, hq2', et2⟩ := hok t2 (by simp)
      refine ⟨D, _, rfl, SqL.of eD, rfl, _, _, rfl, _, _, rfl, rfl, ?_⟩
      -- equal periods now and then
      apply cut_at (I := fun (t2 : Addr) (H7 : Hp) => Stp p H5 H7 ∧ H7 t1 = some (.tup [.int (a1 : Nat), .int (q1 : Nat)]) ∧ PairAt H7 t2)
      · intro rest
        refine ⟨_, rfl, p, 6, rfl, by decide, by decide, s6.src, fun r3 H7 hr3 s7 => ?_⟩
        have keepT : ∀ t xs, H6 t = some (.tup xs) → H7 t = some (.tup xs) := fun t xs e => s7.keep _ _ (fun z => by
          obtain ⟨x, y, u, h⟩ := s6.src
          rw [z, h] at e
          cases e) e
        have et1' := keepT _ _ et1
        have et2' := keepT _ _ et2
        refine ⟨rfl, _, rfl, ite2 (fun e => ?_) (fun e => ?_)⟩
        · refine ⟨.ref t2, rfl, t2, _, 0, _, rfl, rfl, .inl (.inl et2'), atI_nat (j := 0) rfl, .ref t1, rfl, t1, _, 1, _, rfl, rfl, .inl (.inl et1'), atI_nat (j := 1) rfl, by simp [sizeLine_eq], fun t3 ht3 => ?_⟩
          have s8 := same_upd (o := .tup [.int (a2 : Nat), .int (q1 : Nat)]) ht3
          have et3 : (upd H7 t3 (.tup [.int (a2 : Nat), .int (q1 : Nat)])) t3 = some (.tup [.int (a2 : Nat), .int (q1 : Nat)]) := upd_same
          generalize upd H7 t3 (.tup [.int (a2 : Nat), .int (q1 : Nat)]) = H8 at s8 et3 ⊢
          exact rest t3 H8 ⟨(s6.trans s7).same s8, s8 _ _ et1', a2, q1, ha2, hq1, hq1', et3⟩
        · exact rest t2 H7 ⟨s6.trans s7, et1', a2, q2, ha2, hq2, hq2', et2'⟩
      rintro t2 H7 ⟨s7, et1, a2, q2, ha2, hq2, hq2', et2⟩
      have b1 : q1 < 2 ^ 210 := by omega
      have b2 : q2 < 2 ^ 210 := by omega
      -- told
      refine ⟨_, rfl, _, rfl, t1, t2, a1, q1, a2, q2, rfl, et1, et2, hq1, hq2, b1, b2, by omega, by omega, fun v H8 s8 hv _ => ?_⟩
      refine ⟨_, rfl, _, rfl, _, rfl, t1, t2, v, a1, q1, a2, q2, rfl, s8 _ _ et1, s8 _ _ et2, hq1, hq2, b1, b2, hv, true, rfl, iteF ?_⟩
      refine ⟨_, rfl, _, rfl, t2, t1, a2, q2, a1, q1, rfl, s8 _ _ et2, s8 _ _ et1, hq2, hq1, b2, b1, by omega, by omega, fun v2 H9 s9 hv2 _ => ?_⟩
      have hv9 := hv.same s9
      obtain ⟨d1, dp1, md1⟩ := meet_dp (K := K) hv9
      obtain ⟨d2, dp2, md2⟩ := meet_dp (K := K) hv2
      have ed : d2 = d1 := IsMD.uniq hq1 (md2.swap hq2) md1
      subst ed
      refine ⟨_, rfl, d2, d2, dp2, dp1, md1.shaped, md1.shaped, false, neq_refl md1.lay, iteF ?_⟩
      refine ⟨_, rfl, _, rfl, t1, t2, a1, q1, a2, q2, rfl, s9 _ _ (s8 _ _ et1), s9 _ _ (s8 _ _ et2), hq1, hq2, b1, b2, by omega, by omega, fun v3 H10 s10 hv3 _ => ?_⟩
      have hv10 := hv9.same s10
      obtain ⟨d3, dp3, md3⟩ := meet_dp (K := K) hv10
      obtain ⟨d4, dp4, md4⟩ := meet_dp (K := K) hv3
      have ed : d4 = d3 := IsMD.uniq hq1 md4 md3
      subst ed
      refine ⟨_, rfl, d4, d4, dp4, dp3, md3.shaped, md3.shaped, false, neq_refl md3.lay, iteF ?_⟩
      -- small ones, gone through
      have et1' := s10 _ _ (s9 _ _ (s8 _ _ et1))
      have et2' := s10 _ _ (s9 _ _ (s8 _ _ et2))
      have s1A : Stp p H1 H10 := (((s15.trans s7).same s8).same s9).same s10
      refine ⟨.ref t1, rfl, t1, _, 1, _, rfl, rfl, .inl (.inl et1'), atI_nat (j := 1) rfl, .ref t2, rfl, t2, _, 1, _, rfl, rfl, .inl (.inl et2'), atI_nat (j := 1) rfl, q1, q2, rfl, rfl, nmul_w 110 110 hq1' hq2', ?_⟩
      by_cases hs : q1 * q2 < 3000
      · refine ⟨_, _, rfl, rfl, true, dT (by show ((q1 * q2 : Nat) : Int) < 3000; omega), iteT ?_⟩
        refine ⟨_, rfl, _, rfl, t1, t2, a1, q1, a2, q2, rfl, et1', et2', hq1, hq2, hs, fun g hg => ?_⟩
        rcases hv10 with ⟨hn, rfl⟩ | ⟨hy, t, fst, e, rfl, et, hmt⟩
        · have eg : g = .non := by
            rcases hg with ⟨x, _, x1, x2, x3, _⟩ | ⟨x, _⟩
            · exact absurd (meet_gcd (by omega) (by omega) x3.1 x3.2) hn
            · exact x
          subst eg
          refine ⟨.non, rfl, false, rfl, iteF ⟨by simp [sizeLine_eq], fun l2 hl2 => .inl ⟨l2, [.non], 0, .non, rfl, rfl, SqL.of upd_same, atI_nat (j := 0) rfl, rfl, false, nF rfl, iteF ?_⟩⟩⟩
          exact ⟨seq_new hS hp0 s1 (s1A.same (same_upd hl2)), _, _, _, _, _, _, _, rfl⟩
        · have eg : g = .int (fst : Nat) := by
            obtain ⟨he, c1, c2, c3, c4⟩ := hmt
            have hle : e ≤ q1 * q2 := by
              rw [he, Nat.div_mul_right_comm (Nat.gcd_dvd_left q1 q2)]
              exact Nat.div_le_self _ _
            rcases hg with ⟨x, ex, x1, x2, x3, x4⟩ | ⟨_, x⟩
            · have hx : x ≤ fst := by
                rcases Nat.lt_or_ge fst x with l | l
                · exact absurd ⟨c3, c4⟩ (x4 fst c1 l)
                · exact l
              have := meet_uniq hq1 ⟨he, c1, c2, c3, c4⟩ x1 (by omega) x3.1 x3.2
              rw [ex, this]
            · exact absurd ⟨c3, c4⟩ (x fst c1 (by omega))
          subst eg
          refine ⟨.ref t, rfl, true, .inr (.inl ⟨_, .inl (.inl et), rfl⟩), iteT (.inr ⟨t, _, 0, .int (fst : Nat), rfl, rfl, .inl (.inl et), atI_nat (j := 0) rfl, rfl, false, nF rfl, iteF ?_⟩)⟩
          exact ⟨seq_new hS hp0 s1 s1A, _, _, _, _, _, _, _, rfl⟩
      · refine ⟨_, _, rfl, rfl, false, dF (by show ¬ ((q1 * q2 : Nat) : Int) < 3000; omega), iteF (iteF ?_)⟩
        exact ⟨seq_new hS hp0 s1 s1A, _, _, _, _, _, _, _, rfl⟩
    · rintro σ H' ⟨hS, y1, y2, y3, y4, y5, y6, y7, rfl⟩
      exact q H'
end
theorem all_mk {l : PySem.W.OpenLaw} {w : World} {K : PySem.W.Frag} {h : Heap} {mg : Str → Option Value} {fa : Addr} (X : K.In h) (G : h.Ns mainGlobals mg) (hfa : mg "law" = some (.ref fa))
    {f_is_integer f_is_tick f_is_period f_is_periodic f_check_periodic f_divisor_and_factor f_meetings f_common f_law_cell_at f_law_mixed f_law_source f_law_next f_law_pair f_law_measure f_law_gone_through f_law_right f_law : Addr}
    {od_is_integer an_is_integer od_is_tick an_is_tick od_is_period an_is_period od_is_periodic an_is_periodic od_check_periodic an_check_periodic od_divisor_and_factor an_divisor_and_factor od_meetings an_meetings od_common an_common od_law_cell_at an_law_cell_at od_law_mixed an_law_mixed od_law_source an_law_source od_law_next an_law_next od_law_pair an_law_pair od_law_measure an_law_measure od_law_gone_through an_law_gone_through od_law_right an_law_right od_law an_law : Option Addr}
    {sl_is_integer sl_is_tick sl_is_period sl_is_periodic sl_check_periodic sl_divisor_and_factor sl_meetings sl_common sl_law_cell_at sl_law_mixed sl_law_source sl_law_next sl_law_pair sl_law_measure sl_law_gone_through sl_law_right sl_law : Array (Option Value)}
    {oc_is_integer kV_is_integer dc_is_integer pm_is_integer cd_is_integer ct_is_integer oc_is_tick kV_is_tick dc_is_tick pm_is_tick cd_is_tick ct_is_tick oc_is_period kV_is_period dc_is_period pm_is_period cd_is_period ct_is_period oc_is_periodic kV_is_periodic dc_is_periodic pm_is_periodic cd_is_periodic ct_is_periodic oc_check_periodic kV_check_periodic dc_check_periodic pm_check_periodic cd_check_periodic ct_check_periodic oc_divisor_and_factor kV_divisor_and_factor dc_divisor_and_factor pm_divisor_and_factor cd_divisor_and_factor ct_divisor_and_factor oc_meetings kV_meetings dc_meetings pm_meetings cd_meetings ct_meetings oc_common kV_common dc_common pm_common cd_common ct_common oc_law_cell_at kV_law_cell_at dc_law_cell_at pm_law_cell_at cd_law_cell_at ct_law_cell_at oc_law_mixed kV_law_mixed dc_law_mixed pm_law_mixed cd_law_mixed ct_law_mixed oc_law_source kV_law_source dc_law_source pm_law_source cd_law_source ct_law_source oc_law_next kV_law_next dc_law_next pm_law_next cd_law_next ct_law_next oc_law_pair kV_law_pair dc_law_pair pm_law_pair cd_law_pair ct_law_pair oc_law_measure kV_law_measure dc_law_measure pm_law_measure cd_law_measure ct_law_measure oc_law_gone_through kV_law_gone_through dc_law_gone_through pm_law_gone_through cd_law_gone_through ct_law_gone_through oc_law_right kV_law_right dc_law_right pm_law_right cd_law_right ct_law_right oc_law kV_law dc_law pm_law cd_law ct_law : Value}
    {dT_is_tick : Addr} {tc_is_tick : Value} {td_is_tick : Option Addr} {tt_is_tick : Tok} {tn_is_tick : Nat} {ts_is_tick : Array (Option Value)}
    (a_is_integer : PySem.W.nsIn K mainGlobals "is_integer" = some (some (.ref f_is_integer)))
    (l_is_integer : K.lookup f_is_integer = some ⟨oc_is_integer, od_is_integer, .func (PySem.W.fnOf "is_integer" "is_integer" (defArgs s_is_integer) (defBody s_is_integer) (defScope s_is_integer) .none kV_is_integer dc_is_integer pm_is_integer an_is_integer cd_is_integer ct_is_integer), sl_is_integer⟩)
    (c_is_integer : PySem.W.codeIn K cd_is_integer "is_integer" = true) (k_is_integer : PySem.W.keepIn K (.ref f_is_integer) = true)
    (a_is_tick : PySem.W.nsIn K mainGlobals "is_tick" = some (some (.ref f_is_tick)))
    (l_is_tick : K.lookup f_is_tick = some ⟨oc_is_tick, od_is_tick, .func (PySem.W.fnOf "is_tick" "is_tick" (defArgs s_is_tick) (defBody s_is_tick) (defScope s_is_tick) (.ref dT_is_tick) kV_is_tick dc_is_tick pm_is_tick an_is_tick cd_is_tick ct_is_tick), sl_is_tick⟩)
    (t_is_tick : K.lookup dT_is_tick = some ⟨tc_is_tick, td_is_tick, .seq #[.int 0 tt_is_tick] tn_is_tick, ts_is_tick⟩)
    (c_is_tick : PySem.W.codeIn K cd_is_tick "is_tick" = true) (k_is_tick : PySem.W.keepIn K (.ref f_is_tick) = true)
    (a_is_period : PySem.W.nsIn K mainGlobals "is_period" = some (some (.ref f_is_period)))
    (l_is_period : K.lookup f_is_period = some ⟨oc_is_period, od_is_period, .func (PySem.W.fnOf "is_period" "is_period" (defArgs s_is_period) (defBody s_is_period) (defScope s_is_period) .none kV_is_period dc_is_period pm_is_period an_is_period cd_is_period ct_is_period), sl_is_period⟩)
    (c_is_period : PySem.W.codeIn K cd_is_period "is_period" = true) (k_is_period : PySem.W.keepIn K (.ref f_is_period) = true)
    (a_is_periodic : PySem.W.nsIn K mainGlobals "is_periodic" = some (some (.ref f_is_periodic)))
    (l_is_periodic : K.lookup f_is_periodic = some ⟨oc_is_periodic, od_is_periodic, .func (PySem.W.fnOf "is_periodic" "is_periodic" (defArgs s_is_periodic) (defBody s_is_periodic) (defScope s_is_periodic) .none kV_is_periodic dc_is_periodic pm_is_periodic an_is_periodic cd_is_periodic ct_is_periodic), sl_is_periodic⟩)
    (c_is_periodic : PySem.W.codeIn K cd_is_periodic "is_periodic" = true) (k_is_periodic : PySem.W.keepIn K (.ref f_is_periodic) = true)
    (a_check_periodic : PySem.W.nsIn K mainGlobals "check_periodic" = some (some (.ref f_check_periodic)))
    (l_check_periodic : K.lookup f_check_periodic = some ⟨oc_check_periodic, od_check_periodic, .func (PySem.W.fnOf "check_periodic" "check_periodic" (defArgs s_check_periodic) (defBody s_check_periodic) (defScope s_check_periodic) .none kV_check_periodic dc_check_periodic pm_check_periodic an_check_periodic cd_check_periodic ct_check_periodic), sl_check_periodic⟩)
    (c_check_periodic : PySem.W.codeIn K cd_check_periodic "check_periodic" = true) (k_check_periodic : PySem.W.keepIn K (.ref f_check_periodic) = true)
    (a_divisor_and_factor : PySem.W.nsIn K mainGlobals "divisor_and_factor" = some (some (.ref f_divisor_and_factor)))
    (l_divisor_and_factor : K.lookup f_divisor_and_factor = some ⟨oc_divisor_and_factor, od_divisor_and_factor, .func (PySem.W.fnOf "divisor_and_factor" "divisor_and_factor" (defArgs s_divisor_and_factor) (defBody s_divisor_and_factor) (defScope s_divisor_and_factor) .none kV_divisor_and_factor dc_divisor_and_factor pm_divisor_and_factor an_divisor_and_factor cd_divisor_and_factor ct_divisor_and_factor), sl_divisor_and_factor⟩)
    (c_divisor_and_factor : PySem.W.codeIn K cd_divisor_and_factor "divisor_and_factor" = true) (k_divisor_and_factor : PySem.W.keepIn K (.ref f_divisor_and_factor) = true)
    (a_meetings : PySem.W.nsIn K mainGlobals "meetings" = some (some (.ref f_meetings)))
    (l_meetings : K.lookup f_meetings = some ⟨oc_meetings, od_meetings, .func (PySem.W.fnOf "meetings" "meetings" (defArgs s_meetings) (defBody s_meetings) (defScope s_meetings) .none kV_meetings dc_meetings pm_meetings an_meetings cd_meetings ct_meetings), sl_meetings⟩)
    (c_meetings : PySem.W.codeIn K cd_meetings "meetings" = true) (k_meetings : PySem.W.keepIn K (.ref f_meetings) = true)
    (a_common : PySem.W.nsIn K mainGlobals "common" = some (some (.ref f_common)))
    (l_common : K.lookup f_common = some ⟨oc_common, od_common, .func (PySem.W.fnOf "common" "common" (defArgs s_common) (defBody s_common) (defScope s_common) .none kV_common dc_common pm_common an_common cd_common ct_common), sl_common⟩)
    (c_common : PySem.W.codeIn K cd_common "common" = true) (k_common : PySem.W.keepIn K (.ref f_common) = true)
    (a_law_cell_at : PySem.W.nsIn K mainGlobals "_law_cell_at" = some (some (.ref f_law_cell_at)))
    (l_law_cell_at : K.lookup f_law_cell_at = some ⟨oc_law_cell_at, od_law_cell_at, .func (PySem.W.fnOf "_law_cell_at" "_law_cell_at" (defArgs s__law_cell_at) (defBody s__law_cell_at) (defScope s__law_cell_at) .none kV_law_cell_at dc_law_cell_at pm_law_cell_at an_law_cell_at cd_law_cell_at ct_law_cell_at), sl_law_cell_at⟩)
    (c_law_cell_at : PySem.W.codeIn K cd_law_cell_at "_law_cell_at" = true) (k_law_cell_at : PySem.W.keepIn K (.ref f_law_cell_at) = true)
    (a_law_mixed : PySem.W.nsIn K mainGlobals "_law_mixed" = some (some (.ref f_law_mixed)))
    (l_law_mixed : K.lookup f_law_mixed = some ⟨oc_law_mixed, od_law_mixed, .func (PySem.W.fnOf "_law_mixed" "_law_mixed" (defArgs s__law_mixed) (defBody s__law_mixed) (defScope s__law_mixed) .none kV_law_mixed dc_law_mixed pm_law_mixed an_law_mixed cd_law_mixed ct_law_mixed), sl_law_mixed⟩)
    (c_law_mixed : PySem.W.codeIn K cd_law_mixed "_law_mixed" = true) (k_law_mixed : PySem.W.keepIn K (.ref f_law_mixed) = true)
    (a_law_source : PySem.W.nsIn K mainGlobals "_law_source" = some (some (.ref f_law_source)))
    (l_law_source : K.lookup f_law_source = some ⟨oc_law_source, od_law_source, .func (PySem.W.fnOf "_law_source" "_law_source" (defArgs s__law_source) (defBody s__law_source) (defScope s__law_source) .none kV_law_source dc_law_source pm_law_source an_law_source cd_law_source ct_law_source), sl_law_source⟩)
    (c_law_source : PySem.W.codeIn K cd_law_source "_law_source" = true) (k_law_source : PySem.W.keepIn K (.ref f_law_source) = true)
    (a_law_next : PySem.W.nsIn K mainGlobals "_law_next" = some (some (.ref f_law_next)))
    (l_law_next : K.lookup f_law_next = some ⟨oc_law_next, od_law_next, .func (PySem.W.fnOf "_law_next" "_law_next" (defArgs s__law_next) (defBody s__law_next) (defScope s__law_next) .none kV_law_next dc_law_next pm_law_next an_law_next cd_law_next ct_law_next), sl_law_next⟩)
    (c_law_next : PySem.W.codeIn K cd_law_next "_law_next" = true) (k_law_next : PySem.W.keepIn K (.ref f_law_next) = true)
    (a_law_pair : PySem.W.nsIn K mainGlobals "_law_pair" = some (some (.ref f_law_pair)))
    (l_law_pair : K.lookup f_law_pair = some ⟨oc_law_pair, od_law_pair, .func (PySem.W.fnOf "_law_pair" "_law_pair" (defArgs s__law_pair) (defBody s__law_pair) (defScope s__law_pair) .none kV_law_pair dc_law_pair pm_law_pair an_law_pair cd_law_pair ct_law_pair), sl_law_pair⟩)
    (c_law_pair : PySem.W.codeIn K cd_law_pair "_law_pair" = true) (k_law_pair : PySem.W.keepIn K (.ref f_law_pair) = true)
    (a_law_measure : PySem.W.nsIn K mainGlobals "_law_measure" = some (some (.ref f_law_measure)))
    (l_law_measure : K.lookup f_law_measure = some ⟨oc_law_measure, od_law_measure, .func (PySem.W.fnOf "_law_measure" "_law_measure" (defArgs s__law_measure) (defBody s__law_measure) (defScope s__law_measure) .none kV_law_measure dc_law_measure pm_law_measure an_law_measure cd_law_measure ct_law_measure), sl_law_measure⟩)
    (c_law_measure : PySem.W.codeIn K cd_law_measure "_law_measure" = true) (k_law_measure : PySem.W.keepIn K (.ref f_law_measure) = true)
    (a_law_gone_through : PySem.W.nsIn K mainGlobals "_law_gone_through" = some (some (.ref f_law_gone_through)))
    (l_law_gone_through : K.lookup f_law_gone_through = some ⟨oc_law_gone_through, od_law_gone_through, .func (PySem.W.fnOf "_law_gone_through" "_law_gone_through" (defArgs s__law_gone_through) (defBody s__law_gone_through) (defScope s__law_gone_through) .none kV_law_gone_through dc_law_gone_through pm_law_gone_through an_law_gone_through cd_law_gone_through ct_law_gone_through), sl_law_gone_through⟩)
    (c_law_gone_through : PySem.W.codeIn K cd_law_gone_through "_law_gone_through" = true) (k_law_gone_through : PySem.W.keepIn K (.ref f_law_gone_through) = true)
    (a_law_right : PySem.W.nsIn K mainGlobals "_law_right" = some (some (.ref f_law_right)))
    (l_law_right : K.lookup f_law_right = some ⟨oc_law_right, od_law_right, .func (PySem.W.fnOf "_law_right" "_law_right" (defArgs s__law_right) (defBody s__law_right) (defScope s__law_right) .none kV_law_right dc_law_right pm_law_right an_law_right cd_law_right ct_law_right), sl_law_right⟩)
    (c_law_right : PySem.W.codeIn K cd_law_right "_law_right" = true) (k_law_right : PySem.W.keepIn K (.ref f_law_right) = true)
    (a_law : PySem.W.nsIn K mainGlobals "law" = some (some (.ref f_law)))
    (l_law : K.lookup f_law = some ⟨oc_law, od_law, .func (PySem.W.fnOf "law" "law" (defArgs s_law) (defBody s_law) (defScope s_law) .none kV_law dc_law pm_law an_law cd_law ct_law), sl_law⟩)
    (c_law : PySem.W.codeIn K cd_law "law" = true) (k_law : PySem.W.keepIn K (.ref f_law) = true)
    (z_isinstance : PySem.W.nsIn K mainGlobals "isinstance" = some none)
    (z_int : PySem.W.nsIn K mainGlobals "int" = some none)
    (z_bool : PySem.W.nsIn K mainGlobals "bool" = some none)
    (z_tuple : PySem.W.nsIn K mainGlobals "tuple" = some none)
    (z_len : PySem.W.nsIn K mainGlobals "len" = some none)
    (z_max : PySem.W.nsIn K mainGlobals "max" = some none)
    (z_range : PySem.W.nsIn K mainGlobals "range" = some none)
    (z_min : PySem.W.nsIn K mainGlobals "min" = some none)
    : ∃ fd : FuncData, (∀ (s : Shared) (v : Value), BindsTo s fd ⟨[v], []⟩ [("_law_script", v)]) ∧ ∀ base : Heap, K.In base → base.Ns mainGlobals mg → FnOk l.prog w K mg base CX0 6 fa fd ["_law_script"] (spLaw K) := by
  have e := hfa.symm.trans (PySem.W.mg_of X G a_law)
  cases e
  have T : Tx K mg := ⟨PySem.W.mg_none_of X G z_isinstance, PySem.W.mg_none_of X G z_int, PySem.W.mg_none_of X G z_bool, PySem.W.mg_none_of X G z_tuple, PySem.W.mg_none_of X G z_len, PySem.W.mg_none_of X G z_max, PySem.W.mg_none_of X G z_range, PySem.W.mg_none_of X G z_min⟩
  have D_is_integer : Df K mg "is_integer" s_is_integer ["given"] := by
    have F := fun_mk (st := s_is_integer) l_is_integer c_is_integer k_is_integer
    exact ⟨_, _, F, PySem.W.mg_of X G a_is_integer, F.binds (ps := ["given"]) fun _ _ _ _ _ _ us hl => match us, hl with | [_], _ => rfl⟩
  have D_is_tick : Dd K mg "is_tick" s_is_tick ["given", "least"] (.int 0) := by
    have F : FunD K "is_tick" "is_tick" (defArgs s_is_tick) (defBody s_is_tick) (defScope s_is_tick) [(.int 0)] [] _ _ := ⟨⟨_, _, _, _, _, _, _, _, _, _, rfl, l_is_tick, c_is_tick, .inr ⟨by simp, dT_is_tick, _, [_], _, rfl, t_is_tick, rfl, .cons ⟨_, rfl⟩ .nil⟩, .inl rfl⟩, k_is_tick⟩
    exact ⟨_, _, F, PySem.W.mg_of X G a_is_tick,
      FunD.binds1 (ps := ["given", "least"]) F 1 0 (by simp) rfl fun _ _ _ _ _ _ _ us its hu hi => match us, its, hu, hi with | [_], [_], _, _ => ⟨_, rfl, rfl⟩,
      by obtain ⟨ds, r, b⟩ := FunD.binds1 (ps := ["given", "least"]) F 2 1 (by simp) rfl fun _ _ _ _ _ _ _ us its hu hi => match us, its, hu, hi with | [_, _], [_], _, _ => ⟨_, rfl, rfl⟩
         cases r
         exact b⟩
  have D_is_period : Df K mg "is_period" s_is_period ["given"] := by
    have F := fun_mk (st := s_is_period) l_is_period c_is_period k_is_period
    exact ⟨_, _, F, PySem.W.mg_of X G a_is_period, F.binds (ps := ["given"]) fun _ _ _ _ _ _ us hl => match us, hl with | [_], _ => rfl⟩
  have D_is_periodic : Df K mg "is_periodic" s_is_periodic ["given"] := by
    have F := fun_mk (st := s_is_periodic) l_is_periodic c_is_periodic k_is_periodic
    exact ⟨_, _, F, PySem.W.mg_of X G a_is_periodic, F.binds (ps := ["given"]) fun _ _ _ _ _ _ us hl => match us, hl with | [_], _ => rfl⟩
  have D_check_periodic : Df K mg "check_periodic" s_check_periodic ["given"] := by
    have F := fun_mk (st := s_check_periodic) l_check_periodic c_check_periodic k_check_periodic
    exact ⟨_, _, F, PySem.W.mg_of X G a_check_periodic, F.binds (ps := ["given"]) fun _ _ _ _ _ _ us hl => match us, hl with | [_], _ => rfl⟩
  have D_divisor_and_factor : Df K mg "divisor_and_factor" s_divisor_and_factor ["number", "modulus"] := by
    have F := fun_mk (st := s_divisor_and_factor) l_divisor_and_factor c_divisor_and_factor k_divisor_and_factor
    exact ⟨_, _, F, PySem.W.mg_of X G a_divisor_and_factor, F.binds (ps := ["number", "modulus"]) fun _ _ _ _ _ _ us hl => match us, hl with | [_, _], _ => rfl⟩
  have D_meetings : Df K mg "meetings" s_meetings ["one", "other"] := by
    have F := fun_mk (st := s_meetings) l_meetings c_meetings k_meetings
    exact ⟨_, _, F, PySem.W.mg_of X G a_meetings, F.binds (ps := ["one", "other"]) fun _ _ _ _ _ _ us hl => match us, hl with | [_, _], _ => rfl⟩
  have D_common : Df K mg "common" s_common ["one", "other"] := by
    have F := fun_mk (st := s_common) l_common c_common k_common
    exact ⟨_, _, F, PySem.W.mg_of X G a_common, F.binds (ps := ["one", "other"]) fun _ _ _ _ _ _ us hl => match us, hl with | [_, _], _ => rfl⟩
  have D_law_cell_at : Df K mg "_law_cell_at" s__law_cell_at ["_law_script", "_law_k"] := by
    have F := fun_mk (st := s__law_cell_at) l_law_cell_at c_law_cell_at k_law_cell_at
    exact ⟨_, _, F, PySem.W.mg_of X G a_law_cell_at, F.binds (ps := ["_law_script", "_law_k"]) fun _ _ _ _ _ _ us hl => match us, hl with | [_, _], _ => rfl⟩
  have D_law_mixed : Df K mg "_law_mixed" s__law_mixed ["_law_cell", "_law_k"] := by
    have F := fun_mk (st := s__law_mixed) l_law_mixed c_law_mixed k_law_mixed
    exact ⟨_, _, F, PySem.W.mg_of X G a_law_mixed, F.binds (ps := ["_law_cell", "_law_k"]) fun _ _ _ _ _ _ us hl => match us, hl with | [_, _], _ => rfl⟩
  have D_law_source : Df K mg "_law_source" s__law_source ["_law_script", "_law_k"] := by
    have F := fun_mk (st := s__law_source) l_law_source c_law_source k_law_source
    exact ⟨_, _, F, PySem.W.mg_of X G a_law_source, F.binds (ps := ["_law_script", "_law_k"]) fun _ _ _ _ _ _ us hl => match us, hl with | [_, _], _ => rfl⟩
  have D_law_next : Df K mg "_law_next" s__law_next ["_law_source_here", "_law_many"] := by
    have F := fun_mk (st := s__law_next) l_law_next c_law_next k_law_next
    exact ⟨_, _, F, PySem.W.mg_of X G a_law_next, F.binds (ps := ["_law_source_here", "_law_many"]) fun _ _ _ _ _ _ us hl => match us, hl with | [_, _], _ => rfl⟩
  have D_law_pair : Df K mg "_law_pair" s__law_pair ["_law_source_here", "_law_measure_here"] := by
    have F := fun_mk (st := s__law_pair) l_law_pair c_law_pair k_law_pair
    exact ⟨_, _, F, PySem.W.mg_of X G a_law_pair, F.binds (ps := ["_law_source_here", "_law_measure_here"]) fun _ _ _ _ _ _ us hl => match us, hl with | [_, _], _ => rfl⟩
  have D_law_measure : Df K mg "_law_measure" s__law_measure ["_law_one", "_law_two"] := by
    have F := fun_mk (st := s__law_measure) l_law_measure c_law_measure k_law_measure
    exact ⟨_, _, F, PySem.W.mg_of X G a_law_measure, F.binds (ps := ["_law_one", "_law_two"]) fun _ _ _ _ _ _ us hl => match us, hl with | [_, _], _ => rfl⟩
  have D_law_gone_through : Df K mg "_law_gone_through" s__law_gone_through ["_law_one", "_law_two"] := by
    have F := fun_mk (st := s__law_gone_through) l_law_gone_through c_law_gone_through k_law_gone_through
    exact ⟨_, _, F, PySem.W.mg_of X G a_law_gone_through, F.binds (ps := ["_law_one", "_law_two"]) fun _ _ _ _ _ _ us hl => match us, hl with | [_, _], _ => rfl⟩
  have D_law_right : Df K mg "_law_right" s__law_right ["_law_one", "_law_two", "_law_told"] := by
    have F := fun_mk (st := s__law_right) l_law_right c_law_right k_law_right
    exact ⟨_, _, F, PySem.W.mg_of X G a_law_right, F.binds (ps := ["_law_one", "_law_two", "_law_told"]) fun _ _ _ _ _ _ us hl => match us, hl with | [_, _, _], _ => rfl⟩
  have D_law : Df K mg "law" s_law ["_law_script"] := by
    have F := fun_mk (st := s_law) l_law c_law k_law
    exact ⟨_, _, F, PySem.W.mg_of X G a_law, F.binds (ps := ["_law_script"]) fun _ _ _ _ _ _ us hl => match us, hl with | [_], _ => rfl⟩
  refine ⟨PySem.W.fnOf "law" "law" (defArgs s_law) (defBody s_law) (defScope s_law) .none kV_law dc_law pm_law an_law cd_law ct_law, fun s v => .of_eq rfl, fun base _ _ => ?_⟩
  have h_is_integer : Has l.prog w K mg base 1 "is_integer" ["given"] [] spIsInt := D_is_integer.has fun _ _ F => ok_is_integer F T
  have h2_is_tick : Has l.prog w K mg base 2 "is_tick" ["given", "least"] [.int 0] spIsTick ∧ Has l.prog w K mg base 2 "is_tick" ["given", "least"] [] spIsTick := D_is_tick.has fun _ _ F => ok_is_tick F T h_is_integer
  have h_is_period : Has l.prog w K mg base 2 "is_period" ["given"] [] spIsPeriod := D_is_period.has fun _ _ F => ok_is_period F h_is_integer
  have h_is_periodic : Has l.prog w K mg base 3 "is_periodic" ["given"] [] spPeriodic := D_is_periodic.has fun _ _ F => ok_is_periodic F T h2_is_tick.1 h_is_period
  have h_check_periodic : Has l.prog w K mg base 4 "check_periodic" ["given"] [] spCheckPeriodic := D_check_periodic.has fun _ _ F => ok_check_periodic F h_is_periodic
  have h_divisor_and_factor : Has l.prog w K mg base 1 "divisor_and_factor" ["number", "modulus"] [] spDivFac := D_divisor_and_factor.has fun _ _ F => ok_divisor_and_factor F 
  have h_meetings : Has l.prog w K mg base 2 "meetings" ["one", "other"] [] spMeet := D_meetings.has fun _ _ F => ok_meetings F T h_divisor_and_factor
  have h_common : Has l.prog w K mg base 5 "common" ["one", "other"] [] spMeet := D_common.has fun _ _ F => ok_common F h_check_periodic h_meetings
  have h_law_cell_at : Has l.prog w K mg base 1 "_law_cell_at" ["_law_script", "_law_k"] [] (spCellAt K) := D_law_cell_at.has fun _ _ F => ok_cell_at F T
  have h_law_mixed : Has l.prog w K mg base 1 "_law_mixed" ["_law_cell", "_law_k"] [] spMixed := D_law_mixed.has fun _ _ F => ok_mixed F 
  have h_law_source : Has l.prog w K mg base 2 "_law_source" ["_law_script", "_law_k"] [] (spSource K) := D_law_source.has fun _ _ F => ok_source F T h_law_cell_at h_law_mixed
  have h_law_next : Has l.prog w K mg base 2 "_law_next" ["_law_source_here", "_law_many"] [] spNext := D_law_next.has fun _ _ F => ok_next F h_law_mixed
  have h_law_pair : Has l.prog w K mg base 3 "_law_pair" ["_law_source_here", "_law_measure_here"] [] spPair20 := D_law_pair.has fun _ _ F => ok_pair20 F h_law_next
  have h_law_measure : Has l.prog w K mg base 1 "_law_measure" ["_law_one", "_law_two"] [] spGcd := D_law_measure.has fun _ _ F => ok_law_measure F 
  have h_law_gone_through : Has l.prog w K mg base 1 "_law_gone_through" ["_law_one", "_law_two"] [] spGone := D_law_gone_through.has fun _ _ F => ok_gone_through F T
  have h_law_right : Has l.prog w K mg base 2 "_law_right" ["_law_one", "_law_two", "_law_told"] [] spRight20 := D_law_right.has fun _ _ F => ok_law_right F T h_law_measure
  exact ok_law (fun_mk (st := s_law) l_law c_law k_law) T h_law_source h_law_pair h_common h_law_right h_law_gone_through h_law_next
end Td
open PySem PySem.W PyProof.Rows in
set_option maxRecDepth 100000 in
set_option maxHeartbeats 0 in
theorem PySem.Challenge.cw_timerdeque_k20_common_ticks_holds : PySem.Challenge.rw_timerdeque_k20_common_ticks.Holds := by
  w_on; o_law; k_head; (case hw => w_witness2)
  k_fill
  refine L2.walk_of (l := PySem.Challenge.rw_timerdeque_k20_common_ticks) (n := 63) (k := 6) (x := "_law_script") (CX := fun _ => L2.CX0) (sp := fun w => Td.spLaw _) rfl (by decide) rfl ⟨rfl, by decide, by decide⟩ (fun w h Y => PySem.W.kIn_of Y) ?F (fun _ _ a ns hl _ hS => ⟨a, ns, rfl, hS, hl, fun _ => rfl⟩) (fun _ _ _ _ _ h => h)
  case F =>
    intro w mg fa h KX G hmg
    refine' Td.all_mk KX G hmg ?a_is_integer ?l_is_integer ?c_is_integer ?k_is_integer ?a_is_tick ?l_is_tick ?t_is_tick ?c_is_tick ?k_is_tick ?a_is_period ?l_is_period ?c_is_period ?k_is_period ?a_is_periodic ?l_is_periodic ?c_is_periodic ?k_is_periodic ?a_check_periodic ?l_check_periodic ?c_check_periodic ?k_check_periodic ?a_divisor_and_factor ?l_divisor_and_factor ?c_divisor_and_factor ?k_divisor_and_factor ?a_meetings ?l_meetings ?c_meetings ?k_meetings ?a_common ?l_common ?c_common ?k_common ?a_law_cell_at ?l_law_cell_at ?c_law_cell_at ?k_law_cell_at ?a_law_mixed ?l_law_mixed ?c_law_mixed ?k_law_mixed ?a_law_source ?l_law_source ?c_law_source ?k_law_source ?a_law_next ?l_law_next ?c_law_next ?k_law_next ?a_law_pair ?l_law_pair ?c_law_pair ?k_law_pair ?a_law_measure ?l_law_measure ?c_law_measure ?k_law_measure ?a_law_gone_through ?l_law_gone_through ?c_law_gone_through ?k_law_gone_through ?a_law_right ?l_law_right ?c_law_right ?k_law_right ?a_law ?l_law ?c_law ?k_law ?z_isinstance ?z_int ?z_bool ?z_tuple ?z_len ?z_max ?z_range ?z_min
    (case a_is_integer => k_is)
    (case l_is_integer => k_is)
    (case c_is_integer => k_is)
    (case k_is_integer => k_is)
    (case a_is_tick => k_is)
    (case l_is_tick => k_is)
    (case t_is_tick => k_is)
    (case c_is_tick => k_is)
    (case k_is_tick => k_is)
    (case a_is_period => k_is)
    (case l_is_period => k_is)
    (case c_is_period => k_is)
    (case k_is_period => k_is)
    (case a_is_periodic => k_is)
    (case l_is_periodic => k_is)
    (case c_is_periodic => k_is)
    (case k_is_periodic => k_is)
    (case a_check_periodic => k_is)
    (case l_check_periodic => k_is)
    (case c_check_periodic => k_is)
    (case k_check_periodic => k_is)
    (case a_divisor_and_factor => k_is)
    (case l_divisor_and_factor => k_is)
    (case c_divisor_and_factor => k_is)
    (case k_divisor_and_factor => k_is)
    (case a_meetings => k_is)
    (case l_meetings => k_is)
    (case c_meetings => k_is)
    (case k_meetings => k_is)
    (case a_common => k_is)
    (case l_common => k_is)
    (case c_common => k_is)
    (case k_common => k_is)
    (case a_law_cell_at => k_is)
    (case l_law_cell_at => k_is)
    (case c_law_cell_at => k_is)
    (case k_law_cell_at => k_is)
    (case a_law_mixed => k_is)
    (case l_law_mixed => k_is)
    (case c_law_mixed => k_is)
    (case k_law_mixed => k_is)
    (case a_law_source => k_is)
    (case l_law_source => k_is)
    (case c_law_source => k_is)
    (case k_law_source => k_is)
    (case a_law_next => k_is)
    (case l_law_next => k_is)
    (case c_law_next => k_is)
    (case k_law_next => k_is)
    (case a_law_pair => k_is)
    (case l_law_pair => k_is)
    (case c_law_pair => k_is)
    (case k_law_pair => k_is)
    (case a_law_measure => k_is)
    (case l_law_measure => k_is)
    (case c_law_measure => k_is)
    (case k_law_measure => k_is)
    (case a_law_gone_through => k_is)
    (case l_law_gone_through => k_is)
    (case c_law_gone_through => k_is)
    (case k_law_gone_through => k_is)
    (case a_law_right => k_is)
    (case l_law_right => k_is)
    (case c_law_right => k_is)
    (case k_law_right => k_is)
    (case a_law => k_is)
    (case l_law => k_is)
    (case c_law => k_is)
    (case k_law => k_is)
    (case z_isinstance => k_is)
    (case z_int => k_is)
    (case z_bool => k_is)
    (case z_tuple => k_is)
    (case z_len => k_is)
    (case z_max => k_is)
    (case z_range => k_is)
    (case z_min => k_is)
