import PyProof.Rows.All
import Wide.All
import OpenK.AllK
import Wide.FinOn
import HandS.ForMost
import HandS.IsInst
import HandS.Wide
import HandS.WideBits
import HandS.Defaults
import HandS.Zip
import HandS.Flow
import HandS.SortKw
import HandS.SortOrd
import HandS.Conv
import HandS.More
import HandS.Small
import KE.DatumOrd
import PyProof.Claim2Refuses
import PySem.Challenge.RW_timerdeque_k17_costliest_due_ticks
set_option Elab.async false
set_option linter.all false
set_option maxRecDepth 100000
set_option maxHeartbeats 4000000
set_option exponentiation.threshold 10000
namespace Td
open PySem PySem.Spec PyProof.Rows L2
/-! ### small things: promises by name, heaps, numbers -/
section
variable {P : Program} {w : World} {K : PySem.W.Frag} {mg : Str → Option Value} {base : Heap}
/-- the module's name x holds a def that keeps the promise sp, its last parameters filled up by dvs -/
def Has (P : Program) (w : World) (K : PySem.W.Frag) (mg : Str → Option Value) (base : Heap) (k : Nat) (x : Str) (ps : List Str) (dvs : List V) (sp : Sp) : Prop :=
  ∃ (f : Addr) (fd : FuncData) (ds : List Value), FnOk P w K mg base CX0 k f fd ps sp ∧ mg x = some (.ref f) ∧ PySem.W.keepIn K (.ref f) = true ∧ Binds K fd ps ds ∧ Vals dvs ds
/-- what the top says of a def without defaults -/
def Df (K : PySem.W.Frag) (mg : Str → Option Value) (x : Str) (st : Stmt) (ps : List Str) : Prop :=
  ∃ (f : Addr) (fd : FuncData), Fun K x x st f fd ∧ mg x = some (.ref f) ∧ Binds K fd ps []
theorem Df.has {k : Nat} {x : Str} {st : Stmt} {ps : List Str} {sp : Sp} (D : Df K mg x st ps) (ok : ∀ f fd, Fun K x x st f fd → FnOk P w K mg base CX0 k f fd ps sp) : Has P w K mg base k x ps [] sp := by
  obtain ⟨f, fd, F, m, b⟩ := D
  exact ⟨f, fd, [], ok f fd F, m, F.kp, b, .nil⟩
/-- a def with one default, the last parameter's -/
def Dd (K : PySem.W.Frag) (mg : Str → Option Value) (x : Str) (st : Stmt) (ps : List Str) (d : V) : Prop :=
  ∃ (f : Addr) (fd : FuncData), FunD K x x (defArgs st) (defBody st) (defScope st) [d] [] f fd ∧ mg x = some (.ref f) ∧ (∃ ds, Vals [d] ds ∧ Binds K fd ps ds) ∧ Binds K fd ps []
theorem Dd.has {k : Nat} {x : Str} {st : Stmt} {ps : List Str} {d : V} {sp : Sp} (D : Dd K mg x st ps d) (ok : ∀ f fd, FunD K x x (defArgs st) (defBody st) (defScope st) [d] [] f fd → FnOk P w K mg base CX0 k f fd ps sp) :
    Has P w K mg base k x ps [d] sp ∧ Has P w K mg base k x ps [] sp := by
  obtain ⟨f, fd, F, m, ⟨ds, r, b⟩, b0⟩ := D
  exact ⟨⟨f, fd, ds, ok f fd F, m, F.kp, b, r⟩, ⟨f, fd, [], ok f fd F, m, F.kp, b0, .nil⟩⟩
end
section
variable {X : Cx}
/-- a product of which one side is small, or both are not too great -/
def CMulA (i j : Int) : Prop := IntMulOk i j
theorem op_mulA : OpR X (binaryOp .Mult) (rI CMulA fun i j => .int (i * j)) := opI fun _ _ _ _ _ _ _ hc q => mul_int q hc
end
/-! x *= e, ints -/
section
variable {X : Cx}
def ipC (C : Int → Int → Prop) (f : Int → Int → Int) : TIp := fun x y H Q => ∃ i j, x = .int i ∧ y = .int j ∧ C i j ∧ Q (.int (f i j)) H
theorem ip_mulA : PIp X .Mult (ipC CMulA fun i j => i * j) := by
  intro pins s σ H x y v u Q I r1 r2 h
  obtain ⟨i, j, rfl, rfl, hm, q⟩ := h
  obtain ⟨t, rfl⟩ := r1
  obtain ⟨t', rfl⟩ := r2
  exact imul_int ⟨.int _, H, I.tok _, ⟨_, rfl⟩, q⟩ hm
end
theorem mul_l {i j : Int} (h1 : -(2 ^ 64) < i) (h2 : i < 2 ^ 64) : CMulA i j := CMul.ok (.inl ⟨h1, h2⟩)
theorem mul_r {i j : Int} (h1 : -(2 ^ 64) < j) (h2 : j < 2 ^ 64) : CMulA i j := CMul.ok (.inr ⟨h1, h2⟩)
theorem mul_w {i j : Int} (a b : Nat) (ha : i.natAbs < 2 ^ a) (hb : j.natAbs < 2 ^ b) (h0 : 0 < a := by decide) (h1 : 0 < b := by decide) (h : a + b ≤ 1000000 := by decide) : CMulA i j := (wide_mul ha hb h0 h1 h).ok
theorem div_s {i j : Int} (h : 0 < j) (h2 : j < 2 ^ 300) : CDivW i j := wide_div (b := 300) h (by omega) (by decide) (by decide)
theorem div_b {i j : Int} (b : Nat) (h : 0 < j) (h2 : j < 2 ^ b) (h0 : 0 < b := by decide) (h9 : b ≤ 9000 := by decide) : CDivW i j := by
  refine wide_div (b := b) h ?_ h0 h9
  have e : ((2 ^ b : Nat) : Int) = (2 : Int) ^ b := by
    rw [Int.natCast_pow]
    rfl
  omega
theorem same_upd {H : Hp} {p : Addr} {o : HO} (h : H p = none) : Same H (upd H p o) := fun b x e => by
  rw [upd_ne (ne_of_none e h)]
  exact e
theorem sizeLine_ge {n : Nat} (h : n ≤ 1000000) : n < sizeLine := by
  rw [sizeLine_eq]
  omega
theorem sizeLine_le {n : Nat} (h : n ≤ 1000000) : n ≤ sizeLine := Nat.le_of_lt (sizeLine_ge h)
theorem pos_of {a c : Nat} (h : a ≤ c) (n : ¬ a = c) : 0 < c := by omega
/-! ### operators on numbers that are not negative -/
def rN (C : Nat → Nat → Prop) (g : Nat → Nat → Nat) : R2 := fun x y H Q => ∃ a b : Nat, x = .int (a : Nat) ∧ y = .int (b : Nat) ∧ C a b ∧ Q (.int ((g a b : Nat) : Int)) H
section
variable {X : Cx}
theorem opN {f : Value → Value → Sem Value} {C : Nat → Nat → Prop} {g : Nat → Nat → Nat} {CI : Int → Int → Prop} {gI : Int → Int → V} (h : OpR X f (rI CI gI)) (e : ∀ a b : Nat, C a b → CI (a : Nat) (b : Nat) ∧ gI (a : Nat) (b : Nat) = .int ((g a b : Nat) : Int)) : OpR X f (rN C g) := by
  intro pins s σ H x y v u Q I rx ry hq
  obtain ⟨a, b, ex, ey, hc, q⟩ := hq
  obtain ⟨h1, h2⟩ := e a b hc
  exact h pins s σ H x y v u Q I rx ry ⟨_, _, ex, ey, h1, by rw [h2]; exact q⟩
theorem opN0 {f : Value → Value → Sem Value} {C : Nat → Nat → Prop} {g : Nat → Nat → Nat} {gI : Int → Int → V} (h : OpR X f (rI0 gI)) (e : ∀ a b : Nat, C a b → gI (a : Nat) (b : Nat) = .int ((g a b : Nat) : Int)) : OpR X f (rN C g) := by
  intro pins s σ H x y v u Q I rx ry hq
  obtain ⟨a, b, ex, ey, hc, q⟩ := hq
  exact h pins s σ H x y v u Q I rx ry ⟨_, _, ex, ey, by rw [e a b hc]; exact q⟩
def NDiv (_ b : Nat) : Prop := 0 < b ∧ b < 2 ^ 9000
def NMod (_ b : Nat) : Prop := 0 < b
def NSub (a b : Nat) : Prop := b ≤ a
def NMul (a b : Nat) : Prop := IntMulOk (a : Int) (b : Int)
def NAny (_ _ : Nat) : Prop := True
theorem op_divN : OpR X (binaryOp .FloorDiv) (rN NDiv fun a b => a / b) := opN op_fdivW fun a b h => ⟨wide_div (b := 9000) (Int.natCast_pos.mpr h.1) h.2 (by decide) (Nat.le_refl _), rfl⟩
theorem op_remN : OpR X (binaryOp .Mod) (rN NMod fun a b => a % b) := opN op_mod fun a b h => ⟨Int.natCast_pos.mpr h, rfl⟩
theorem op_mulN : OpR X (binaryOp .Mult) (rN NMul fun a b => a * b) := opN op_mulA fun a b h => ⟨h, congrArg V.int (Int.natCast_mul a b).symm⟩
theorem op_addN : OpR X (binaryOp .Add) (rN NAny fun a b => a + b) := opN0 op_add fun _ _ _ => rfl
theorem op_subN : OpR X (binaryOp .Sub) (rN NSub fun a b => a - b) := opN0 op_sub fun a b h => congrArg V.int (Int.natCast_sub h).symm
end
theorem ndiv {a b : Nat} (t : Nat) (h : 0 < b) (h2 : b < 2 ^ t) (ht : t ≤ 9000 := by decide) : NDiv a b := ⟨h, Nat.lt_of_lt_of_le h2 (Nat.pow_le_pow_right (by decide) ht)⟩
theorem nmul_l {a b : Nat} (h : a < 2 ^ 64) : NMul a b := mul_l (by omega) (by omega)
theorem nmul_r {a b : Nat} (h : b < 2 ^ 64) : NMul a b := mul_r (by omega) (by omega)
theorem nmul_w {a b : Nat} (i j : Nat) (ha : a < 2 ^ i) (hb : b < 2 ^ j) (h0 : 0 < i := by decide) (h1 : 0 < j := by decide) (h : i + j ≤ 1000000 := by decide) : NMul a b := mul_w i j ha hb h0 h1 h
theorem int_ne {a b : Nat} (h : a ≠ b) : decide (V.int (a : Nat) = V.int (b : Nat)) = false := decide_eq_false fun e => h (Int.ofNat.inj (V.int.inj e))
theorem dT {p : Prop} [Decidable p] (h : p) : V.bl (decide p) = V.bl true := congrArg V.bl (decide_eq_true h)
theorem dF {p : Prop} [Decidable p] (h : ¬ p) : V.bl (decide p) = V.bl false := congrArg V.bl (decide_eq_false h)
theorem nT {p : Prop} [Decidable p] (h : ¬ p) : V.bl (!decide p) = V.bl true := congrArg V.bl (congrArg (!·) (decide_eq_false h))
theorem nF {p : Prop} [Decidable p] (h : p) : V.bl (!decide p) = V.bl false := congrArg V.bl (congrArg (!·) (decide_eq_true h))
theorem vN {a b : Nat} (h : a ≠ b) : ¬ V.int (a : Nat) = V.int (b : Nat) := fun e => h (Int.ofNat.inj (V.int.inj e))
theorem vE {a b : Nat} (h : a = b) : V.int (a : Nat) = V.int (b : Nat) := congrArg (fun c : Nat => V.int (c : Nat)) h
theorem vI {a b : Int} (h : a ≠ b) : ¬ V.int a = V.int b := fun e => h (V.int.inj e)
/-! ### rules with the written part named (within a comprehension's block) -/
section
variable {X : Cx} {K : PySem.W.Frag}
theorem ix_tupK (e : X.K = K) : IxR X (rIxT K) := by subst e; exact ix_tup
theorem ix_listK (e : X.K = K) : IxR X (rIxL K) := by subst e; exact ix_list
theorem sl_tupK (e : X.K = K) : SlR X (rSlT K) := by subst e; exact sl_tup
theorem sl_listK (e : X.K = K) : SlR X (rSlL K) := by subst e; exact sl_list
theorem op_eqK (e : X.K = K) (hu : X.A.units + 64 < cLine) : OpR X (compareOp .Eq) (rEqD K) := by subst e; exact op_eqD hu
theorem op_neK (e : X.K = K) (hu : X.A.units + 64 < cLine) : OpR X (compareOp .NotEq) (rNeD K) := by subst e; exact op_neD hu
theorem isiK (e : X.K = K) : CallR X (.builtin "isinstance") (rIsi K) := by subst e; exact call_isi
def rLenK (K : PySem.W.Frag) : List V → Hp → VK → Prop := fun xs H Q => ∃ p ys, xs = [.ref p] ∧ (SqL K H p ys ∨ SqT K H p ys) ∧ Q (.int ys.length) H
theorem lenK (e : X.K = K) : CallR X (.builtin "len") (rLenK K) := by subst e; exact call_len_seq
theorem allK (e : X.K = K) (hc : X.calm = true) : CallR X (.builtin "all") (rAll K) := by subst e; exact cr_all hc
theorem sumK (e : X.K = K) (hc : X.calm = true) : CallR X (.builtin "sum") (rSum K) := by subst e; exact cr_sum hc
theorem maxK (e : X.K = K) (hc : X.calm = true) : CallR X (.builtin "max") (rMax K) := by subst e; exact cr_max hc
theorem minK (e : X.K = K) (hc : X.calm = true) : CallR X (.builtin "min") (rMin K) := by subst e; exact cr_min hc
theorem anyK (e : X.K = K) (hc : X.calm = true) : CallR X (.builtin "any") (rAny K) := by subst e; exact cr_any hc
end
section
variable {X : Cx} {K : PySem.W.Frag}
theorem ix_ltK (e : X.K = K) : IxR X (fun x y H Q => rIxL K x y H Q ∨ rIxT K x y H Q) := by subst e; exact ix_list.or ix_tup
theorem pe_orTK {a b : Expr} {ta tb : TE} {rest : List Expr} {pos : Pos} (e : X.K = K) (ha : PE X a ta) (hb : PE X (.BoolOp .Or (b :: rest) pos) tb) : PE X (.BoolOp .Or (a :: b :: rest) pos) (tOrT K ta tb) := by subst e; exact pe_orT ha hb
end
theorem yesT {σ : L2.St} {H : Hp} {Q : Bool → Hp → Prop} (h : Q true H) : tYes σ H Q := h
section
variable {X : Cx} {K : PySem.W.Frag}
theorem pg_tupK {es : List Expr} {k : Nat} {t : TGs} {n : Nat} {pos : Pos} (e : X.K = K) (hc : X.calm = true) (h : PGs X es t)
    (hn : (assignEach es X.env).length = n := by rfl) (hst : (assignEach es X.env).findIdx? (·.1) = none := by rfl) : PG X (.Tuple es k pos) (gTup K n t) := by
  subst e
  exact pg_tup hc h hn hst
end
theorem tyx_list {K : PySem.W.Frag} {H : Hp} {a : Addr} {xs : List V} (h : SqL K H a xs) : TyX K H (.ref a) (.type "list") := by
  rcases h with (h | ⟨o, h⟩) | ⟨o, its, n, h, hc, _⟩
  · exact .base (.lst h)
  · exact .base (.frz h)
  · exact .kList h hc
/-- max and min of two numbers that are not negative -/
def rNN (g : Nat → Nat → Nat) : List V → Hp → VK → Prop := fun xs H Q => ∃ a b : Nat, xs = [.int (a : Nat), .int (b : Nat)] ∧ Q (.int ((g a b : Nat) : Int)) H
section
variable {X : Cx}
theorem max2N (hc : X.calm = true) : CallR X (.builtin "max") (rNN max) := by
  intro pins s σ H xs us Q I r h
  obtain ⟨a, b, rfl, q⟩ := h
  refine call_max2 hc pins s σ H _ us Q I r ⟨_, _, rfl, ?_⟩
  have e : (if (b : Int) > (a : Int) then (b : Int) else (a : Int)) = ((max a b : Nat) : Int) := by split <;> omega
  rw [e]
  exact q
theorem max0N (hc : X.calm = true) : CallR X (.builtin "max") (fun xs H Q => ∃ (z : Int) (n : Nat), xs = [.int 0, .int z] ∧ (if z > 0 then z else 0) = (n : Int) ∧ Q (.int (n : Nat)) H) := by
  intro pins s σ H xs us Q I r h
  obtain ⟨z, n, rfl, e, q⟩ := h
  refine call_max2 hc pins s σ H _ us Q I r ⟨0, z, rfl, ?_⟩
  rw [e]
  exact q
theorem min2N (hc : X.calm = true) : CallR X (.builtin "min") (rNN min) := by
  intro pins s σ H xs us Q I r h
  obtain ⟨a, b, rfl, q⟩ := h
  refine call_min2 hc pins s σ H _ us Q I r ⟨_, _, rfl, ?_⟩
  have e : (if (b : Int) < (a : Int) then (b : Int) else (a : Int)) = ((min a b : Nat) : Int) := by split <;> omega
  rw [e]
  exact q
end
/-- one rest behind several ways -/
theorem cut_at {α : Type} {I : α → Hp → Prop} {G : Prop} (R : α → Hp → Prop) (h1 : (∀ a H, I a H → R a H) → G) (h2 : ∀ a H, I a H → R a H) : G := h1 h2
theorem cut_rest {I : Hp → Prop} {G : Prop} (R : Hp → Prop) (h1 : (∀ H, I H → R H) → G) (h2 : ∀ H, I H → R H) : G := h1 h2
/-! ### range over numbers of any size -/
theorem turn_long {P : Program} {w : World} {K : PySem.W.Frag} {tg : Expr} (r : Addr) (lo c : Int) (n : Nat) :
    Turn P w K tg (Itc lo c n) [r] r (fun i hp => IsLongIter hp r (lo + (i : Nat) * c) ((n : Int) - (i : Nat)) c) where
  mem := List.mem_singleton.mpr rfl
  obj := fun _ _ here b hb => by
    cases List.mem_singleton.mp hb
    exact ⟨_, here, fun _ z => nomatch z⟩
  keep := fun _ _ _ here same => same r (List.mem_singleton.mpr rfl) _ here
  item := by
    intro Y y1 y2 y3 calm i pins s σ H E inv own here more
    subst y1; subst y2; subst y3
    have o := own r (List.mem_singleton.mpr rfl)
    refine (Walks.longrange (prog := Y.prog) (w := Y.w) (inv.ok.hd calm) r lo c n).item i s _ _ more here fun v h2 k hv next keep => ?_
    obtain ⟨t, rfl⟩ := hv
    have inv2 : Inv Y pins σ H { s with heap := h2, toks := k } := inv.turned (fun b ob hb e => keep b ob (fun z => hb (List.mem_singleton.mp z)) e) o.1 o.2.1 o.2.2.2.1 o.2.2.2.2.1 o.2.2.2.2.2
    have stay : ∀ b ∈ [r], H b = none := fun b hb => (own b hb).1
    exact ⟨_, rfl, go_of (s := { s with heap := h2, toks := k }) (n := "longrange_iterator") next rfl rfl (by decide) ⟨.int (lo + (i : Nat) * c), H, inv2, ⟨t, rfl⟩, ⟨rfl, rfl⟩, next, stay⟩⟩
  done := by
    intro Y y1 y2 y3 calm i pins s σ H E inv own here over
    subst y1; subst y2; subst y3
    have o := own r (List.mem_singleton.mpr rfl)
    have le : n ≤ i := over
    exact wpAny_pyNext_long_end (inv.ok.hd calm) here (by omega) fun h2 same => ⟨rfl, inv.turned (t' := s.toks) (fun b ob hb e => same b ob hb e) o.1 o.2.1 o.2.2.2.1 o.2.2.2.2.1 o.2.2.2.2.2⟩
  self := fun _ _ _ _ _ here h => wpAny_pyIter_longiter here h
/-- a range object just made, whatever its size -/
theorem range_wide {X : Cx} {tg : Expr} {pins : List (Addr × Obj)} {σ : L2.St} {H : Hp} {s : Shared} {R : It → Hp → Prop} {E : Value → Shared → Prop} {lo hi c : Int} {t u v : Tok} {tk n : Nat} (I : Inv X pins σ H s)
    (hn : Builtin.Range.rangeSize lo hi c = n) (q : R (Itc lo c n) H) :
    wpAny (model X.prog X.w) X.A (pyIter (.ref s.heap.objs.size)) (PIE X pins σ tg R) E { s with heap := s.heap.push { cls := .type "range", data := .fields #[.int lo t, .int hi u, .int c v] }, toks := tk } := by
  have made : Inv X pins σ H { s with heap := s.heap.push { cls := .type "range", data := .fields #[.int lo t, .int hi u, .int c v] }, toks := tk } := I.kept fun b ob e => Heap.get?_push_of_some _ e
  have e0 : lo + ((0 : Nat) : Int) * c = lo := by simp
  have e9 : (n : Int) - ((0 : Nat) : Int) = Builtin.Range.rangeSize lo hi c := by
    rw [hn]
    simp
  cases small : Builtin.Range.small lo hi c with
  | true =>
    refine wpAny_pyIter_range (IsRange.new ..) small (pi_one (tk := tk) made _ (turn_rangeC _ lo c n) ?_ q)
    show IsRangeIter _ _ (lo + ((0 : Nat) : Int) * c) ((n : Int) - ((0 : Nat) : Int)) c
    rw [e0, e9]
    exact Heap.get?_push_size _ rfl
  | false =>
    refine wpAny_pyIter_longrange (IsRange.new ..) small (pi_one (tk := tk) made _ (turn_long _ lo c n) ?_ q)
    show IsLongIter _ _ (lo + ((0 : Nat) : Int) * c) ((n : Int) - ((0 : Nat) : Int)) c
    rw [e0, e9]
    exact Heap.get?_push_size _ rfl
theorem itc_one (lo : Int) (n : Nat) : Itc lo 1 n = Itr lo n := by
  unfold Itc Itr
  congr 1
  funext i H x H'
  rw [Int.mul_one]
def iWide2 (ta : TA) : TI := fun σ H R => ta σ H fun vs H1 => ∃ i j : Int, vs = [.int i, .int j] ∧ R (Itr i (j - i).toNat) H1
def iWide3 (ta : TA) : TI := fun σ H R => ta σ H fun vs H1 => ∃ (i j c : Int) (n : Nat), vs = [.int i, .int j, .int c] ∧ CDivP (j - i) c ∧ Builtin.Range.rangeSize i j c = n ∧ R (Itc i c n) H1
section
variable {X : Cx} {tg : Expr}
theorem pi_wide2 {a b : Expr} {ta : TA} {p pos : Pos} (hg : Gl X "range") (hm : X.mg "range" = none) (ha : PA X [a, b] ta) (h2 : starEach [a, b] X.env = [(false, eval a X.env), (false, eval b X.env)] := by rfl) (h1 : starEach [b] X.env = [(false, eval b X.env)] := by rfl) :
    PI X tg (.Call (.Name "range" p) [a, b] [] pos) (iWide2 ta) := by
  refine ⟨fun pins s σ H R I h => Call_ (ld_blt I hg hm boot_range (PyProof.Rows.callWith_type1 (thn (ha.run pos pins s σ H _ I h) fun us s1 ⟨vs, H1, I1, r1, q1⟩ => ?_) (by rw [h2, h1]) (by rw [h1]; rfl)))⟩
  obtain ⟨i, j, rfl, q⟩ := q1
  obtain ⟨u1, u2, rfl, ⟨t, rfl⟩, ⟨t', rfl⟩⟩ := vals2 r1
  refine call_range_2 (range_wide (n := (j - i).toNat) I1 ?_ (by rw [itc_one]; exact q))
  rw [rangeSize_one]
  split <;> omega
theorem pi_wide3 {a b c : Expr} {ta : TA} {p pos : Pos} (hg : Gl X "range") (hm : X.mg "range" = none) (ha : PA X [a, b, c] ta)
    (h3 : starEach [a, b, c] X.env = (false, eval a X.env) :: starEach [b, c] X.env := by rfl) (hn : (backTo pos (starEach [b, c] X.env)).any (·.1) = false := by rfl) :
    PI X tg (.Call (.Name "range" p) [a, b, c] [] pos) (iWide3 ta) := by
  refine ⟨fun pins s σ H R I h => Call_ (ld_blt I hg hm boot_range (PyProof.Rows.callWith_type1 (thn (ha.run pos pins s σ H _ I h) fun us s1 ⟨vs, H1, I1, r1, q1⟩ => ?_) h3 hn))⟩
  obtain ⟨i, j, k, n, rfl, hk, hz, q⟩ := q1
  cases r1 with
  | cons ra rr =>
    obtain ⟨u2, u3, rfl, ⟨t', rfl⟩, ⟨t'', rfl⟩⟩ := vals2 rr
    obtain ⟨t, rfl⟩ := ra
    have k0 : k ≠ 0 := fun z => by
      have := hk.1
      omega
    exact call_range_3 k0 (range_wide (tk := s1.toks) I1 hz q) (.inl hk.2)
end
/-- a list made over a range with a step -/
theorem lc_step {lo c : Int} {n : Nat} {g : TG} {tt : TT} {te : TE} {ws : List Nat} {σ : L2.St} {G : Hp} {D : Addr} {Qd : Hp → Prop} (Pv : Nat → Hp → Prop) (start : Pv 0 (upd G D (.lst [])))
    (step : ∀ i G, i < n → Pv i G → g (.int (lo + (i : Nat) * c)) (wipe σ ws) G fun τ G2 => wipe τ ws = wipe σ ws ∧ tt τ G2 fun k G3 => if k = true then te τ G3 fun z G4 => ∃ ac, G4 D = some (.lst ac) ∧ ac.length < sizeLine ∧ Pv (i + 1) (upd G4 D (.lst (ac ++ [z]))) else Pv (i + 1) G3)
    (last : ∀ G, Pv n G → Qd G) : ∃ W : Nat → Nat → Hp → Prop, (∃ m, W 0 m (upd G D (.lst []))) ∧ ∀ i m G, W i m G → ((Itc lo c n).stop i G ∧ Qd G) ∨
      ((Itc lo c n).go i G ∧ ∃ N : Hp → Prop, (∀ G', N G' → ∃ m', m' < m ∧ W (i + 1) m' G') ∧ ∀ x G', (Itc lo c n).yld i G x G' → g x (wipe σ ws) G' fun τ G2 => wipe τ ws = wipe σ ws ∧ tt τ G2 fun k G3 => if k = true then te τ G3 fun z G4 => ∃ ac, G4 D = some (.lst ac) ∧ ac.length < sizeLine ∧ N (upd G4 D (.lst (ac ++ [z]))) else N G3) := by
  refine ⟨fun i m G => (m = n - i ∧ i ≤ n) ∧ Pv i G, ⟨n, ⟨rfl, Nat.zero_le _⟩, start⟩, ?_⟩
  rintro i m G ⟨⟨rfl, le⟩, pv⟩
  rcases Nat.lt_or_ge i n with lt | ge
  · exact .inr ⟨lt, Pv (i + 1), fun G' p' => ⟨n - (i + 1), by omega, ⟨rfl, lt⟩, p'⟩, fun x G' ⟨e1, e2⟩ => by
      rw [e1, e2]
      exact step i G lt pv⟩
  · have e : i = n := Nat.le_antisymm le ge
    rw [e] at pv ⊢
    exact .inl ⟨Nat.le_refl _, last G pv⟩
/-! ### digits: the mathematics -/
/-- k is the level of d at n -/
def IsLev (b n d k : Nat) : Prop := n / b ^ (k + 1) = d / b ^ (k + 1) ∧ ∀ j, j < k → n / b ^ (j + 1) ≠ d / b ^ (j + 1)
abbrev Row3 := Nat × Nat × Nat
/-- the stations below level k -/
def tailOf (b d : Nat) : Nat → List Row3
  | 0 => []
  | k + 1 => if d / b ^ k % b ≠ 0 then (k, d / b ^ k % b, d / b ^ (k + 1) * b ^ (k + 1)) :: tailOf b d k else tailOf b d k
/-- the stations of a timer set at n, k its level -/
def rowsOf (b n d k : Nat) : List Row3 := (k, d / b ^ k % b, n) :: tailOf b d k
theorem div_succ (n b k : Nat) : n / b ^ (k + 1) = n / b ^ k / b := by
  rw [Nat.pow_succ, Nat.div_div_eq_div_mul]
theorem pow_pos' {b : Nat} (h : 2 ≤ b) (k : Nat) : 0 < b ^ k := Nat.pow_pos (by omega)
theorem IsLev.uniq {b n d k k' : Nat} (h : IsLev b n d k) (h' : IsLev b n d k') : k = k' := by
  rcases Nat.lt_trichotomy k k' with l | l | l
  · exact absurd h.1 (h'.2 k l)
  · exact l
  · exact absurd h'.1 (h.2 k' l)
theorem IsLev.ne {b n d k : Nat} (h : IsLev b n d k) (hnd : n < d) : n / b ^ k < d / b ^ k := by
  cases k with
  | zero =>
    rw [Nat.pow_zero, Nat.div_one, Nat.div_one]
    exact hnd
  | succ j =>
    have h1 := h.2 j (Nat.lt_succ_self j)
    have h2 : n / b ^ (j + 1) ≤ d / b ^ (j + 1) := Nat.div_le_div_right (Nat.le_of_lt hnd)
    omega
theorem IsLev.size {b n d k : Nat} (h : IsLev b n d k) (hb : 2 ≤ b) (hnd : n < d) : b ^ k ≤ d := by
  have h1 := h.ne hnd
  have h2 : 0 < d / b ^ k := Nat.lt_of_le_of_lt (Nat.zero_le _) h1
  exact (Nat.div_pos_iff.mp h2).2
theorem IsLev.digit {b n d k : Nat} (h : IsLev b n d k) (hnd : n < d) : n / b ^ k % b < d / b ^ k % b := by
  have h1 := h.ne hnd
  have h2 := h.1
  rw [div_succ, div_succ] at h2
  have e1 := Nat.div_add_mod (n / b ^ k) b
  have e2 := Nat.div_add_mod (d / b ^ k) b
  rw [h2] at e1
  omega
theorem pow_two_le {b : Nat} (hb : 2 ≤ b) (k : Nat) : 2 ^ k ≤ b ^ k := Nat.pow_le_pow_left hb k
theorem lev_small {b n d k t : Nat} (h : IsLev b n d k) (hb : 2 ≤ b) (hnd : n < d) (hd : d < 2 ^ t) : k < t := by
  have h1 := h.size hb hnd
  have h2 := pow_two_le hb k
  exact (Nat.pow_lt_pow_iff_right (by decide : 1 < 2)).mp (Nat.lt_of_le_of_lt (Nat.le_trans h2 h1) hd)
/-- cutting below: what two cuts beside one another differ by -/
theorem cut_step (b d k : Nat) : d / b ^ k * b ^ k = d / b ^ (k + 1) * b ^ (k + 1) + d / b ^ k % b * b ^ k := by
  rw [div_succ]
  have e := Nat.div_add_mod (d / b ^ k) b
  have e2 : b ^ (k + 1) = b * b ^ k := by rw [Nat.pow_succ, Nat.mul_comm]
  rw [e2, ← Nat.mul_assoc, ← Nat.add_mul, Nat.mul_comm (d / b ^ k / b) b, e]
theorem cut_le (b d k : Nat) : d / b ^ k * b ^ k ≤ d := Nat.div_mul_le_self d (b ^ k)
theorem cut_mono (b d : Nat) {j k : Nat} (h : j ≤ k) : d / b ^ k * b ^ k ≤ d / b ^ j * b ^ j := by
  induction k with
  | zero =>
    have e : j = 0 := by omega
    rw [e]
    exact Nat.le_refl _
  | succ k ih =>
    by_cases e : j = k + 1
    · rw [e]
      exact Nat.le_refl _
    · have h1 := ih (by omega)
      have h2 := cut_step b d k
      omega
theorem lt_cut {b n d k : Nat} (hb : 2 ≤ b) (h : n / b ^ k < d / b ^ k) : n < d / b ^ k * b ^ k := by
  have hp := pow_pos' hb k
  exact (Nat.div_lt_iff_lt_mul hp).mp h
theorem tail_len (b d : Nat) : ∀ k, (tailOf b d k).length ≤ k
  | 0 => Nat.le_refl _
  | k + 1 => by
    have ih := tail_len b d k
    unfold tailOf
    split
    · rw [List.length_cons]
      omega
    · omega
/-- a later tick that lies ahead of the next cut has the same level -/
theorem IsLev.later {b n d k t : Nat} (hb : 2 ≤ b) (h : IsLev b n d k) (hnd : n < d) (h1 : n ≤ t) (h2 : t < d / b ^ k * b ^ k) : IsLev b t d k := by
  have hp := pow_pos' hb k
  have hp1 := pow_pos' hb (k + 1)
  have htd : t < d := Nat.lt_of_lt_of_le h2 (cut_le b d k)
  refine ⟨?_, fun j hj => ?_⟩
  · have a1 : n / b ^ (k + 1) ≤ t / b ^ (k + 1) := Nat.div_le_div_right h1
    have a2 : t / b ^ (k + 1) ≤ d / b ^ (k + 1) := Nat.div_le_div_right (Nat.le_of_lt htd)
    have a3 := h.1
    omega
  · have a1 : t / b ^ k < d / b ^ k := (Nat.div_lt_iff_lt_mul hp).mpr h2
    intro e
    have e2 : k = (j + 1) + (k - (j + 1)) := by omega
    rw [e2, Nat.pow_add, ← Nat.div_div_eq_div_mul, ← Nat.div_div_eq_div_mul, e] at a1
    omega
/-! ### moves over ranges: the mathematics -/
/-- how many numbers below x have a digit other than 0 where a 1 is worth s -/
def wdN (b s x : Nat) : Nat := x / (s * b) * s * (b - 1) + (x % (s * b) - s)
/-- how many have the digit 0 there -/
def zbN (b s x : Nat) : Nat := x / (s * b) * s + min (x % (s * b)) s
theorem wd_zb {b s : Nat} (hb : 1 ≤ b) (x : Nat) : wdN b s x + zbN b s x = x := by
  unfold wdN zbN
  have e := Nat.div_add_mod x (s * b)
  have e1 : x / (s * b) * s * (b - 1) + x / (s * b) * s = s * b * (x / (s * b)) := by
    rw [← Nat.mul_succ, Nat.succ_eq_add_one, Nat.sub_add_cancel hb, Nat.mul_assoc, Nat.mul_comm]
  omega
def begN (n f s : Nat) : Nat := max f ((n / s + 1) * s)
/-- what one level counts over a range -/
def mvT (b n f h s : Nat) : Int := if begN n f s < h then (wdN b s h : Int) - (wdN b s (begN n f s) : Int) else 0
def mvS (b n f h : Nat) : Nat → Int
  | 0 => 0
  | k + 1 => mvS b n f h k + mvT b n f h (b ^ k)
theorem beg_ge (n f s : Nat) : s ≤ begN n f s := by
  unfold begN
  have : s ≤ (n / s + 1) * s := Nat.le_mul_of_pos_left s (Nat.succ_pos _)
  omega
theorem mvT_zero {b n f h s : Nat} (hs : h ≤ s) : mvT b n f h s = 0 := by
  unfold mvT
  have := beg_ge n f s
  rw [if_neg (by omega)]
theorem mvS_more {b n f h k : Nat} (hb : 2 ≤ b) (hk : h ≤ b ^ k) (j : Nat) : mvS b n f h (k + j) = mvS b n f h k := by
  induction j with
  | zero => rfl
  | succ j ih =>
    show mvS b n f h (k + j) + mvT b n f h (b ^ (k + j)) = _
    rw [ih, mvT_zero, Int.add_zero]
    exact Nat.le_trans hk (Nat.pow_le_pow_right (by omega) (by omega))
theorem mvS_eq {b n f h k j : Nat} (hb : 2 ≤ b) (hk : h ≤ b ^ k) (hj : h ≤ b ^ j) : mvS b n f h k = mvS b n f h j := by
  rcases Nat.le_total k j with l | l
  · have e := mvS_more (n := n) (f := f) hb hk (j - k)
    rw [show k + (j - k) = j by omega] at e
    exact e.symm
  · have e := mvS_more (n := n) (f := f) hb hj (k - j)
    rw [show j + (k - j) = k by omega] at e
    exact e
theorem mvT_add {b n f m h s : Nat} (h1 : f ≤ m) (h2 : m ≤ h) : mvT b n f m s + mvT b n m h s = mvT b n f h s := by
  unfold mvT begN
  generalize (n / s + 1) * s = c
  by_cases a : c ≤ m
  · rw [show max m c = m by omega]
    by_cases e : max f c = m
    · rw [e, if_neg (by omega), Int.zero_add]
    · rw [if_pos (by omega : max f c < m), if_pos (by omega : max f c < h)]
      by_cases e2 : m < h
      · rw [if_pos e2]
        omega
      · have : m = h := by omega
        rw [if_neg e2, this]
        omega
  · rw [show max m c = c by omega, show max f c = c by omega, if_neg (by omega : ¬ c < m), Int.zero_add]
theorem mvS_add {b n f m h : Nat} (h1 : f ≤ m) (h2 : m ≤ h) (k : Nat) : mvS b n f m k + mvS b n m h k = mvS b n f h k := by
  induction k with
  | zero => rfl
  | succ k ih =>
    show (mvS b n f m k + mvT b n f m (b ^ k)) + (mvS b n m h k + mvT b n m h (b ^ k)) = mvS b n f h k + mvT b n f h (b ^ k)
    have := mvT_add (b := b) (n := n) (s := b ^ k) h1 h2
    omega
/-- over all numbers of N digits and fewer -/
theorem mvS_whole {b : Nat} (hb : 2 ≤ b) (N : Nat) : ∀ k, k ≤ N + 1 → mvS b 0 1 (b ^ (N + 1)) k = ((k * ((b - 1) * b ^ N) : Nat) : Int) := by
  intro k
  induction k with
  | zero =>
    intro _
    rw [Nat.zero_mul]
    rfl
  | succ k ih =>
    intro hk
    show mvS b 0 1 (b ^ (N + 1)) k + mvT b 0 1 (b ^ (N + 1)) (b ^ k) = _
    rw [ih (by omega)]
    have hp : 0 < b ^ k := Nat.pow_pos (by omega)
    have hl : b ^ k < b ^ (N + 1) := Nat.pow_lt_pow_right (by omega) (by omega)
    have e1 : begN 0 1 (b ^ k) = b ^ k := by
      unfold begN
      rw [Nat.zero_div, Nat.zero_add, Nat.one_mul]
      omega
    have hlt : b ^ k < b ^ k * b := by
      rw [← Nat.pow_succ]
      exact Nat.pow_lt_pow_right (by omega) (by omega)
    have e2 : wdN b (b ^ k) (b ^ k) = 0 := by
      unfold wdN
      rw [Nat.div_eq_of_lt hlt, Nat.mod_eq_of_lt hlt, Nat.sub_self, Nat.zero_mul, Nat.zero_mul]
    have e3 : b ^ (N + 1) = b ^ (N - k) * (b ^ k * b) := by
      rw [← Nat.pow_succ, ← Nat.pow_add]
      congr 1
      omega
    have e4 : wdN b (b ^ k) (b ^ (N + 1)) = (b - 1) * b ^ N := by
      unfold wdN
      have hp2 : 0 < b ^ k * b := by omega
      rw [e3, Nat.mul_div_cancel _ hp2, Nat.mul_mod_left, Nat.zero_sub, Nat.add_zero, ← Nat.pow_add, Nat.mul_comm]
      congr 2
      omega
    unfold mvT
    rw [e1, if_pos hl, e2, e4]
    have e5 : (k + 1) * ((b - 1) * b ^ N) = k * ((b - 1) * b ^ N) + (b - 1) * b ^ N := Nat.succ_mul _ _
    rw [e5]
    omega
/-! ### rules that the layer lacks: min(.., default=None), sorted of a dict with pairs of ints as its keys -/
theorem minOf_spec : ∀ (x : Int) (xs : List Int), PySem.W.minOf x xs ∈ x :: xs ∧ ∀ y ∈ x :: xs, PySem.W.minOf x xs ≤ y := by
  intro x xs
  unfold PySem.W.minOf
  induction xs generalizing x with
  | nil =>
    refine ⟨List.mem_cons_self .., fun y hy => ?_⟩
    rcases List.mem_cons.mp hy with e | hy
    · rw [e]
      exact Int.le_refl _
    · cases hy
  | cons z zs ih =>
    have e : (PySem.W.DatumOrd.lt z x = true) ↔ z < x := by
      show decide (z < x) = true ↔ z < x
      exact decide_eq_true_iff
    rw [List.foldl_cons]
    obtain ⟨h1, h2⟩ := ih (if PySem.W.DatumOrd.lt z x = true then z else x)
    refine ⟨?_, fun y hy => ?_⟩
    · rcases List.mem_cons.mp h1 with e1 | h1
      · rw [e1]
        split
        · exact List.mem_cons_of_mem _ (List.mem_cons_self ..)
        · exact List.mem_cons_self ..
      · exact List.mem_cons_of_mem _ (List.mem_cons_of_mem _ h1)
    · have h3 := h2 _ (List.mem_cons_self ..)
      rcases List.mem_cons.mp hy with e1 | hy
      · rw [e1]
        by_cases c : z < x
        · rw [if_pos (e.mpr c)] at h3 ⊢
          omega
        · rw [if_neg (fun q => c (e.mp q))] at h3 ⊢
          exact h3
      · rcases List.mem_cons.mp hy with e1 | hy
        · rw [e1]
          by_cases c : z < x
          · rw [if_pos (e.mpr c)] at h3 ⊢
            exact h3
          · rw [if_neg (fun q => c (e.mp q))] at h3 ⊢
            omega
        · exact h2 y (List.mem_cons_of_mem _ hy)
def rMinD (K : PySem.W.Frag) : List V → List V → Hp → VK → Prop := fun vs zs H Q => ∃ (a : Addr) (ns : List Int), vs = [V.ref a] ∧ zs = [.non] ∧ SqL K H a (ns.map V.int) ∧ (ns = [] → Q .non H) ∧ ∀ v ∈ ns, (∀ x ∈ ns, v ≤ x) → Q (.int v) H
section
variable {X : Cx} {K : PySem.W.Frag}
theorem minDef (e : X.K = K) (hc : X.calm = true) (hu : X.A.units + 64 < cLine) : CallRK X (.builtin "min") [Str.ofString "default"] (rMinD K) := by
  subst e
  intro pins s σ H vs zs us ws Q I r rz h
  obtain ⟨a, ns, rfl, rfl, hs, q0, q1⟩ := h
  obtain ⟨its, rv, hl, hz⟩ := I.list hs
  obtain ⟨w1, rfl, e1⟩ := vals1 rz
  obtain rfl : w1 = Value.none := e1
  rw [Vals.ref1 r]
  have hi := rv.ints
  refine PySem.W.min_list_datum_default (α := Int) (xs := ns) (I.ok.hd hc) hl.isList (PySem.W.HoldAll.of_ints hi) (by show X.A.units + 1 + 0 < cLine; omega) (fun en h' tk hk => ?_) (fun y ys i v h' tk en hv hh hk => ?_)
  · exact ⟨.non, H, I.kept hk, rfl, q0 en⟩
  · obtain ⟨as, hr⟩ := hh
    have hm := minOf_spec y ys
    have ev : ∃ t, v = Value.int (PySem.W.minOf y ys) t := by
      cases hr
      exact ⟨_, rfl⟩
    obtain ⟨t, rfl⟩ := ev
    subst en
    exact ⟨.int _, H, I.kept hk, ⟨_, rfl⟩, q1 _ hm.1 hm.2⟩
end
/-! ### moves counted due tick by due tick -/
/-- how many digits other than 0 a number has below the index j -/
def cnt0 (b d : Nat) : Nat → Nat
  | 0 => 0
  | k + 1 => cnt0 b d k + if d / b ^ k % b ≠ 0 then 1 else 0
theorem tail_cnt0 (b d : Nat) : ∀ k, (tailOf b d k).length = cnt0 b d k
  | 0 => rfl
  | k + 1 => by
    have ih := tail_cnt0 b d k
    unfold tailOf cnt0
    by_cases h : d / b ^ k % b ≠ 0
    · rw [if_pos h, if_pos h, List.length_cons, ih]
    · rw [if_neg h, if_neg h, ih, Nat.add_zero]
theorem rows_cnt0 {b n d k : Nat} (h : IsLev b n d k) (hnd : n < d) : (rowsOf b n d k).length = cnt0 b d (k + 1) := by
  have hd := h.digit hnd
  have h0 : d / b ^ k % b ≠ 0 := by omega
  show (tailOf b d k).length + 1 = cnt0 b d k + if d / b ^ k % b ≠ 0 then 1 else 0
  rw [if_pos h0, tail_cnt0]
/-- of the indexes below j, how many a timer set at n and due at d has a station at -/
def cntS (b n d : Nat) : Nat → Nat
  | 0 => 0
  | k + 1 => cntS b n d k + if n / b ^ k < d / b ^ k ∧ d / b ^ k % b ≠ 0 then 1 else 0
theorem lev_le {b n d k : Nat} (h : IsLev b n d k) (hnd : n < d) {j : Nat} (hj : j ≤ k) : n / b ^ j < d / b ^ j := by
  have h2 : n / b ^ j ≤ d / b ^ j := Nat.div_le_div_right (Nat.le_of_lt hnd)
  rcases Nat.eq_or_lt_of_le h2 with e | l
  · cases j with
    | zero =>
      rw [Nat.pow_zero, Nat.div_one, Nat.div_one] at e
      omega
    | succ i => exact absurd e (h.2 i (by omega))
  · exact l
theorem lev_gt {b n d k : Nat} (h : IsLev b n d k) {j : Nat} (hj : k < j) : n / b ^ j = d / b ^ j := by
  have e : j = (k + 1) + (j - (k + 1)) := by omega
  rw [e, Nat.pow_add, ← Nat.div_div_eq_div_mul, ← Nat.div_div_eq_div_mul, h.1]
theorem cntS_low {b n d k : Nat} (h : IsLev b n d k) (hnd : n < d) : ∀ j, j ≤ k + 1 → cntS b n d j = cnt0 b d j
  | 0, _ => rfl
  | j + 1, hj => by
    have ih := cntS_low h hnd j (by omega)
    have l := lev_le h hnd (show j ≤ k by omega)
    unfold cntS cnt0
    rw [ih]
    by_cases h0 : d / b ^ j % b ≠ 0
    · rw [if_pos h0, if_pos ⟨l, h0⟩]
    · rw [if_neg h0, if_neg (fun z => h0 z.2)]
theorem cntS_lev {b n d k : Nat} (h : IsLev b n d k) (hnd : n < d) : ∀ j, k + 1 ≤ j → cntS b n d j = cnt0 b d (k + 1)
  | 0, hj => by omega
  | j + 1, hj => by
    by_cases e : j + 1 = k + 1
    · rw [e]
      exact cntS_low h hnd (k + 1) (Nat.le_refl _)
    · have ih := cntS_lev h hnd j (by omega)
      have e2 := lev_gt h (show k < j by omega)
      unfold cntS
      rw [ih, if_neg (fun z => by omega), Nat.add_zero]
theorem wd_succ {b s : Nat} (hb : 2 ≤ b) (hs : 0 < s) (x : Nat) : wdN b s (x + 1) = wdN b s x + if x / s % b ≠ 0 then 1 else 0 := by
  have hsb : 0 < s * b := Nat.mul_pos hs (by omega)
  have hbs : s * 2 ≤ s * b := Nat.mul_le_mul_left s hb
  have e := Nat.div_add_mod x (s * b)
  have hr := Nat.mod_lt x hsb
  have ed : x / s % b ≠ 0 ↔ s ≤ x % (s * b) := by
    have e1 : x / s % b = x % (s * b) / s := by
      rw [Nat.mod_mul_right_div_self]
    rw [e1]
    constructor
    · intro h
      by_cases l : s ≤ x % (s * b)
      · exact l
      · exact absurd (Nat.div_eq_of_lt (by omega)) h
    · intro l h
      have := (Nat.div_pos_iff.mpr ⟨hs, l⟩)
      omega
  by_cases c : x % (s * b) + 1 = s * b
  · have e1 : x + 1 = s * b * (x / (s * b) + 1) := by
      rw [Nat.mul_succ]
      omega
    have d1 : (x + 1) / (s * b) = x / (s * b) + 1 := by
      rw [e1, Nat.mul_div_cancel_left _ hsb]
    have m1 : (x + 1) % (s * b) = 0 := by
      rw [e1, Nat.mul_mod_right]
    unfold wdN
    rw [d1, m1, Nat.succ_mul, Nat.add_mul, if_pos (ed.mpr (by omega)), Nat.zero_sub, Nat.add_zero]
    have e3 : s * (b - 1) = s * b - s := by rw [Nat.mul_sub, Nat.mul_one]
    omega
  · have d1 : (x + 1) / (s * b) = x / (s * b) := by
      have e2 : (x + 1) / (s * b) = ((x % (s * b) + 1) + s * b * (x / (s * b))) / (s * b) := by
        congr 1
        omega
      rw [e2, Nat.add_mul_div_left _ _ hsb, Nat.div_eq_of_lt (by omega), Nat.zero_add]
    have m1 : (x + 1) % (s * b) = x % (s * b) + 1 := by
      have e2 := Nat.div_add_mod (x + 1) (s * b)
      rw [d1] at e2
      omega
    unfold wdN
    rw [d1, m1]
    by_cases l : s ≤ x % (s * b)
    · rw [if_pos (ed.mpr l)]
      omega
    · rw [if_neg (fun z => l (ed.mp z))]
      omega
theorem mvT_succ {b n f h s : Nat} (hb : 2 ≤ b) (hs : 0 < s) (hfh : f ≤ h) : mvT b n f (h + 1) s = mvT b n f h s + ((if n / s < h / s ∧ h / s % b ≠ 0 then 1 else 0 : Nat) : Int) := by
  have hc : n / s < h / s ↔ (n / s + 1) * s ≤ h := by
    rw [← Nat.le_div_iff_mul_le hs]
    exact Iff.rfl
  have w := wd_succ hb hs h
  unfold mvT begN
  by_cases c : (n / s + 1) * s ≤ h
  · have i1 : (if n / s < h / s ∧ h / s % b ≠ 0 then 1 else 0) = if h / s % b ≠ 0 then 1 else 0 := by
      by_cases z : h / s % b ≠ 0
      · rw [if_pos z, if_pos ⟨hc.mpr c, z⟩]
      · rw [if_neg z, if_neg (fun y => z y.2)]
    rw [i1, if_pos (show max f ((n / s + 1) * s) < h + 1 by omega), w]
    by_cases l : max f ((n / s + 1) * s) < h
    · rw [if_pos l]
      omega
    · rw [if_neg l, show max f ((n / s + 1) * s) = h by omega]
      omega
  · rw [if_neg (show ¬ max f ((n / s + 1) * s) < h + 1 by omega), if_neg (show ¬ max f ((n / s + 1) * s) < h by omega), if_neg (fun z => c (hc.mp z.1))]
    rfl
theorem mvS_succ {b n f h : Nat} (hb : 2 ≤ b) (hfh : f ≤ h) : ∀ k, mvS b n f (h + 1) k = mvS b n f h k + (cntS b n h k : Int)
  | 0 => rfl
  | k + 1 => by
    have ih := mvS_succ (n := n) hb hfh k
    show mvS b n f (h + 1) k + mvT b n f (h + 1) (b ^ k) = (mvS b n f h k + mvT b n f h (b ^ k)) + ((cntS b n h k + if n / b ^ k < h / b ^ k ∧ h / b ^ k % b ≠ 0 then 1 else 0 : Nat) : Int)
    rw [ih, mvT_succ hb (pow_pos' hb k) hfh]
    omega
theorem mvS_none {b n f : Nat} : ∀ k, mvS b n f f k = 0
  | 0 => rfl
  | k + 1 => by
    show mvS b n f f k + mvT b n f f (b ^ k) = 0
    rw [mvS_none k]
    unfold mvT begN
    rw [if_neg (by omega)]
    rfl
theorem lev_any {b n d : Nat} (hb : 2 ≤ b) (hnd : n < d) : ∃ k, IsLev b n d k := by
  have H : ∀ t, n / b ^ t = d / b ^ t → ∃ k, IsLev b n d k := by
    intro t
    induction t with
    | zero =>
      intro e
      rw [Nat.pow_zero, Nat.div_one, Nat.div_one] at e
      omega
    | succ t ih =>
      intro e
      by_cases c : n / b ^ t = d / b ^ t
      · exact ih c
      · refine ⟨t, e, fun j hj z => c ?_⟩
        have e2 : t = (j + 1) + (t - (j + 1)) := by omega
        rw [e2, Nat.pow_add, ← Nat.div_div_eq_div_mul, ← Nat.div_div_eq_div_mul, z]
  have hl : d < b ^ d := Nat.lt_of_lt_of_le Nat.lt_two_pow_self (Nat.pow_le_pow_left hb d)
  refine H d ?_
  rw [Nat.div_eq_of_lt hl, Nat.div_eq_of_lt (by omega)]
/-- the moves of the due ticks from f on -/
def MovesOk (b n f : Nat) (ms : List Nat) : Prop := ∀ i v, ms[i]? = some v → ∀ k, IsLev b n (f + i) k → v = cnt0 b (f + i) (k + 1)
theorem MovesOk.nil (b n f : Nat) : MovesOk b n f [] := fun i v h => by simp at h
theorem MovesOk.snoc {b n f k : Nat} {ms : List Nat} (h : MovesOk b n f ms) (hk : IsLev b n (f + ms.length) k) : MovesOk b n f (ms ++ [cnt0 b (f + ms.length) (k + 1)]) := by
  intro i v hv k' hk'
  by_cases l : i < ms.length
  · rw [List.getElem?_append_left l] at hv
    exact h i v hv k' hk'
  · rw [List.getElem?_append_right (by omega)] at hv
    have hi : i - ms.length = 0 := by
      have := (List.getElem?_eq_some_iff.mp hv).1
      rw [List.length_singleton] at this
      omega
    rw [hi] at hv
    have e : i = ms.length := by omega
    rw [e] at hk' ⊢
    rw [hk'.uniq hk]
    exact (Option.some.inj hv).symm
theorem moves_sum {b n f K : Nat} {ms : List Nat} (hb : 2 ≤ b) (hnf : n < f) (h : MovesOk b n f ms) (hK : f + ms.length ≤ b ^ K) : (ms.map fun x : Nat => (x : Int)).sum = mvS b n f (f + ms.length) K := by
  have H : ∀ j, j ≤ ms.length → ((ms.take j).map fun x : Nat => (x : Int)).sum = mvS b n f (f + j) K := by
    intro j
    induction j with
    | zero =>
      intro _
      rw [Nat.add_zero, mvS_none]
      rfl
    | succ j ih =>
      intro hj
      have hg : ms[j]? = some ms[j] := List.getElem?_eq_getElem (by omega)
      have hd : n < f + j := by omega
      obtain ⟨k, hk⟩ := lev_any hb hd
      have e := h j _ hg k hk
      have hkK : k + 1 ≤ K := by
        have h1 := hk.size hb hd
        have h2 : b ^ k < b ^ K := by omega
        exact (Nat.pow_lt_pow_iff_right (by omega : 1 < b)).mp h2
      rw [List.take_add_one, hg, List.map_append, List.sum_append, ih (by omega)]
      show _ + ((([ms[j]].map fun x : Nat => (x : Int))).sum) = mvS b n f (f + j + 1) K
      rw [mvS_succ hb (by omega), cntS_lev hk hd K hkK, ← e]
      simp
  have z := H ms.length (Nat.le_refl _)
  rw [List.take_length] at z
  exact z
/-! ### the due ticks that may be the costliest -/
/-- as many ones as there are levels below k -/
def onesN (b : Nat) : Nat → Nat
  | 0 => 0
  | k + 1 => onesN b k + b ^ k
/-- the next later tick that ends in zeros below the level k, with ones in their place -/
def dueK (b f k : Nat) : Nat := (f / b ^ k + 1) * b ^ k + onesN b k
def duesL (b f k : Nat) : List Nat := f :: (List.range k).map (dueK b f)
theorem ones_lt {b : Nat} (hb : 2 ≤ b) : ∀ k, onesN b k < b ^ k
  | 0 => by show 0 < b ^ 0; rw [Nat.pow_zero]; exact Nat.one_pos
  | k + 1 => by
    have ih := ones_lt hb k
    have h2 : 2 * b ^ k ≤ b ^ (k + 1) := by
      rw [Nat.pow_succ, Nat.mul_comm]
      exact Nat.mul_le_mul_left _ hb
    show onesN b k + b ^ k < b ^ (k + 1)
    omega
theorem dueK_gt {b : Nat} (hb : 2 ≤ b) (f k : Nat) : f < dueK b f k := by
  have hp : 0 < b ^ k := Nat.pow_pos (by omega)
  have z := Nat.lt_mul_div_succ f hp
  rw [Nat.mul_comm] at z
  unfold dueK
  omega
theorem dueK_ge (b f k : Nat) : b ^ k ≤ dueK b f k := by
  have z : 1 * b ^ k ≤ (f / b ^ k + 1) * b ^ k := Nat.mul_le_mul_right _ (Nat.succ_le_succ (Nat.zero_le _))
  rw [Nat.one_mul] at z
  unfold dueK
  omega
theorem dueK_zero (b f : Nat) : dueK b f 0 = f + 1 := by
  unfold dueK
  rw [Nat.pow_zero, Nat.div_one, Nat.mul_one]
  rfl
theorem duesL_succ (b f k : Nat) : duesL b f (k + 1) = duesL b f k ++ [dueK b f k] := by
  unfold duesL
  rw [List.range_succ, List.map_append]
  rfl
theorem duesL_len (b f k : Nat) : (duesL b f k).length = k + 1 := by
  unfold duesL
  rw [List.length_cons, List.length_map, List.length_range]
theorem duesL_mem {b f h k d : Nat} (hb : 2 ≤ b) (hf : f < h) (hk : ∀ j, j < k → dueK b f j < h) (hd : d ∈ duesL b f k) : f ≤ d ∧ d < h := by
  rcases List.mem_cons.mp hd with e | hd
  · rw [e]
    exact ⟨Nat.le_refl _, hf⟩
  · obtain ⟨j, hj, e⟩ := List.mem_map.mp hd
    rw [← e]
    exact ⟨Nat.le_of_lt (dueK_gt hb f j), hk j (List.mem_range.mp hj)⟩
/-! pairs of whole numbers at places -/
def PairsAt (H : Hp) : List Addr → List (Int × Int) → Prop
  | [], [] => True
  | t :: ts, p :: ps => H t = some (.tup [.int p.1, .int p.2]) ∧ PairsAt H ts ps
  | _, _ => False
theorem PairsAt.same {H H' : Hp} (s : ∀ t xs, H t = some (.tup xs) → H' t = some (.tup xs)) : ∀ {ts : List Addr} {ps : List (Int × Int)}, PairsAt H ts ps → PairsAt H' ts ps
  | [], [], h => h
  | _ :: _, _ :: _, h => ⟨s _ _ h.1, h.2.same s⟩
  | [], _ :: _, h => h
  | _ :: _, [], h => h
theorem PairsAt.snoc {H : Hp} {t : Addr} {p : Int × Int} : ∀ {ts : List Addr} {ps : List (Int × Int)}, PairsAt H ts ps → H t = some (.tup [.int p.1, .int p.2]) → PairsAt H (ts ++ [t]) (ps ++ [p])
  | [], [], _, h => ⟨h, trivial⟩
  | _ :: _, _ :: _, h, h2 => ⟨h.1, h.2.snoc h2⟩
  | [], _ :: _, h, _ => h.elim
  | _ :: _, [], h, _ => h.elim
theorem PairsAt.item {H : Hp} : ∀ {ts : List Addr} {ps : List (Int × Int)} {i : Nat} {x : V}, PairsAt H ts ps → (ts.map V.ref)[i]? = some x → ∃ t p, x = .ref t ∧ ps[i]? = some p ∧ H t = some (.tup [.int p.1, .int p.2])
  | t :: _, p :: _, 0, _, h, e => ⟨t, p, (Option.some.inj e).symm, rfl, h.1⟩
  | _ :: _, _ :: _, i + 1, _, h, e => h.2.item (i := i) e
  | [], _, _, _, _, e => by simp at e
  | _ :: _, [], _, _, h, _ => h.elim
theorem PairsAt.dp {K : PySem.W.Frag} {H : Hp} : ∀ {ts : List Addr} {ps : List (Int × Int)}, PairsAt H ts ps → DpAll K H (ts.map V.ref) (ps.map PySem.W.Datum.toD)
  | [], [], _ => .nil
  | _ :: _, _ :: _, h => .cons (.tup (SqT.of h.1) (.cons (.int _) (.cons (.int _) .nil))) h.2.dp
  | [], _ :: _, h => h.elim
  | _ :: _, [], h => h.elim
/-! ### the costliest due ticks: the mathematics -/
theorem cnt0_cons (b d : Nat) : ∀ k, cnt0 b d (k + 1) = (if d % b ≠ 0 then 1 else 0) + cnt0 b (d / b) k
  | 0 => by
    show 0 + (if d / b ^ 0 % b ≠ 0 then 1 else 0) = _ + 0
    rw [Nat.pow_zero, Nat.div_one, Nat.zero_add, Nat.add_zero]
  | k + 1 => by
    have ih := cnt0_cons b d k
    have e : d / b ^ (k + 1) = d / b / b ^ k := by rw [Nat.pow_succ, Nat.mul_comm, Nat.div_div_eq_div_mul]
    show cnt0 b d (k + 1) + (if d / b ^ (k + 1) % b ≠ 0 then 1 else 0) = _ + (cnt0 b (d / b) k + if d / b / b ^ k % b ≠ 0 then 1 else 0)
    rw [ih, e, Nat.add_assoc]
theorem cnt0_add (b d k : Nat) : ∀ m, cnt0 b d (k + m) = cnt0 b d k + cnt0 b (d / b ^ k) m
  | 0 => rfl
  | m + 1 => by
    have ih := cnt0_add b d k m
    have e : d / b ^ (k + m) = d / b ^ k / b ^ m := by rw [Nat.pow_add, Nat.div_div_eq_div_mul]
    show cnt0 b d (k + m) + (if d / b ^ (k + m) % b ≠ 0 then 1 else 0) = _ + (cnt0 b (d / b ^ k) m + if d / b ^ k / b ^ m % b ≠ 0 then 1 else 0)
    rw [ih, e, Nat.add_assoc]
theorem cnt0_le (b d : Nat) : ∀ k, cnt0 b d k ≤ k
  | 0 => Nat.le_refl _
  | k + 1 => by
    have ih := cnt0_le b d k
    show cnt0 b d k + _ ≤ _
    split <;> omega
theorem cnt0_full {b d : Nat} : ∀ {k m : Nat}, cnt0 b d k = k → m ≤ k → cnt0 b d m = m
  | 0, m, _, h => by
    obtain rfl : m = 0 := by omega
    rfl
  | k + 1, m, e, h => by
    by_cases z : m = k + 1
    · rw [z]
      exact e
    · have l := cnt0_le b d k
      have e2 : cnt0 b d k + (if d / b ^ k % b ≠ 0 then 1 else 0) = k + 1 := e
      have e3 : cnt0 b d k = k := by
        split at e2 <;> omega
      exact cnt0_full e3 (by omega)
theorem cnt0_digit {b d : Nat} {k i : Nat} (e : cnt0 b d k = k) (h : i < k) : d / b ^ i % b ≠ 0 := by
  have e1 : cnt0 b d (i + 1) = i + 1 := cnt0_full e (by omega)
  have e2 : cnt0 b d i = i := cnt0_full e (by omega)
  have e3 : cnt0 b d i + (if d / b ^ i % b ≠ 0 then 1 else 0) = i + 1 := e1
  intro z
  rw [if_neg (fun q => q z)] at e3
  omega
/-- the lowest 0 -/
theorem low_zero {b d : Nat} : ∀ {k : Nat}, cnt0 b d k ≠ k → ∃ i, i < k ∧ cnt0 b d i = i ∧ d / b ^ i % b = 0
  | 0, h => absurd rfl h
  | k + 1, h => by
    by_cases c : cnt0 b d k = k
    · refine ⟨k, Nat.lt_succ_self k, c, ?_⟩
      by_cases z : d / b ^ k % b = 0
      · exact z
      · refine absurd ?_ h
        show cnt0 b d k + _ = _
        rw [c, if_pos z]
    · obtain ⟨i, hi, e, z⟩ := low_zero c
      exact ⟨i, by omega, e, z⟩
theorem ones_cons (b : Nat) : ∀ k, onesN b (k + 1) = b * onesN b k + 1
  | 0 => by
    show 0 + b ^ 0 = b * 0 + 1
    rw [Nat.pow_zero, Nat.mul_zero]
  | k + 1 => by
    have ih := ones_cons b k
    show onesN b (k + 1) + b ^ (k + 1) = b * (onesN b k + b ^ k) + 1
    rw [ih, Nat.mul_add, Nat.pow_succ, Nat.mul_comm (b ^ k) b]
    omega
/-- the digits below k are those of the rest -/
theorem cnt0_low {b : Nat} (hb : 2 ≤ b) (q r : Nat) : ∀ k m, m ≤ k → cnt0 b (q * b ^ k + r) m = cnt0 b r m
  | _, 0, _ => rfl
  | 0, m + 1, h => by omega
  | k + 1, m + 1, h => by
    have e : q * b ^ (k + 1) + r = b * (q * b ^ k) + r := by
      rw [Nat.pow_succ, ← Nat.mul_assoc, Nat.mul_comm]
    rw [cnt0_cons, cnt0_cons b r, e, Nat.mul_add_mod, Nat.mul_add_div (by omega), cnt0_low hb q (r / b) k m (by omega)]
theorem cnt0_ones {b : Nat} (hb : 2 ≤ b) : ∀ k, cnt0 b (onesN b k) k = k
  | 0 => rfl
  | k + 1 => by
    have e1 : (b * onesN b k + 1) % b = 1 := by
      rw [Nat.mul_add_mod]
      exact Nat.mod_eq_of_lt (by omega)
    have e2 : (b * onesN b k + 1) / b = onesN b k := by
      rw [Nat.mul_add_div (by omega), Nat.div_eq_of_lt (by omega), Nat.add_zero]
    rw [cnt0_cons, ones_cons, e1, e2, cnt0_ones hb k, if_pos (by decide)]
    omega
/-- no 0 below k: at least so many ones -/
theorem ones_le {b d : Nat} : ∀ {k : Nat}, cnt0 b d k = k → onesN b k ≤ d % b ^ k
  | 0, _ => Nat.zero_le _
  | k + 1, e => by
    have ih := ones_le (cnt0_full e (Nat.le_succ k))
    have z := cnt0_digit e (Nat.lt_succ_self k)
    have e2 : d % b ^ (k + 1) = d % b ^ k + b ^ k * (d / b ^ k % b) := Nat.mod_pow_succ
    have l : b ^ k * 1 ≤ b ^ k * (d / b ^ k % b) := Nat.mul_le_mul_left _ (by omega)
    rw [e2]
    show onesN b k + b ^ k ≤ _
    omega
theorem pred_div {b x : Nat} (hb : 2 ≤ b) (h : x % b = 0) (h0 : 0 < x) : (x - 1) / b = x / b - 1 ∧ (x - 1) % b ≠ 0 ∧ 0 < x / b := by
  have e := Nat.div_add_mod x b
  rw [h, Nat.add_zero] at e
  have hp : 0 < x / b := by
    rcases Nat.eq_zero_or_pos (x / b) with z | z
    · rw [z, Nat.mul_zero] at e
      omega
    · exact z
  generalize x / b = y at e hp
  have e2 : x - 1 = b * (y - 1) + (b - 1) := by
    cases y with
    | zero => omega
    | succ y =>
      rw [Nat.mul_succ] at e
      rw [Nat.add_sub_cancel]
      omega
  rw [e2]
  refine ⟨?_, ?_, hp⟩
  · rw [Nat.mul_add_div (by omega), Nat.div_eq_of_lt (by omega), Nat.add_zero]
  · rw [Nat.mul_add_mod, Nat.mod_eq_of_lt (by omega)]
    omega
theorem pred_div2 {b x : Nat} (hb : 2 ≤ b) (h : x % b ≠ 0) : (x - 1) / b = x / b := by
  have e := Nat.div_add_mod x b
  have l := Nat.mod_lt x (show 0 < b by omega)
  have e2 : x - 1 = b * (x / b) + (x % b - 1) := by omega
  have l2 : x % b - 1 < b := by omega
  have hb0 : 0 < b := by omega
  generalize x / b = y at e2 ⊢
  rw [e2, Nat.mul_add_div hb0, Nat.div_eq_of_lt l2, Nat.add_zero]
/-- one less: at most one digit becomes 0, and none where a 0 was below -/
theorem cnt0_pred {b : Nat} (hb : 2 ≤ b) : ∀ (m x : Nat), cnt0 b x m ≤ cnt0 b (x - 1) m + 1
  | 0, _ => Nat.zero_le _
  | m + 1, x => by
    by_cases h0 : x = 0
    · rw [h0]
      exact Nat.le_succ _
    by_cases z : x % b = 0
    · obtain ⟨e1, e2, _⟩ := pred_div hb z (by omega)
      have ih := cnt0_pred hb m (x / b)
      rw [cnt0_cons, cnt0_cons b (x - 1), if_neg (fun q => q z), if_pos e2, e1]
      omega
    · rw [cnt0_cons, cnt0_cons b (x - 1), if_pos z, pred_div2 hb z]
      omega
theorem cnt0_pred0 {b x m : Nat} (hb : 2 ≤ b) (z : x % b = 0) (h0 : 0 < x) : cnt0 b x (m + 1) ≤ cnt0 b (x - 1) (m + 1) := by
  obtain ⟨e1, e2, _⟩ := pred_div hb z h0
  have h := cnt0_pred hb m (x / b)
  rw [cnt0_cons, cnt0_cons b (x - 1), if_neg (fun q => q z), if_pos e2, e1]
  omega
/-- one less, and a lesser number from the index m upwards: zeros were below, and none are any longer -/
theorem cnt0_borrow {b : Nat} (hb : 2 ≤ b) : ∀ (m x : Nat), (x - 1) / b ^ m < x / b ^ m → cnt0 b x m = 0 ∧ cnt0 b (x - 1) m = m
  | 0, _, _ => ⟨rfl, rfl⟩
  | m + 1, x, h => by
    have ex : ∀ y, y / b ^ (m + 1) = y / b / b ^ m := fun y => by rw [Nat.pow_succ, Nat.mul_comm, Nat.div_div_eq_div_mul]
    rw [ex, ex] at h
    have h0 : 0 < x := by
      rcases Nat.eq_zero_or_pos x with z | z
      · rw [z] at h
        exact absurd h (Nat.lt_irrefl _)
      · exact z
    by_cases z : x % b = 0
    · obtain ⟨e1, e2, _⟩ := pred_div hb z h0
      rw [e1] at h
      obtain ⟨i1, i2⟩ := cnt0_borrow hb m (x / b) h
      rw [cnt0_cons, cnt0_cons b (x - 1), if_neg (fun q => q z), if_pos e2, e1, i1, i2]
      exact ⟨rfl, by omega⟩
    · rw [pred_div2 hb z] at h
      exact absurd h (Nat.lt_irrefl _)
theorem div_pow_le (b x : Nat) {j k : Nat} (h : j ≤ k) : x / b ^ k = x / b ^ j / b ^ (k - j) := by
  rw [Nat.div_div_eq_div_mul, ← Nat.pow_add, Nat.add_sub_cancel' h]
theorem lev_of {b n d L : Nat} (h1 : n / b ^ (L + 1) = d / b ^ (L + 1)) (h2 : n / b ^ L ≠ d / b ^ L) : IsLev b n d L := by
  refine ⟨h1, fun j hj e => h2 ?_⟩
  rw [div_pow_le b n (show j + 1 ≤ L by omega), div_pow_le b d (show j + 1 ≤ L by omega), e]
theorem put_div {b : Nat} (hb : 2 ≤ b) (q k : Nat) {r : Nat} (hr : r < b ^ k) : (q * b ^ k + r) / b ^ k = q := by
  rw [Nat.mul_comm, Nat.mul_add_div (pow_pos' hb k), Nat.div_eq_of_lt hr, Nat.add_zero]
/-- the digit that a next later number with the same front ends in -/
theorem next_digit {b x y : Nat} (hb : 2 ≤ b) (h : x < y) (e : x / b = y / b) : (x + 1) / b = x / b ∧ (x + 1) % b ≠ 0 := by
  have e1 := Nat.div_add_mod x b
  have e2 := Nat.div_add_mod y b
  have l := Nat.mod_lt y (show 0 < b by omega)
  rw [← e] at e2
  have e3 : x + 1 = b * (x / b) + (x % b + 1) := by omega
  have l2 : x % b + 1 < b := by omega
  constructor
  · rw [e3, Nat.mul_add_div (by omega), Nat.div_eq_of_lt l2, Nat.add_zero]
  · rw [e3, Nat.mul_add_mod, Nat.mod_eq_of_lt l2]
    omega
/-- of each due tick from f on: one that dues_to_try tells of is not later and costs as much -/
theorem cand {b n f : Nat} (hb : 2 ≤ b) (hnf : n < f) : ∀ d L, f ≤ d → IsLev b n d L → ∃ c M, (c = f ∨ ∃ j, c = dueK b f j) ∧ f ≤ c ∧ c ≤ d ∧ IsLev b n c M ∧ cnt0 b d (L + 1) ≤ cnt0 b c (M + 1) := by
  intro d
  induction d using Nat.strongRecOn with
  | ind d ih =>
  intro L hfd hL
  rcases Nat.eq_or_lt_of_le hfd with e | hfd
  · subst e
    exact ⟨f, L, .inl rfl, Nat.le_refl _, Nat.le_refl _, hL, Nat.le_refl _⟩
  obtain ⟨j, hj⟩ := lev_any hb hfd
  have hjd := hj.ne hfd
  have hLd := hL.ne (show n < d by omega)
  have hjL : j ≤ L := by
    rcases Nat.lt_or_ge L j with l | l
    · have e := lev_gt hL l
      have e2 : n / b ^ j ≤ f / b ^ j := Nat.div_le_div_right (Nat.le_of_lt hnf)
      omega
    · exact l
  by_cases A : cnt0 b d j = j
  · -- c = dueK b f j
    obtain ⟨u1, u2⟩ := next_digit hb hjd (by rw [← div_succ, ← div_succ]; exact hj.1)
    have ho := ones_lt hb j
    have cj : dueK b f j / b ^ j = f / b ^ j + 1 := put_div hb _ j ho
    have cj1 : dueK b f j / b ^ (j + 1) = d / b ^ (j + 1) := by rw [div_succ, cj, u1, ← div_succ, hj.1]
    have cle : dueK b f j ≤ d := by
      have z1 := ones_le A
      have z2 := Nat.div_add_mod d (b ^ j)
      have z3 : (f / b ^ j + 1) * b ^ j ≤ b ^ j * (d / b ^ j) := by
        rw [Nat.mul_comm]
        exact Nat.mul_le_mul_left _ hjd
      unfold dueK
      omega
    have cL1 : dueK b f j / b ^ (L + 1) = d / b ^ (L + 1) := by rw [div_pow_le b _ (show j + 1 ≤ L + 1 by omega), cj1, ← div_pow_le b d (show j + 1 ≤ L + 1 by omega)]
    have lev : IsLev b n (dueK b f j) L := by
      refine lev_of (by rw [cL1]; exact hL.1) ?_
      rcases Nat.eq_or_lt_of_le hjL with e | l
      · rw [← e, cj]
        have e2 : n / b ^ j ≤ f / b ^ j := Nat.div_le_div_right (Nat.le_of_lt hnf)
        omega
      · rw [div_pow_le b (dueK b f j) (show j + 1 ≤ L from l), cj1, ← div_pow_le b d (show j + 1 ≤ L from l)]
        omega
    refine ⟨_, L, .inr ⟨j, rfl⟩, Nat.le_of_lt (dueK_gt hb f j), cle, lev, ?_⟩
    have e1 : L + 1 = j + (L - j + 1) := by omega
    have c1 : cnt0 b (dueK b f j) j = j := by
      unfold dueK
      rw [cnt0_low hb _ _ j j (Nat.le_refl _), cnt0_ones hb j]
    have x1 : d / b ^ j / b = d / b ^ (j + 1) := (div_succ d b j).symm
    rw [e1, cnt0_add b d, cnt0_add b (dueK b f j), A, c1, cj, cnt0_cons, cnt0_cons b (f / b ^ j + 1), if_pos u2, u1, x1, ← div_succ, hj.1]
    split <;> omega
  · obtain ⟨k, hk, ck, zk⟩ := low_zero A
    have hfk1 := lev_le hj hfd (show k + 1 ≤ j by omega)
    have hfk := lev_le hj hfd (show k ≤ j by omega)
    have ho := ones_lt hb k
    obtain ⟨q, hq⟩ : ∃ q, q = d / b ^ k := ⟨_, rfl⟩
    have hq1 : q / b = d / b ^ (k + 1) := by rw [hq, ← div_succ]
    rw [← hq] at zk hfk
    have q0 : 0 < q := Nat.lt_of_le_of_lt (Nat.zero_le _) hfk
    have hmod := ones_le ck
    have hdm := Nat.div_add_mod d (b ^ k)
    rw [← hq] at hdm
    have e1 : L + 1 = k + (L - k + 1) := by omega
    have cd : cnt0 b d (L + 1) = k + cnt0 b q (L - k + 1) := by rw [e1, cnt0_add, ck, ← hq]
    by_cases B : f / b ^ k + 1 = q
    · have ec : dueK b f k = q * b ^ k + onesN b k := by
        unfold dueK
        rw [B]
      have cq : dueK b f k / b ^ k = q := by
        rw [ec]
        exact put_div hb q k ho
      have cle : dueK b f k ≤ d := by
        rw [ec, Nat.mul_comm]
        omega
      have lv : ∀ t, k ≤ t → dueK b f k / b ^ t = d / b ^ t := fun t ht => by rw [div_pow_le b _ ht, cq, div_pow_le b d ht, hq]
      have lev : IsLev b n (dueK b f k) L := lev_of (by rw [lv _ (by omega)]; exact hL.1) (by rw [lv _ (by omega)]; omega)
      refine ⟨_, L, .inr ⟨k, rfl⟩, Nat.le_of_lt (dueK_gt hb f k), cle, lev, ?_⟩
      rw [cd, e1, cnt0_add b (dueK b f k), cq, ec, cnt0_low hb _ _ k k (Nat.le_refl _), cnt0_ones hb k]
      exact Nat.le_refl _
    · have hf2 : f / b ^ k + 1 < q := by omega
      obtain ⟨x, hx⟩ : ∃ x, x = (q - 1) * b ^ k + onesN b k := ⟨_, rfl⟩
      have xq : x / b ^ k = q - 1 := by
        rw [hx]
        exact put_div hb _ k ho
      have hxd : x < d := by
        have z : (q - 1) * b ^ k + b ^ k = b ^ k * q := by
          have e : q = (q - 1) + 1 := by omega
          conv => rhs; rw [e, Nat.mul_add, Nat.mul_one, Nat.mul_comm]
        omega
      have hfx : f < x := by
        rcases Nat.lt_or_ge f x with l | l
        · exact l
        · have z : x / b ^ k ≤ f / b ^ k := Nat.div_le_div_right l
          omega
      have hnx : n < x := by omega
      have hnk : n / b ^ k ≤ f / b ^ k := Nat.div_le_div_right (Nat.le_of_lt hnf)
      obtain ⟨M, hM⟩ := lev_any hb hnx
      have hkM : k ≤ M := by
        rcases Nat.lt_or_ge M k with l | l
        · have e := lev_gt hM l
          omega
        · exact l
      have hML : M ≤ L := by
        rcases Nat.lt_or_ge L M with l | l
        · have z1 := lev_le hM hnx (show L + 1 ≤ M from l)
          have z2 : x / b ^ (L + 1) ≤ d / b ^ (L + 1) := Nat.div_le_div_right (Nat.le_of_lt hxd)
          have z3 := hL.1
          omega
        · exact l
      have cx : ∀ t, cnt0 b x (k + t) = k + cnt0 b (q - 1) t := fun t => by rw [cnt0_add, xq, hx, cnt0_low hb _ _ k k (Nat.le_refl _), cnt0_ones hb k]
      have hc : cnt0 b d (L + 1) ≤ cnt0 b x (M + 1) := by
        rw [cd]
        rcases Nat.eq_or_lt_of_le hML with e | l
        · rw [e, e1, cx]
          exact Nat.add_le_add_left (cnt0_pred0 hb zk q0) k
        · have z1 := lev_gt hM l
          have z2 : (q - 1) / b ^ (L - k) < q / b ^ (L - k) := by
            rw [← xq, hq, ← div_pow_le b x (show k ≤ L by omega), ← div_pow_le b d (show k ≤ L by omega), ← z1]
            exact hLd
          obtain ⟨y1, y2⟩ := cnt0_borrow hb _ _ z2
          have e3 : M + 1 = k + (M + 1 - k) := by omega
          rw [e3, cx, cnt0_full y2 (show M + 1 - k ≤ L - k by omega)]
          show k + (cnt0 b q (L - k) + _) ≤ _
          rw [y1]
          split <;> omega
      obtain ⟨c, M', w1, w2, w3, w4, w5⟩ := ih x hxd M (Nat.le_of_lt hfx) hM
      exact ⟨c, M', w1, w2, by omega, w4, Nat.le_trans hc w5⟩
/-! ### the costliest due tick of a range, told by rows -/
def Cst (b n d c : Nat) : Prop := ∃ k, IsLev b n d k ∧ c = cnt0 b d (k + 1)
theorem Cst.uniq {b n d c c' : Nat} (h : Cst b n d c) (h' : Cst b n d c') : c = c' := by
  obtain ⟨k, h1, rfl⟩ := h
  obtain ⟨k', h2, rfl⟩ := h'
  rw [h1.uniq h2]
theorem cst_any {b n d : Nat} (hb : 2 ≤ b) (h : n < d) : ∃ c, Cst b n d c := by
  obtain ⟨k, hk⟩ := lev_any hb h
  exact ⟨_, k, hk, rfl⟩
/-- M moves at most, and D the least due tick that has them -/
def Best (b n f h M D : Nat) : Prop := f ≤ D ∧ D < h ∧ Cst b n D M ∧ ∀ d c, f ≤ d → d < h → Cst b n d c → c < M ∨ (c = M ∧ D ≤ d)
theorem Best.uniq {b n f h M D M' D' : Nat} (x : Best b n f h M D) (y : Best b n f h M' D') : M = M' ∧ D = D' := by
  obtain ⟨x1, x2, x3, x4⟩ := x
  obtain ⟨y1, y2, y3, y4⟩ := y
  have z1 := x4 D' M' y1 y2 y3
  have z2 := y4 D M x1 x2 x3
  omega
def negP (r : Nat × Nat) : Int × Int := (-(r.1 : Int), (r.2 : Int))
def PLe (p q : Int × Int) : Prop := p.1 < q.1 ∨ (p.1 = q.1 ∧ p.2 ≤ q.2)
/-- rows of due ticks of the range, costs ahead; those before e are outdone by them -/
def RowsB (b n f h e : Nat) (rs : List (Nat × Nat)) : Prop := (∀ r ∈ rs, f ≤ r.2 ∧ r.2 < h ∧ Cst b n r.2 r.1) ∧ ∀ d c, f ≤ d → d < e → d < h → Cst b n d c → ∃ r ∈ rs, c < r.1 ∨ (c = r.1 ∧ r.2 ≤ d)
theorem RowsB.best {b n f h e : Nat} {rs : List (Nat × Nat)} (R : RowsB b n f h e rs) (he : h ≤ e) {r : Nat × Nat} (hr : r ∈ rs) (hm : ∀ y ∈ rs, PLe (negP r) (negP y)) : Best b n f h r.1 r.2 := by
  obtain ⟨h1, h2, h3⟩ := R.1 r hr
  refine ⟨h1, h2, h3, fun d c hd hd2 hc => ?_⟩
  obtain ⟨y, hy, hyc⟩ := R.2 d c hd (by omega) hd2 hc
  have z : -(r.1 : Int) < -(y.1 : Int) ∨ (-(r.1 : Int) = -(y.1 : Int) ∧ (r.2 : Int) ≤ (y.2 : Int)) := hm y hy
  omega
theorem RowsB.nil {b n f h e : Nat} (he : e ≤ f) : RowsB b n f h e [] := ⟨fun r hr => absurd hr List.not_mem_nil, fun d c h1 h2 _ _ => by omega⟩
theorem RowsB.skip {b n f h e e' : Nat} {rs : List (Nat × Nat)} (R : RowsB b n f h e rs) (he : e' ≤ max f e) : RowsB b n f h e' rs := by
  refine ⟨R.1, fun d c h1 h2 h3 h4 => R.2 d c h1 ?_ h3 h4⟩
  omega
theorem RowsB.ne {b n f h e : Nat} {rs : List (Nat × Nat)} (R : RowsB b n f h e rs) (hb : 2 ≤ b) (hnf : n < f) (hfh : f < h) (he : h ≤ e) : rs ≠ [] := by
  obtain ⟨c, hc⟩ := cst_any hb hnf
  obtain ⟨r, hr, _⟩ := R.2 f c (Nat.le_refl _) (by omega) hfh hc
  intro z
  rw [z] at hr
  exact absurd hr List.not_mem_nil
/-- a part: its begin and what dues_to_try would tell of it, whatever else of the range -/
theorem RowsB.part {b n f h e e' g : Nat} {rs rs' : List (Nat × Nat)} (R : RowsB b n f h e rs) (hb : 2 ≤ b) (hnf : n < f) (hg : g = max f e) (hg2 : g < e') (hgh : g < h)
    (hin : ∀ r ∈ rs', g ≤ r.2 ∧ r.2 < min h e' ∧ Cst b n r.2 r.1) (h0 : g ∈ rs'.map (·.2)) (hk : ∀ k, dueK b g k < min h e' → dueK b g k ∈ rs'.map (·.2)) : RowsB b n f h e' (rs ++ rs') := by
  refine ⟨fun r hr => ?_, fun d c hd hd2 hd3 hc => ?_⟩
  · rcases List.mem_append.mp hr with hr | hr
    · exact R.1 r hr
    · obtain ⟨z1, z2, z3⟩ := hin r hr
      exact ⟨by omega, by omega, z3⟩
  · rcases Nat.lt_or_ge d e with l | l
    · obtain ⟨r, hr, hr2⟩ := R.2 d c hd l hd3 hc
      exact ⟨r, List.mem_append_left _ hr, hr2⟩
    · obtain ⟨L, hL, rfl⟩ := hc
      obtain ⟨c', M, w1, w2, w3, w4, w5⟩ := cand hb (show n < g by omega) d L (by omega) hL
      have hm : c' ∈ rs'.map (·.2) := by
        rcases w1 with e1 | ⟨j, e1⟩
        · rw [e1]
          exact h0
        · rw [e1]
          exact hk j (by omega)
      obtain ⟨r, hr, er⟩ := List.mem_map.mp hm
      refine ⟨r, List.mem_append_right _ hr, ?_⟩
      obtain ⟨_, _, z3⟩ := hin r hr
      rw [er] at z3 ⊢
      have z4 := z3.uniq ⟨M, w4, rfl⟩
      omega
theorem dueK_mono {b : Nat} (hb : 2 ≤ b) (f : Nat) : ∀ {j k : Nat}, j ≤ k → dueK b f j ≤ dueK b f k := by
  have step : ∀ j, dueK b f j ≤ dueK b f (j + 1) := fun j => by
    have z : f / b ^ j + 1 ≤ (f / b ^ (j + 1) + 1) * b := by
      rw [div_succ]
      have e := Nat.lt_mul_div_succ (f / b ^ j) (show 0 < b by omega)
      rw [Nat.mul_comm] at e
      exact e
    have z2 : (f / b ^ j + 1) * b ^ j ≤ (f / b ^ (j + 1) + 1) * b * b ^ j := Nat.mul_le_mul_right _ z
    rw [Nat.mul_assoc, Nat.mul_comm b, ← Nat.pow_succ] at z2
    unfold dueK
    show _ ≤ _ + (onesN b j + b ^ j)
    have z3 : onesN b j ≤ onesN b j + b ^ j := Nat.le_add_right _ _
    exact Nat.add_le_add z2 z3
  intro j k h
  induction h with
  | refl => exact Nat.le_refl _
  | step _ ih => exact Nat.le_trans ih (step _)
/-- the program's rows -/
theorem rows_dues {b n f h k : Nat} {rs : List (Nat × Nat)} (hb : 2 ≤ b) (hnf : n < f) (hfh : f < h) (hk : ∀ j, j < k → dueK b f j < h) (hh : h ≤ dueK b f k) (e : rs.map (·.2) = duesL b f k) (hc : ∀ r ∈ rs, Cst b n r.2 r.1) : RowsB b n f h h rs := by
  have R0 : RowsB b n f h 0 [] := RowsB.nil (Nat.zero_le _)
  have R := R0.part (e' := h) (g := f) (rs' := rs) hb hnf (by omega) hfh hfh (fun r hr => ?_) ?_ fun j hj => ?_
  · exact R
  · have z := duesL_mem hb hfh hk (by rw [← e]; exact List.mem_map_of_mem hr : r.2 ∈ duesL b f k)
    exact ⟨z.1, by omega, hc r hr⟩
  · rw [e]
    exact List.mem_cons_self ..
  · rw [e]
    refine List.mem_cons_of_mem _ (List.mem_map.mpr ⟨j, List.mem_range.mpr ?_, rfl⟩)
    rcases Nat.lt_or_ge j k with l | l
    · exact l
    · have z := dueK_mono hb f l
      omega
/-- where the part of the level L begins -/
def begL (b n L : Nat) : Nat := (n / b ^ L + 1) * b ^ L
theorem begL_zero (b n : Nat) : begL b n 0 = n + 1 := by
  unfold begL
  rw [Nat.pow_zero, Nat.div_one, Nat.mul_one]
theorem begL_mono {b : Nat} (hb : 2 ≤ b) (n L : Nat) : begL b n L ≤ begL b n (L + 1) := by
  have z : n / b ^ L + 1 ≤ (n / b ^ (L + 1) + 1) * b := by
    rw [div_succ]
    have e := Nat.lt_mul_div_succ (n / b ^ L) (show 0 < b by omega)
    rw [Nat.mul_comm] at e
    exact e
  have z2 : (n / b ^ L + 1) * b ^ L ≤ (n / b ^ (L + 1) + 1) * b * b ^ L := Nat.mul_le_mul_right _ z
  rw [Nat.mul_assoc, Nat.mul_comm b, ← Nat.pow_succ] at z2
  exact z2
theorem begL_ge (b n L : Nat) : b ^ L ≤ begL b n L := by
  have z : 1 * b ^ L ≤ (n / b ^ L + 1) * b ^ L := Nat.mul_le_mul_right _ (Nat.succ_le_succ (Nat.zero_le _))
  rw [Nat.one_mul] at z
  exact z
theorem begL_gt {b : Nat} (hb : 2 ≤ b) (n L : Nat) : n < begL b n L := by
  have e := Nat.lt_mul_div_succ n (pow_pos' hb L)
  rw [Nat.mul_comm] at e
  exact e
/-- of such a part all due ticks have this level -/
theorem begL_lev {b n d L : Nat} (hb : 2 ≤ b) (h1 : begL b n L ≤ d) (h2 : d < begL b n (L + 1)) : IsLev b n d L := by
  have hp := pow_pos' hb L
  have hp1 := pow_pos' hb (L + 1)
  have hn := begL_gt hb n L
  have a1 : n / b ^ L + 1 ≤ d / b ^ L := (Nat.le_div_iff_mul_le hp).mpr h1
  have a2 : d / b ^ (L + 1) < n / b ^ (L + 1) + 1 := (Nat.div_lt_iff_lt_mul hp1).mpr h2
  have a3 : n / b ^ (L + 1) ≤ d / b ^ (L + 1) := Nat.div_le_div_right (by omega)
  exact lev_of (by omega) (by omega)
/-- a whole part: ones behind its begin -/
theorem RowsB.whole {b n f h L : Nat} {rs : List (Nat × Nat)} (R : RowsB b n f h (begL b n L) rs) (hb : 2 ≤ b) (hf : f ≤ begL b n L) (hlt : begL b n L < begL b n (L + 1)) (hh : begL b n (L + 1) ≤ h) :
    RowsB b n f h (begL b n (L + 1)) (rs ++ [(L + 1, begL b n L + onesN b L)]) := by
  have ho := ones_lt hb L
  have hp := pow_pos' hb L
  -- the digit at L
  have hd : n / b ^ L + 1 < (n / b ^ (L + 1) + 1) * b := by
    have z : (n / b ^ L + 1) * b ^ L < (n / b ^ (L + 1) + 1) * b * b ^ L := by
      rw [Nat.mul_assoc, Nat.mul_comm b, ← Nat.pow_succ]
      exact hlt
    exact Nat.lt_of_mul_lt_mul_right z
  have hx : (begL b n L + onesN b L) / b ^ L = n / b ^ L + 1 := put_div hb _ L ho
  have hx1 : (begL b n L + onesN b L) < begL b n (L + 1) := by
    have z : (n / b ^ L + 2) * b ^ L ≤ (n / b ^ (L + 1) + 1) * b * b ^ L := Nat.mul_le_mul_right _ hd
    rw [Nat.mul_assoc, Nat.mul_comm b, ← Nat.pow_succ] at z
    change _ ≤ (n / b ^ (L + 1) + 1) * b ^ (L + 1) at z
    have z2 : (n / b ^ L + 2) * b ^ L = begL b n L + b ^ L := by
      show (n / b ^ L + 1 + 1) * b ^ L = _
      rw [Nat.add_mul, Nat.one_mul]
      rfl
    have z3 : begL b n (L + 1) = (n / b ^ (L + 1) + 1) * b ^ (L + 1) := rfl
    omega
  have lx : IsLev b n (begL b n L + onesN b L) L := begL_lev hb (Nat.le_add_right _ _) hx1
  have hnx : n < begL b n L + onesN b L := Nat.lt_of_lt_of_le (begL_gt hb n L) (Nat.le_add_right _ _)
  have dx := lx.digit hnx
  have cx : cnt0 b (begL b n L + onesN b L) (L + 1) = L + 1 := by
    have c1 : cnt0 b (begL b n L + onesN b L) L = L := by
      unfold begL
      rw [cnt0_low hb _ _ L L (Nat.le_refl _), cnt0_ones hb L]
    show cnt0 b (begL b n L + onesN b L) L + _ = _
    rw [c1, if_pos (by omega)]
  refine ⟨fun r hr => ?_, fun d c hd0 hd2 hd3 hc => ?_⟩
  · rcases List.mem_append.mp hr with hr | hr
    · exact R.1 r hr
    · obtain rfl := List.mem_singleton.mp hr
      exact ⟨Nat.le_trans hf (Nat.le_add_right _ _), Nat.lt_of_lt_of_le hx1 hh, L, lx, cx.symm⟩
  · rcases Nat.lt_or_ge d (begL b n L) with l | l
    · obtain ⟨r, hr, hr2⟩ := R.2 d c hd0 l hd3 hc
      exact ⟨r, List.mem_append_left _ hr, hr2⟩
    · refine ⟨_, List.mem_append_right _ (List.mem_singleton.mpr rfl), ?_⟩
      have lv := begL_lev hb l hd2
      obtain ⟨k, hk, rfl⟩ := hc
      rw [← lv.uniq hk]
      rcases Nat.eq_or_lt_of_le (cnt0_le b d (L + 1)) with e | e
      · refine .inr ⟨e, ?_⟩
        have z1 := ones_le (cnt0_full e (Nat.le_succ L))
        have z2 := Nat.div_add_mod d (b ^ L)
        have z3 : n / b ^ L + 1 ≤ d / b ^ L := (Nat.le_div_iff_mul_le hp).mpr l
        have z4 : b ^ L * (n / b ^ L + 1) ≤ b ^ L * (d / b ^ L) := Nat.mul_le_mul_left _ z3
        have z5 : begL b n L = b ^ L * (n / b ^ L + 1) := Nat.mul_comm ..
        show begL b n L + onesN b L ≤ d
        omega
      · exact .inl e
/-- as many ones, told by a division -/
theorem ones_div {b : Nat} (hb : 2 ≤ b) (k : Nat) : (b ^ k - 1) / (b - 1) = onesN b k := by
  have e : ∀ k, onesN b k * (b - 1) + 1 = b ^ k := fun k => by
    induction k with
    | zero =>
      show 0 * (b - 1) + 1 = b ^ 0
      rw [Nat.zero_mul, Nat.pow_zero]
    | succ k ih =>
      show (onesN b k + b ^ k) * (b - 1) + 1 = b ^ (k + 1)
      have z : b ^ k * (b - 1) + b ^ k = b ^ k * b := by
        have e : b = (b - 1) + 1 := by omega
        conv => rhs; rw [e, Nat.mul_add, Nat.mul_one, ← e]
      rw [Nat.add_mul, Nat.pow_succ]
      omega
  have z := e k
  have z2 : b ^ k - 1 = onesN b k * (b - 1) := by omega
  rw [z2, Nat.mul_div_cancel _ (by omega)]
/-! ### min of a list of pairs of whole numbers: the least -/
theorem ple_of {p q : Int × Int} (h : PySem.W.DatumOrd.lt q p = false) : PLe p q := by
  have e : (if q.1 = p.1 then decide (q.2 < p.2) else decide (q.1 < p.1)) = false := h
  by_cases c : q.1 = p.1
  · rw [if_pos c] at e
    exact .inr ⟨c.symm, by have z := of_decide_eq_false e; omega⟩
  · rw [if_neg c] at e
    have z := of_decide_eq_false e
    exact .inl (by omega)
theorem ple_lt {p q : Int × Int} (h : PySem.W.DatumOrd.lt q p = true) : PLe q p := by
  have e : (if q.1 = p.1 then decide (q.2 < p.2) else decide (q.1 < p.1)) = true := h
  by_cases c : q.1 = p.1
  · rw [if_pos c] at e
    exact .inr ⟨c, by have z := of_decide_eq_true e; omega⟩
  · rw [if_neg c] at e
    exact .inl (of_decide_eq_true e)
theorem PLe.refl (p : Int × Int) : PLe p p := .inr ⟨rfl, Int.le_refl _⟩
theorem PLe.trans {p q r : Int × Int} (h : PLe p q) (h2 : PLe q r) : PLe p r := by
  unfold PLe at *
  omega
theorem minOf_pairs : ∀ (xs : List (Int × Int)) (x : Int × Int), ∀ y ∈ x :: xs, PLe (PySem.W.minOf x xs) y
  | [], x, y, h => by
    obtain rfl := List.mem_singleton.mp h
    exact PLe.refl _
  | z :: xs, x, y, h => by
    have e : PySem.W.minOf x (z :: xs) = PySem.W.minOf (if PySem.W.DatumOrd.lt z x = true then z else x) xs := rfl
    rw [e]
    have ih := minOf_pairs xs (if PySem.W.DatumOrd.lt z x = true then z else x)
    have h0 := ih _ (List.mem_cons_self ..)
    rcases List.mem_cons.mp h with e1 | h
    · rw [e1]
      refine h0.trans ?_
      by_cases c : PySem.W.DatumOrd.lt z x = true
      · rw [if_pos c]
        exact ple_lt c
      · rw [if_neg c]
        exact PLe.refl _
    · rcases List.mem_cons.mp h with e1 | h
      · rw [e1]
        refine h0.trans ?_
        by_cases c : PySem.W.DatumOrd.lt z x = true
        · rw [if_pos c]
          exact PLe.refl _
        · rw [if_neg c]
          exact ple_of (Bool.eq_false_iff.mpr c)
      · exact ih y (List.mem_cons_of_mem _ h)
def rMinP2 (K : PySem.W.Frag) : List V → Hp → VK → Prop := fun vs H Q => ∃ (a : Addr) (xs : List V) (ps : List (Int × Int)), vs = [.ref a] ∧ SqL K H a xs ∧ DpAll K H xs (ps.map PySem.W.Datum.toD) ∧ ps ≠ [] ∧ ∀ (i : Nat) (x : V) (p : Int × Int), xs[i]? = some x → ps[i]? = some p → (∀ y ∈ ps, PLe p y) → Q x H
section
variable {X : Cx} {K : PySem.W.Frag}
theorem minP2 (e : X.K = K) (hc : X.calm = true) (hu : X.A.units + 64 < cLine) : CallR X (.builtin "min") (rMinP2 K) := by
  subst e
  intro pins s σ H vs us Q I r h
  obtain ⟨a, xs, qs, rfl, hs, hd, hne, q⟩ := h
  obtain ⟨p, ps, rfl⟩ : ∃ p ps, qs = p :: ps := by
    cases qs with
    | nil => exact absurd rfl hne
    | cons p ps => exact ⟨p, ps, rfl⟩
  obtain ⟨its, rv, hl, _⟩ := I.list hs
  rw [Vals.ref1 r]
  obtain ⟨as, ra⟩ := Dp.readsAll I _ _ _ hd rv
  have hdep : PySem.W.Datum.depth (Int × Int) ≤ 60 := by decide
  refine PySem.W.min_list_datum (α := Int × Int) (x := p) (xs := ps) (I.ok.hd hc) hl.isList ⟨as, by simpa using ra⟩ (by omega) fun i v h' tk hi hh hk => ?_
  have hi2 : its[i]? = some v := by simpa using hi
  have hlt : i < xs.length := by
    rw [rv.length]
    exact (List.getElem?_eq_some_iff.mp hi2).1
  obtain ⟨u, h1, h2⟩ := rv.get (List.getElem?_eq_getElem hlt)
  rw [hi2] at h1
  cases h1
  obtain ⟨bs, hr⟩ := hh
  obtain ⟨cs, hr2, hi3, _, _⟩ := PySem.W.readsAll_at ra i v hi2
  have hu2 := (Reads.unique (Reads.keeps hk hr2) _ _ hr).1
  have hlp : i < (p :: ps).length := by simpa using hi3
  have eg : ((p :: ps).map PySem.W.Datum.toD).getD i .none = PySem.W.Datum.toD ((p :: ps)[i]) := by
    rw [List.getD_eq_getElem?_getD, List.getElem?_map, List.getElem?_eq_getElem hlp]
    rfl
  rw [eg] at hu2
  have hz : (p :: ps)[i] = PySem.W.minOf p ps := by
    have inj : ∀ x y : Int × Int, PySem.W.Datum.toD x = PySem.W.Datum.toD y → x = y := fun x y e => by
      have e2 : PyData.tuple [.int x.1, .int x.2] = PyData.tuple [.int y.1, .int y.2] := e
      injection e2 with e3
      injection e3 with e4 e5
      injection e5 with e6 _
      injection e4 with e7
      injection e6 with e8
      exact Prod.ext e7 e8
    exact inj _ _ hu2
  exact ⟨xs[i], H, I.kept hk, h2, q i _ _ (List.getElem?_eq_getElem hlt) (List.getElem?_eq_getElem hlp) fun y hy => by
    rw [hz]
    exact minOf_pairs ps p y hy⟩
end
/-! ### data equal to itself -/
theorem neq_refl {d : PyData} (h : d.canLay0 = true) : V.bl (!PyData.eqv d d) = V.bl false := by
  rw [SeqAt.eqv_refl d h]
  rfl
theorem eq_refl {d : PyData} (h : d.canLay0 = true) : V.bl (PyData.eqv d d) = V.bl true := by
  rw [SeqAt.eqv_refl d h]
def topS (i : Nat) : Stmt := PySem.Challenge.pw_timerdeque_k17_costliest_due_ticks.main.body.getD i (.Pass ⟨0, 0, 0, 0⟩)
abbrev s_is_integer : Stmt := topS 5
abbrev N_is_integer : List Str := ["given"]
theorem sc_is_integer : FnScope N_is_integer ["given"] (defScope s_is_integer) := by
  refine ⟨rfl, rfl, rfl, ?_, rfl, ?_, ?_⟩ <;> decide +kernel
abbrev s_is_base : Stmt := topS 6
abbrev N_is_base : List Str := ["given"]
theorem sc_is_base : FnScope N_is_base ["given"] (defScope s_is_base) := by
  refine ⟨rfl, rfl, rfl, ?_, rfl, ?_, ?_⟩ <;> decide +kernel
abbrev s_is_tick : Stmt := topS 7
abbrev N_is_tick : List Str := ["given", "least"]
theorem sc_is_tick : FnScope N_is_tick ["given", "least"] (defScope s_is_tick) := by
  refine ⟨rfl, rfl, rfl, ?_, rfl, ?_, ?_⟩ <;> decide +kernel
abbrev s_check_base : Stmt := topS 8
abbrev N_check_base : List Str := ["base"]
theorem sc_check_base : FnScope N_check_base ["base"] (defScope s_check_base) := by
  refine ⟨rfl, rfl, rfl, ?_, rfl, ?_, ?_⟩ <;> decide +kernel
abbrev s_check_tick : Stmt := topS 9
abbrev N_check_tick : List Str := ["tick", "least"]
theorem sc_check_tick : FnScope N_check_tick ["tick", "least"] (defScope s_check_tick) := by
  refine ⟨rfl, rfl, rfl, ?_, rfl, ?_, ?_⟩ <;> decide +kernel
abbrev s_level_and_size : Stmt := topS 11
abbrev N_level_and_size : List Str := ["base", "now", "due", "level", "size", "above_now", "above_due"]
theorem sc_level_and_size : FnScope N_level_and_size ["base", "now", "due"] (defScope s_level_and_size) := by
  refine ⟨rfl, rfl, rfl, ?_, rfl, ?_, ?_⟩ <;> decide +kernel
abbrev s_path : Stmt := topS 12
abbrev N_path : List Str := ["base", "now", "due", "level", "size", "rows", "tick", "digit"]
theorem sc_path : FnScope N_path ["base", "now", "due"] (defScope s_path) := by
  refine ⟨rfl, rfl, rfl, ?_, rfl, ?_, ?_⟩ <;> decide +kernel
abbrev s_dues_to_try : Stmt := topS 14
abbrev N_dues_to_try : List Str := ["base", "first", "behind", "dues", "size", "ones", "due"]
theorem sc_dues_to_try : FnScope N_dues_to_try ["base", "first", "behind"] (defScope s_dues_to_try) := by
  refine ⟨rfl, rfl, rfl, ?_, rfl, ?_, ?_⟩ <;> decide +kernel
abbrev s_costliest : Stmt := topS 15
abbrev N_costliest : List Str := ["base", "now", "first", "behind", "due", "rows", "cost"]
theorem sc_costliest : FnScope N_costliest ["base", "now", "first", "behind"] (defScope s_costliest) := by
  refine ⟨rfl, rfl, rfl, ?_, rfl, ?_, ?_⟩ <;> decide +kernel
abbrev s__law_cell_at : Stmt := topS 17
abbrev N__law_cell_at : List Str := ["_law_script", "_law_k"]
theorem sc__law_cell_at : FnScope N__law_cell_at ["_law_script", "_law_k"] (defScope s__law_cell_at) := by
  refine ⟨rfl, rfl, rfl, ?_, rfl, ?_, ?_⟩ <;> decide +kernel
abbrev s__law_mixed : Stmt := topS 18
abbrev N__law_mixed : List Str := ["_law_cell", "_law_k", "_law_low"]
theorem sc__law_mixed : FnScope N__law_mixed ["_law_cell", "_law_k"] (defScope s__law_mixed) := by
  refine ⟨rfl, rfl, rfl, ?_, rfl, ?_, ?_⟩ <;> decide +kernel
abbrev s__law_source : Stmt := topS 19
abbrev N__law_source : List Str := ["_law_script", "_law_k", "_law_cell"]
theorem sc__law_source : FnScope N__law_source ["_law_script", "_law_k"] (defScope s__law_source) := by
  refine ⟨rfl, rfl, rfl, ?_, rfl, ?_, ?_⟩ <;> decide +kernel
abbrev s__law_next : Stmt := topS 20
abbrev N__law_next : List Str := ["_law_source_here", "_law_many", "_law_found"]
theorem sc__law_next : FnScope N__law_next ["_law_source_here", "_law_many"] (defScope s__law_next) := by
  refine ⟨rfl, rfl, rfl, ?_, rfl, ?_, ?_⟩ <;> decide +kernel
abbrev s__law_base : Stmt := topS 21
abbrev N__law_base : List Str := ["_law_source_here"]
theorem sc__law_base : FnScope N__law_base ["_law_source_here"] (defScope s__law_base) := by
  refine ⟨rfl, rfl, rfl, ?_, rfl, ?_, ?_⟩ <;> decide +kernel
abbrev s__law_tick : Stmt := topS 22
abbrev N__law_tick : List Str := ["_law_source_here", "_law_base_here", "_law_sort", "_law_size", "_law_at"]
theorem sc__law_tick : FnScope N__law_tick ["_law_source_here", "_law_base_here"] (defScope s__law_tick) := by
  refine ⟨rfl, rfl, rfl, ?_, rfl, ?_, ?_⟩ <;> decide +kernel
abbrev s__law_level : Stmt := topS 23
abbrev N__law_level : List Str := ["_law_base_here", "_law_now", "_law_due", "_law_found", "_law_at"]
theorem sc__law_level : FnScope N__law_level ["_law_base_here", "_law_now", "_law_due"] (defScope s__law_level) := by
  refine ⟨rfl, rfl, rfl, ?_, rfl, ?_, ?_⟩ <;> decide +kernel
abbrev s__law_pair : Stmt := topS 24
abbrev N__law_pair : List Str := ["_law_source_here", "_law_base_here", "_law_one", "_law_other"]
theorem sc__law_pair : FnScope N__law_pair ["_law_source_here", "_law_base_here"] (defScope s__law_pair) := by
  refine ⟨rfl, rfl, rfl, ?_, rfl, ?_, ?_⟩ <;> decide +kernel
abbrev s__law_range : Stmt := topS 25
abbrev N__law_range : List Str := ["_law_source_here", "_law_base_here", "_law_now", "_law_other", "_law_first", "_law_more"]
theorem sc__law_range : FnScope N__law_range ["_law_source_here", "_law_base_here"] (defScope s__law_range) := by
  refine ⟨rfl, rfl, rfl, ?_, rfl, ?_, ?_⟩ <;> decide +kernel
abbrev s__law_moves : Stmt := topS 26
abbrev N__law_moves : List Str := ["_law_base_here", "_law_now", "_law_due", "_law_found", "_law_at"]
theorem sc__law_moves : FnScope N__law_moves ["_law_base_here", "_law_now", "_law_due"] (defScope s__law_moves) := by
  refine ⟨rfl, rfl, rfl, ?_, rfl, ?_, ?_⟩ <;> decide +kernel
abbrev s__law_ends : Stmt := topS 27
abbrev N__law_ends : List Str := ["_law_base_here", "_law_first", "_law_last", "_law_found", "_law_size", "_law_tail", "_law_head", "_law_due"]
theorem sc__law_ends : FnScope N__law_ends ["_law_base_here", "_law_first", "_law_last"] (defScope s__law_ends) := by
  refine ⟨rfl, rfl, rfl, ?_, rfl, ?_, ?_⟩ <;> decide +kernel
abbrev s__law_best : Stmt := topS 28
abbrev N__law_best : List Str := ["_law_base_here", "_law_now", "_law_first", "_law_behind", "_law_rows", "_law_size", "_law_level_here", "_law_begin", "_law_end", "_law_some", "_law_due"]
theorem sc__law_best : FnScope N__law_best ["_law_base_here", "_law_now", "_law_first", "_law_behind"] (defScope s__law_best) := by
  refine ⟨rfl, rfl, rfl, ?_, rfl, ?_, ?_⟩ <;> decide +kernel
abbrev s_law : Stmt := topS 29
abbrev N_law : List Str := ["_law_script", "_law_k", "_law_source_here", "_law_base_here", "_law_now", "_law_first", "_law_behind", "_law_found", "_law_near", "_law_least", "_law_due", "_law_one"]
theorem sc_law : FnScope N_law ["_law_script"] (defScope s_law) := by
  refine ⟨rfl, rfl, rfl, ?_, rfl, ?_, ?_⟩ <;> decide +kernel
/-- what the top leaves of built-in names -/
structure Tx (K : PySem.W.Frag) (mg : Str → Option Value) : Prop where
  b_isinstance : mg "isinstance" = none
  b_int : mg "int" = none
  b_bool : mg "bool" = none
  b_min : mg "min" = none
  b_len : mg "len" = none
  b_range : mg "range" = none
  b_max : mg "max" = none
/-! ### the program: what an integer is, bases, ticks -/
def slotInt (σ : L2.St) (i : Nat) : Nat := match σ[i]? with
  | some (some (.int z)) => z.toNat
  | _ => 0
theorem cast_div (a b : Nat) : (a : Int) / (b : Int) = ((a / b : Nat) : Int) := rfl
theorem cast_mod (a b : Nat) : (a : Int) % (b : Int) = ((a % b : Nat) : Int) := rfl
theorem cast_mul (a b : Nat) : (a : Int) * (b : Int) = ((a * b : Nat) : Int) := (Int.natCast_mul a b).symm
theorem cast_add (a b : Nat) : (a : Int) + (b : Int) = ((a + b : Nat) : Int) := rfl
theorem natAbs_cast (a : Nat) : ((a : Nat) : Int).natAbs = a := rfl
theorem divp_s {i j : Int} (b : Nat) (hj : 0 < j) (hi : i.natAbs < 2 ^ b) (h : b ≤ 3000 := by decide) : CDivP i j := by
  refine divp_ok hj ?_
  have := PyProof.Rows.intBits_le hi
  omega
section
variable {P : Program} {w : World} {K : PySem.W.Frag} {mg : Str → Option Value} {base : Heap}
def spIsInt : Sp := fun vs H Q _ => ∃ n : Int, vs = [.int n] ∧ Q (.bl true) H
theorem ok_is_integer {f : Addr} {fd : FuncData} (F : Fun K "is_integer" "is_integer" s_is_integer f fd) (T : Tx K mg) : FnOk P w K mg base CX0 1 f fd ["given"] spIsInt := by
  refine F.ok sc_is_integer (fun vs H Q E h => ?_) (fun cdv A outer s H vs Q E hr h => ?_)
  · obtain ⟨n, rfl, _⟩ := h
    rfl
  · obtain ⟨n, rfl, q⟩ := h
    refine ⟨_, (pss_one (ps_ret (pe_and (pe_callB (isiK (K := K) rfl) (by rfl) T.b_isinstance (by decide +kernel) (pa_cons (pv 0) (pa_cons (pe_bltn (v := .ty "int") (u := .type "int") (by rfl) T.b_int (by decide +kernel) rfl) pa_nil))) (pe_one (pe_not (pe_callB (isiK (K := K) rfl) (by rfl) T.b_isinstance (by decide +kernel) (pa_cons (pv 0) (pa_cons (pe_bltn (v := .ty "bool") (u := .type "bool") (by rfl) T.b_bool (by decide +kernel) rfl) pa_nil)))))))), ?_⟩
    refine ⟨.int n, rfl, .int n, _, _, _, true, rfl, .ty "int", .base (.int n), kit_ty (by decide +kernel), true, rfl, iteT ?_⟩
    exact ⟨.int n, rfl, .int n, _, _, _, false, rfl, .ty "bool", .base (.int n), kit_ty (by decide +kernel), false, rfl, q⟩
end
/-! a tick, of an integer -/
section
variable {P : Program} {w : World} {K : PySem.W.Frag} {mg : Str → Option Value} {base : Heap}
def spIsTick : Sp := fun vs H Q _ => ∃ n l : Int, vs = [.int n, .int l] ∧ l ≤ n ∧ Q (.bl true) H
theorem ok_is_tick {f : Addr} {fd : FuncData} (F : FunD K "is_tick" "is_tick" (defArgs s_is_tick) (defBody s_is_tick) (defScope s_is_tick) [.int 0] [] f fd) (T : Tx K mg) (h1 : Has P w K mg base 1 "is_integer" ["given"] [] spIsInt) : FnOk P w K mg base CX0 2 f fd ["given", "least"] spIsTick := by
  obtain ⟨f_is_integer, fd_is_integer, ds_is_integer, G_is_integer, m_is_integer, k_is_integer, b_is_integer, v_is_integer⟩ := h1
  refine F.ok sc_is_tick (fun vs H Q E h => ?_) (fun cdv A outer s H vs Q E hr h => ?_)
  · obtain ⟨n, l, rfl, _⟩ := h
    rfl
  · obtain ⟨n, l, rfl, l1, q⟩ := h
    refine ⟨_, PSs.nox (pss_one (ps_ret (pe_and (pe_call G_is_integer hr (by rfl) m_is_integer k_is_integer b_is_integer v_is_integer pass0 (pa_cons (pv 0) pa_nil)) (pe_one (pe_cmpR op_ge (pv 0) (pv 1) (nomark _)))))), ?_⟩
    refine ⟨.int n, rfl, n, rfl, true, rfl, iteT ?_⟩
    refine ⟨.int n, rfl, .int l, rfl, n, l, rfl, rfl, ?_⟩
    have e : V.bl (decide (n ≥ l)) = V.bl true := dT l1
    show Q (V.bl (decide (n ≥ l))) H
    rw [e]
    exact q
end
/-! ### bases and ticks -/
section
variable {P : Program} {w : World} {K : PySem.W.Frag} {mg : Str → Option Value} {base : Heap}
def spIsBase : Sp := fun vs H Q _ => ∃ n : Int, vs = [.int n] ∧ 2 ≤ n ∧ n ≤ 64 ∧ Q (.bl true) H
theorem ok_is_base {f : Addr} {fd : FuncData} (F : Fun K "is_base" "is_base" s_is_base f fd) (h1 : Has P w K mg base 1 "is_integer" ["given"] [] spIsInt) : FnOk P w K mg base CX0 2 f fd ["given"] spIsBase := by
  obtain ⟨f_is_integer, fd_is_integer, ds_is_integer, G_is_integer, m_is_integer, k_is_integer, b_is_integer, v_is_integer⟩ := h1
  refine F.ok sc_is_base (fun vs H Q E h => ?_) (fun cdv A outer s H vs Q E hr h => ?_)
  · obtain ⟨n, rfl, _⟩ := h
    rfl
  · obtain ⟨n, rfl, l1, l2, q⟩ := h
    refine ⟨_, (pss_one (ps_ret (pe_and (pe_call G_is_integer hr (by rfl) m_is_integer k_is_integer b_is_integer v_is_integer pass0 (pa_cons (pv 0) pa_nil)) (pe_one (pe_chain op_le op_le pe_int (pv 0) pe_int))))), ?_⟩
    refine ⟨.int n, rfl, n, rfl, true, rfl, iteT ?_⟩
    refine ⟨.int n, rfl, 2, n, rfl, rfl, true, congrArg V.bl (decide_eq_true l1), iteT ?_⟩
    refine ⟨n, 64, rfl, rfl, ?_⟩
    have e : V.bl (decide (n ≤ 64)) = V.bl true := dT l2
    show Q (V.bl (decide (n ≤ 64))) H
    rw [e]
    exact q
def spCheckBase : Sp := fun vs H Q _ => ∃ n : Int, vs = [.int n] ∧ 2 ≤ n ∧ n ≤ 64 ∧ Q .non H
theorem ok_check_base {f : Addr} {fd : FuncData} (F : Fun K "check_base" "check_base" s_check_base f fd) (h1 : Has P w K mg base 2 "is_base" ["given"] [] spIsBase) : FnOk P w K mg base CX0 3 f fd ["base"] spCheckBase := by
  obtain ⟨f_is_base, fd_is_base, ds_is_base, G_is_base, m_is_base, k_is_base, b_is_base, v_is_base⟩ := h1
  refine F.ok sc_check_base (fun vs H Q E h => ?_) (fun cdv A outer s H vs Q E hr h => ?_)
  · obtain ⟨n, rfl, _⟩ := h
    rfl
  · obtain ⟨n, rfl, l1, l2, q⟩ := h
    refine ⟨_, (pss_one (ps_if (pt_not (pt_val (pe_call G_is_base hr (by rfl) m_is_base k_is_base b_is_base v_is_base pass0 (pa_cons (pv 0) pa_nil))))
        (pss_one ps_never)
        pss_nil)), ?_⟩
    exact ⟨.int n, rfl, n, rfl, l1, l2, true, rfl, iteF q⟩
def spCheckTick : Sp := fun vs H Q _ => ∃ n l : Int, vs = [.int n, .int l] ∧ l ≤ n ∧ Q .non H
theorem ok_check_tick {f : Addr} {fd : FuncData} (F : FunD K "check_tick" "check_tick" (defArgs s_check_tick) (defBody s_check_tick) (defScope s_check_tick) [.int 0] [] f fd) (h1 : Has P w K mg base 2 "is_tick" ["given", "least"] [] spIsTick) : FnOk P w K mg base CX0 3 f fd ["tick", "least"] spCheckTick := by
  obtain ⟨f_is_tick, fd_is_tick, ds_is_tick, G_is_tick, m_is_tick, k_is_tick, b_is_tick, v_is_tick⟩ := h1
  refine F.ok sc_check_tick (fun vs H Q E h => ?_) (fun cdv A outer s H vs Q E hr h => ?_)
  · obtain ⟨n, l, rfl, _⟩ := h
    rfl
  · obtain ⟨n, l, rfl, l1, q⟩ := h
    refine ⟨_, PSs.nox (pss_one (ps_if (pt_not (pt_val (pe_call G_is_tick hr (by rfl) m_is_tick k_is_tick b_is_tick v_is_tick pass0 (pa_cons (pv 0) (pa_cons (pv 1) pa_nil)))))
        (pss_one ps_never)
        pss_nil)), ?_⟩
    exact ⟨.int n, rfl, .int l, rfl, n, l, rfl, l1, true, rfl, iteF q⟩
end
/-! ### the program: level_and_size, path -/
section
variable {P : Program} {w : World} {K : PySem.W.Frag} {mg : Str → Option Value} {base : Heap}
/-! the level -/
def spLevel : Sp := fun vs H Q _ => ∃ b n d : Nat, vs = [.int b, .int n, .int d] ∧ 2 ≤ b ∧ b ≤ 64 ∧ n < d ∧ d < 2 ^ 250 ∧ ∀ k, IsLev b n d k → ∀ H' p, Same H H' → H p = none → H' p = some (.tup [.int (k : Nat), .int ((b ^ k : Nat) : Int)]) → Q (.ref p) H'
theorem ok_level_and_size {f : Addr} {fd : FuncData} (F : Fun K "level_and_size" "level_and_size" s_level_and_size f fd) : FnOk P w K mg base CX0 1 f fd ["base", "now", "due"] spLevel := by
  refine F.ok sc_level_and_size (fun vs H Q E h => ?_) (fun cdv A outer s H vs Q E hr h => ?_)
  · obtain ⟨b, n, d, rfl, _⟩ := h
    rfl
  · obtain ⟨b, n, d, rfl, hb, hb64, hnd, hd, q⟩ := h
    have cb : ∀ x : Nat, NDiv x b := fun x => ndiv 7 (by omega) (by omega)
    refine ⟨_, (pss_cons (ps_asg (pe_tup (pa_cons pe_int (pa_cons pe_int pa_nil))) (pg_tupK (K := K) (n := 2) rfl rfl (pgs_cons (pg_name (i := 3) sc_level_and_size.nd rfl (.inl rfl)) (pgs_cons (pg_name (i := 4) sc_level_and_size.nd rfl (.inl rfl)) pgs_nil))))
      (pss_cons (ps_par (i := 5) (j := 6) (by rfl) sc_level_and_size.nd rfl rfl (by decide) rfl rfl (pa_cons (pe_op op_divN (pv 1) (pv 0)) (pa_cons (pe_op op_divN (pv 2) (pv 0)) pa_nil)) (by rfl))
      (pss_cons (ps_while PassesOwn.never (pt_cmpR op_ne (pv 5) (pv 6) (nomark _))
        (pss_cons (ps_par (i := 5) (j := 6) (by rfl) sc_level_and_size.nd rfl rfl (by decide) rfl rfl (pa_cons (pe_op op_divN (pv 5) (pv 0)) (pa_cons (pe_op op_divN (pv 6) (pv 0)) pa_nil)) (by rfl))
        (pss_one (ps_par (i := 3) (j := 4) (by rfl) sc_level_and_size.nd rfl rfl (by decide) rfl rfl (pa_cons (pe_op op_addN (pv 3) pe_int) (pa_cons (pe_op op_mulN (pv 4) (pv 0)) pa_nil)) (by rfl)))))
      (pss_one (ps_ret (pe_tup (pa_cons (pv 3) (pa_cons (pv 4) pa_nil)))))))), ?_⟩
    refine ⟨by simp [sizeLine_eq], fun t hT => ⟨t, _, rfl, .inl (.inl upd_same), rfl, _, _, rfl, _, _, rfl, rfl, ?_⟩⟩
    refine ⟨_, rfl, _, rfl, _, _, rfl, rfl, cb _, _, rfl, _, rfl, _, _, rfl, rfl, cb _, _, _, rfl, ?_⟩
    refine while_by (fun σ H' => ∃ k : Nat, σ = [some (.int (b : Int)), some (.int (n : Int)), some (.int (d : Int)), some (.int (k : Int)), some (.int ((b ^ k : Nat) : Int)), some (.int ((n / b ^ (k + 1) : Nat) : Int)), some (.int ((d / b ^ (k + 1) : Nat) : Int))] ∧ Same H H' ∧ ∀ j, j < k → n / b ^ (j + 1) ≠ d / b ^ (j + 1))
      (fun σ _ => slotInt σ 6) ⟨0, ?_, same_upd hT, fun j hj => absurd hj (Nat.not_lt_zero j)⟩ ?_ ?_
    · rw [Nat.zero_add, Nat.pow_one]
      rfl
    · rintro σ H' ⟨k, rfl, sm, hk⟩
      by_cases hne : n / b ^ (k + 1) = d / b ^ (k + 1)
      · refine ⟨_, rfl, _, rfl, rfl, false, ?_, iteF ?_⟩
        · rw [hne, decide_eq_true rfl]
          rfl
        · refine ⟨_, rfl, _, rfl, by simp [sizeLine_eq], fun p hp => ?_⟩
          exact q k ⟨hne, hk⟩ _ p (sm.trans (same_upd hp)) (sm.free hp) upd_same
      · have h2 : n / b ^ (k + 1) ≤ d / b ^ (k + 1) := Nat.div_le_div_right (Nat.le_of_lt hnd)
        have hpos : 0 < d / b ^ (k + 1) := pos_of h2 hne
        refine ⟨_, rfl, _, rfl, rfl, true, ?_, iteT ?_⟩
        · rw [int_ne hne]
          rfl
        · refine ⟨_, rfl, _, rfl, _, _, rfl, rfl, cb _, _, rfl, _, rfl, _, _, rfl, rfl, cb _, _, _, rfl, ?_⟩
          refine ⟨_, rfl, k, 1, rfl, rfl, trivial, _, rfl, _, rfl, _, _, rfl, rfl, nmul_r (by omega), _, _, rfl, ?_⟩
          have hlt : d / b ^ (k + 1) / b < d / b ^ (k + 1) := Nat.div_lt_self hpos (by omega)
          refine ⟨⟨k + 1, ?_, sm, fun j hj => ?_⟩, ?_⟩
          · rw [div_succ n b (k + 1), div_succ d b (k + 1), Nat.pow_succ b k]
            rfl
          · by_cases e : j = k
            · rw [e]
              exact hne
            · exact hk j (by omega)
          · show (((d / b ^ (k + 1) / b : Nat) : Int)).toNat < (((d / b ^ (k + 1) : Nat) : Int)).toNat
            rw [Int.toNat_natCast, Int.toNat_natCast]
            exact hlt
    · rintro σ H' Q1 Q2 h ⟨x, hx, y, hy, hs, k, e, z⟩
      exact ⟨x, hx, y, hy, hs, k, e, h _ _ z⟩
/-! the stations -/
def rowV (r : Row3) : List V := [.int (r.1 : Nat), .int (r.2.1 : Nat), .int (r.2.2 : Nat)]
/-- at the places ts stand the rows rs, each a tuple of three -/
def RowsAt (H : Hp) : List Addr → List Row3 → Prop
  | [], [] => True
  | t :: ts, r :: rs => H t = some (.tup (rowV r)) ∧ RowsAt H ts rs
  | _, _ => False
theorem RowsAt.same {H H' : Hp} (s : Same H H') : ∀ {ts : List Addr} {rs : List Row3}, RowsAt H ts rs → RowsAt H' ts rs
  | [], [], h => h
  | _ :: _, _ :: _, h => ⟨s _ _ h.1, h.2.same s⟩
  | [], _ :: _, h => h
  | _ :: _, [], h => h
theorem RowsAt.app {H : Hp} {t : Addr} {r : Row3} : ∀ {ts : List Addr} {rs : List Row3}, RowsAt H ts rs → H t = some (.tup (rowV r)) → RowsAt H (ts ++ [t]) (rs ++ [r])
  | [], [], _, h => ⟨h, trivial⟩
  | _ :: _, _ :: _, h, h2 => ⟨h.1, h.2.app h2⟩
  | [], _ :: _, h, _ => h.elim
  | _ :: _, [], h, _ => h.elim
theorem RowsAt.len {H : Hp} : ∀ {ts : List Addr} {rs : List Row3}, RowsAt H ts rs → ts.length = rs.length
  | [], [], _ => rfl
  | _ :: _, _ :: _, h => congrArg Nat.succ h.2.len
  | [], _ :: _, h => h.elim
  | _ :: _, [], h => h.elim
theorem RowsAt.upd {H : Hp} {p : Addr} {xs : List V} {o : HO} (hp : H p = some (.lst xs)) : ∀ {ts : List Addr} {rs : List Row3}, RowsAt H ts rs → RowsAt (upd H p o) ts rs
  | [], [], h => h
  | t :: _, _ :: _, h => ⟨by rw [upd_ne (ne_of h.1 hp (by intro z; cases z))]; exact h.1, h.2.upd hp⟩
  | [], _ :: _, h => h
  | _ :: _, [], h => h
theorem RowsAt.get {H : Hp} : ∀ {ts : List Addr} {rs : List Row3} {i : Nat} {t : Addr}, RowsAt H ts rs → ts[i]? = some t → ∃ r, rs[i]? = some r ∧ H t = some (.tup (rowV r))
  | t :: _, r :: _, 0, _, h, e => ⟨r, rfl, by cases Option.some.inj e; exact h.1⟩
  | _ :: _, _ :: _, i + 1, _, h, e => h.2.get (i := i) e
  | [], _, _, _, _, e => by simp at e
  | _ :: _, [], _, _, h, _ => h.elim
def spPath : Sp := fun vs H Q _ => ∃ b n d : Nat, vs = [.int b, .int n, .int d] ∧ 2 ≤ b ∧ b ≤ 64 ∧ n < d ∧ d < 2 ^ 250 ∧ ∀ k, IsLev b n d k → ∀ H' p ts, Same H H' → H p = none → H' p = some (.lst (ts.map V.ref)) → RowsAt H' ts (rowsOf b n d k) → Q (.ref p) H'
theorem ok_path {f : Addr} {fd : FuncData} (F : Fun K "path" "path" s_path f fd) (h1 : Has P w K mg base 1 "level_and_size" ["base", "now", "due"] [] spLevel) : FnOk P w K mg base CX0 2 f fd ["base", "now", "due"] spPath := by
  obtain ⟨f_level_and_size, fd_level_and_size, ds_level_and_size, G_level_and_size, m_level_and_size, k_level_and_size, b_level_and_size, v_level_and_size⟩ := h1
  refine F.ok sc_path (fun vs H Q E h => ?_) (fun cdv A outer s H vs Q E hr h => ?_)
  · obtain ⟨b, n, d, rfl, _⟩ := h
    rfl
  · obtain ⟨b, n, d, rfl, hb, hb64, hnd, hd, q⟩ := h
    have cb : ∀ x : Nat, NDiv x b := fun x => ndiv 7 (by omega) (by omega)
    have hb0 : 0 < b := by omega
    refine ⟨_, (pss_cons (ps_asg (pe_call G_level_and_size hr (by rfl) m_level_and_size k_level_and_size b_level_and_size v_level_and_size pass0 (pa_cons (pv 0) (pa_cons (pv 1) (pa_cons (pv 2) pa_nil)))) (pg_tupK (K := K) (n := 2) rfl rfl (pgs_cons (pg_name (i := 3) sc_path.nd rfl (.inl rfl)) (pgs_cons (pg_name (i := 4) sc_path.nd rfl (.inl rfl)) pgs_nil))))
      (pss_cons (ps_set (i := 5) sc_path.nd rfl (.inl rfl) (pe_lst (pa_cons (pe_tup (pa_cons (pv 3) (pa_cons (pe_op op_remN (pe_op op_divN (pv 2) (pv 4)) (pv 0)) (pa_cons (pv 1) pa_nil)))) pa_nil)))
      (pss_cons (ps_while PassesOwn.never (pt_cmpR op_gt (pv 3) pe_int (nomark _))
        (pss_cons (ps_set (i := 6) sc_path.nd rfl (.inl rfl) (pe_op op_mulN (pe_op op_divN (pv 2) (pv 4)) (pv 4)))
        (pss_cons (ps_par (i := 3) (j := 4) (by rfl) sc_path.nd rfl rfl (by decide) rfl rfl (pa_cons (pe_op op_subN (pv 3) pe_int) (pa_cons (pe_op op_divN (pv 4) (pv 0)) pa_nil)) (by rfl))
        (pss_cons (ps_set (i := 7) sc_path.nd rfl (.inl rfl) (pe_op op_remN (pe_op op_divN (pv 2) (pv 4)) (pv 0)))
        (pss_one (ps_if (pt_cmpR op_ne (pv 7) pe_int (nomark _))
          (pss_one (ps_expr (pe_bm PySem.F.plainAttrs_list PySem.F.slot_list_append PySem.F.type_list_append mt_append (pv 5) (pa_cons (pe_tup (pa_cons (pv 3) (pa_cons (pv 7) (pa_cons (pv 6) pa_nil)))) pa_nil))))
          pss_nil))))))
      (pss_one (ps_ret (pv 5)))))), ?_⟩
    refine ⟨_, rfl, _, rfl, _, rfl, b, n, d, rfl, hb, hb64, hnd, hd, fun k hk H0 t0 s0 ht0 eT0 => ?_⟩
    have hkd : ∀ j, j ≤ k → b ^ j ≤ d := fun j hj => Nat.le_trans (Nat.pow_le_pow_right (by omega) hj) (hk.size hb hnd)
    have hk250 : k < 250 := lev_small hk hb hnd hd
    have cs : ∀ j, j ≤ k → ∀ x : Nat, NDiv x (b ^ j) := fun j hj x => ndiv 250 (pow_pos' hb j) (Nat.lt_of_le_of_lt (hkd j hj) hd)
    -- level, size = ..
    refine ⟨t0, _, rfl, .inl (.inl eT0), rfl, _, _, rfl, _, _, rfl, rfl, ?_⟩
    -- rows = [(level, due // size % base, now)]
    refine ⟨_, rfl, _, rfl, _, rfl, _, _, rfl, rfl, cs k (Nat.le_refl k) _, _, rfl, _, _, rfl, rfl, hb0, _, rfl, by simp [sizeLine_eq], fun t1 ht1 => ?_⟩
    have s1 := s0.trans (same_upd (o := .tup (rowV (k, d / b ^ k % b, n))) ht1)
    refine ⟨by simp [sizeLine_eq], fun p hp => ?_⟩
    have s2 := s1.trans (same_upd (o := .lst [.ref t1]) hp)
    have np1 : t1 ≠ p := fun e => by
      rw [← e, upd_same] at hp
      cases hp
    have hpH : H p = none := s1.free hp
    refine while_by (fun σ H' => ∃ (j : Nat) (ts : List Addr) (done : List Row3) (y6 y7 : Option V), σ = [some (.int (b : Int)), some (.int (n : Int)), some (.int (d : Int)), some (.int (j : Int)), some (.int ((b ^ j : Nat) : Int)), some (.ref p), y6, y7] ∧ j ≤ k ∧ ts.length + j ≤ k + 1 ∧ Same H H' ∧ H' p = some (.lst (ts.map V.ref)) ∧ RowsAt H' ts ((k, d / b ^ k % b, n) :: done) ∧ tailOf b d k = done ++ tailOf b d j)
      (fun σ _ => slotInt σ 3) ⟨k, [t1], [], none, none, rfl, Nat.le_refl k, by simp; omega, s2, upd_same, ⟨?_, trivial⟩, rfl⟩ ?_ ?_
    · rw [upd_ne np1, upd_same]
      rfl
    · rintro σ H' ⟨j, ts, done, y6, y7, rfl, hjk, hlen, sm, eL, R, et⟩
      cases j with
      | zero =>
        refine ⟨_, rfl, ((0 : Nat) : Int), 0, rfl, rfl, false, rfl, iteF ?_⟩
        refine ⟨_, rfl, q k hk H' p ts sm hpH eL ?_⟩
        have e : done = tailOf b d k := by
          rw [et]
          exact (List.append_nil done).symm
        rw [e] at R
        exact R
      | succ j =>
        have hj0 : (0 : Int) < ((j + 1 : Nat) : Int) := by omega
        refine ⟨_, rfl, _, _, rfl, rfl, true, congrArg V.bl (decide_eq_true hj0), iteT ?_⟩
        -- tick = due // size * size
        refine ⟨_, rfl, _, rfl, _, _, rfl, rfl, cs (j + 1) hjk _, _, rfl, _, _, rfl, rfl, nmul_w 250 250 (Nat.lt_of_le_of_lt (Nat.div_le_self d _) hd) (Nat.lt_of_le_of_lt (hkd (j + 1) hjk) hd), ?_⟩
        -- level, size = level - 1, size // base
        refine ⟨_, rfl, j + 1, 1, rfl, rfl, Nat.le_add_left 1 j, _, rfl, _, rfl, b ^ (j + 1), b, rfl, rfl, cb _, .int (j : Nat), .int ((b ^ j : Nat) : Int), ?_, ?_⟩
        · show [V.int ((j + 1 - 1 : Nat) : Int), V.int ((b ^ (j + 1) / b : Nat) : Int)] = _
          rw [Nat.pow_succ, Nat.mul_div_cancel _ hb0]
          rfl
        -- digit = due // size % base
        refine ⟨_, rfl, _, rfl, d, b ^ j, rfl, rfl, cs j (by omega) _, _, rfl, _, _, rfl, rfl, hb0, ?_⟩
        have lt : slotInt [some (.int (b : Int)), some (.int (n : Int)), some (.int (d : Int)), some (.int (j : Int)), some (.int ((b ^ j : Nat) : Int)), some (.ref p), some (.int ((d / b ^ (j + 1) * b ^ (j + 1) : Nat) : Int)), some (.int ((d / b ^ j % b : Nat) : Int))] 3 < ((j + 1 : Nat) : Int).toNat := by
          show ((j : Int)).toNat < _
          omega
        by_cases h0 : d / b ^ j % b = 0
        · refine ⟨_, rfl, rfl, false, nF (vE h0), iteF ?_⟩
          · refine ⟨⟨j, ts, done, _, _, rfl, by omega, by omega, sm, eL, R, ?_⟩, lt⟩
            rw [et]
            show done ++ tailOf b d (j + 1) = done ++ tailOf b d j
            have : tailOf b d (j + 1) = tailOf b d j := if_neg (fun z => z h0)
            rw [this]
        · refine ⟨_, rfl, rfl, true, nT (vN (b := 0) h0), iteT ?_⟩
          · -- rows.append((level, digit, tick))
            refine ⟨_, rfl, .inl ⟨rfl, _, .inl (.inl eL)⟩, _, rfl, _, rfl, _, rfl, by simp [sizeLine_eq], fun t2 ht2 => ?_⟩
            have s3 := same_upd (o := .tup (rowV (j, d / b ^ j % b, d / b ^ (j + 1) * b ^ (j + 1)))) ht2
            have npt : t2 ≠ p := fun e => by
              rw [e, eL] at ht2
              cases ht2
            have eL' := s3 _ _ eL
            refine ⟨p, _, _, rfl, rfl, eL', ?_, ?_⟩
            · rw [List.length_map]
              exact sizeLine_ge (by omega)
            · refine ⟨⟨j, ts ++ [t2], done ++ [(j, d / b ^ j % b, d / b ^ (j + 1) * b ^ (j + 1))], _, _, rfl, by omega, ?_, fun c o e => ?_, ?_, ?_, ?_⟩, lt⟩
              · rw [List.length_append, List.length_singleton]
                omega
              · rw [upd_ne (ne_of_none e hpH)]
                exact s3 _ _ (sm _ _ e)
              · rw [upd_same, List.map_append]
                rfl
              · refine RowsAt.upd eL' ?_
                exact RowsAt.app (r := (j, d / b ^ j % b, d / b ^ (j + 1) * b ^ (j + 1))) (rs := (k, d / b ^ k % b, n) :: done) (R.same s3) upd_same
              · rw [et, List.append_assoc]
                show done ++ tailOf b d (j + 1) = done ++ ((j, d / b ^ j % b, d / b ^ (j + 1) * b ^ (j + 1)) :: tailOf b d j)
                have : tailOf b d (j + 1) = (j, d / b ^ j % b, d / b ^ (j + 1) * b ^ (j + 1)) :: tailOf b d j := if_pos h0
                rw [this]
    · rintro σ H' Q1 Q2 h ⟨x, hx, i, j, e1, e2, k, e, z⟩
      exact ⟨x, hx, i, j, e1, e2, k, e, h _ _ z⟩
end
theorem RowsAt.item {H : Hp} {ts : List Addr} {rs : List Row3} (R : RowsAt H ts rs) {i : Nat} {x : V} (hx : (ts.map V.ref)[i]? = some x) : ∃ ti r, x = V.ref ti ∧ ts[i]? = some ti ∧ rs[i]? = some r ∧ H ti = some (.tup (rowV r)) := by
  rw [List.getElem?_map] at hx
  cases e : ts[i]? with
  | none =>
    rw [e] at hx
    cases hx
  | some ti =>
    rw [e] at hx
    obtain ⟨r, hr, er⟩ := R.get e
    exact ⟨ti, r, (Option.some.inj hx).symm, rfl, hr, er⟩
section
variable {P : Program} {w : World} {K : PySem.W.Frag} {mg : Str → Option Value} {base : Heap}
def spDues : Sp := fun vs H Q _ => ∃ b f h : Nat, vs = [.int (b : Nat), .int (f : Nat), .int (h : Nat)] ∧ 2 ≤ b ∧ b ≤ 64 ∧ f < h ∧ h ≤ 2 ^ 200 ∧
  ∀ k, (∀ j, j < k → dueK b f j < h) → h ≤ dueK b f k → ∀ H' p, Same H H' → H p = none → H' p = some (.lst ((duesL b f k).map fun x => V.int (x : Nat))) → Q (.ref p) H'
theorem ok_dues_to_try {f : Addr} {fd : FuncData} (F : Fun K "dues_to_try" "dues_to_try" s_dues_to_try f fd) : FnOk P w K mg base CX0 1 f fd ["base", "first", "behind"] spDues := by
  refine F.ok sc_dues_to_try (fun vs H Q E h => ?_) (fun cdv A outer s H vs Q E hr h => ?_)
  · obtain ⟨b, f, h, rfl, _⟩ := h
    rfl
  · obtain ⟨b, f, h, rfl, hb, hb64, hfh, hh, q⟩ := h
    refine ⟨_, (pss_cons (ps_set (i := 3) sc_dues_to_try.nd rfl (.inl rfl) (pe_lst (pa_cons (pv 1) pa_nil)))
      (pss_cons (ps_asg (pe_tup (pa_cons pe_int (pa_cons pe_int pa_nil))) (pg_tupK (K := K) (n := 2) rfl rfl (pgs_cons (pg_name (i := 4) sc_dues_to_try.nd rfl (.inl rfl)) (pgs_cons (pg_name (i := 5) sc_dues_to_try.nd rfl (.inl rfl)) pgs_nil))))
      (pss_cons (ps_set (i := 6) sc_dues_to_try.nd rfl (.inl rfl) (pe_op op_addN (pv 1) pe_int))
      (pss_cons (ps_while PassesOwn.never (pt_cmpR op_lt (pv 6) (pv 2) (nomark _))
        (pss_cons (ps_expr (pe_bm PySem.F.plainAttrs_list PySem.F.slot_list_append PySem.F.type_list_append mt_append (pv 3) (pa_cons (pv 6) pa_nil)))
        (pss_cons (ps_par (i := 4) (j := 5) (by rfl) sc_dues_to_try.nd rfl rfl (by decide) rfl rfl (pa_cons (pe_op op_mulN (pv 4) (pv 0)) (pa_cons (pe_op op_addN (pv 5) (pv 4)) pa_nil)) (by rfl))
        (pss_one (ps_set (i := 6) sc_dues_to_try.nd rfl (.inl rfl) (pe_op op_addN (pe_op op_mulN (pe_op op_addN (pe_op op_divN (pv 1) (pv 4)) pe_int) (pv 4)) (pv 5)))))))
      (pss_one (ps_ret (pv 3))))))), ?_⟩
    refine ⟨_, rfl, by simp [sizeLine_eq], fun p hp0 => ?_⟩
    have s1 := same_upd (o := .lst [.int (f : Nat)]) hp0
    have e1 : (upd H p (.lst [.int (f : Nat)])) p = some (.lst ((duesL b f 0).map fun x => V.int (x : Nat))) := upd_same
    generalize upd H p (.lst [.int (f : Nat)]) = H1 at s1 e1 ⊢
    refine ⟨by simp [sizeLine_eq], fun t hT => ⟨t, _, rfl, .inl (.inl upd_same), rfl, _, _, rfl, _, _, rfl, rfl, ?_⟩⟩
    have s2 := same_upd (o := .tup [.int 1, .int 0]) hT
    refine ⟨_, rfl, f, 1, rfl, rfl, trivial, ?_⟩
    refine while_by (fun σ H' => ∃ k : Nat, σ = [some (.int (b : Nat)), some (.int (f : Nat)), some (.int (h : Nat)), some (.ref p), some (.int ((b ^ k : Nat) : Int)), some (.int (onesN b k : Nat)), some (.int (dueK b f k : Nat))] ∧ Same H H' ∧ H' p = some (.lst ((duesL b f k).map fun x => V.int (x : Nat))) ∧ ∀ j, j < k → dueK b f j < h)
      (fun σ _ => slotInt σ 2 - slotInt σ 4) ⟨0, ?_, s1.trans s2, s2 _ _ e1, fun j hj => absurd hj (Nat.not_lt_zero j)⟩ ?_ ?_
    · rw [dueK_zero]
      rfl
    · rintro σ H' ⟨k, rfl, sm, er, hk⟩
      refine ⟨_, rfl, _, rfl, _, _, rfl, rfl, _, rfl, ite2 (fun e => ?_) (fun e => ?_)⟩
      · have hlt : dueK b f k < h := by
          have z := of_decide_eq_true e
          omega
        have hp := pow_pos' hb k
        have hge := dueK_ge b f k
        have hs : b ^ k < 2 ^ 200 := by omega
        have hk2 : k < 200 := (Nat.pow_lt_pow_iff_right (by decide : 1 < 2)).mp (Nat.lt_of_le_of_lt (pow_two_le hb k) hs)
        have hs2 : b ^ (k + 1) < 2 ^ 206 := by
          rw [Nat.pow_succ, Nat.mul_comm]
          exact Nat.lt_of_le_of_lt (Nat.mul_le_mul hb64 (Nat.le_refl _)) (by omega)
        have hp2 := pow_pos' hb (k + 1)
        have hq : f / b ^ (k + 1) ≤ f := Nat.div_le_self _ _
        have hm : NMul (f / b ^ (k + 1) + 1) (b ^ (k + 1)) := nmul_w 210 210 (by omega) (by omega)
        have epow : b ^ (k + 1) = b ^ k * b := Nat.pow_succ b k
        have edue : dueK b f (k + 1) = (f / (b ^ k * b) + 1) * (b ^ k * b) + (onesN b k + b ^ k) := by
          show (f / b ^ (k + 1) + 1) * b ^ (k + 1) + (onesN b k + b ^ k) = _
          rw [epow]
        have hlt2 : b ^ k < b ^ k * b := by
          rw [← epow]
          exact Nat.pow_lt_pow_right (by omega) (Nat.lt_succ_self k)
        rw [epow] at hs2 hp2 hq hm
        have npp : ∀ c o, H c = some o → c ≠ p := fun c o e => ne_of_none e hp0
        refine ⟨_, rfl, .inl ⟨rfl, _, .inl (.inl er)⟩, _, rfl, p, _, _, rfl, rfl, er, ?_, ?_⟩
        · rw [List.length_map, duesL_len]
          exact sizeLine_ge (by omega)
        refine ⟨_, rfl, _, rfl, _, _, rfl, rfl, nmul_r (by omega), _, rfl, _, rfl, _, _, rfl, rfl, trivial, _, _, rfl, ?_⟩
        refine ⟨_, rfl, _, rfl, f, b ^ k * b, rfl, rfl, ndiv 210 hp2 (by omega), _, 1, rfl, rfl, trivial, _, rfl, f / (b ^ k * b) + 1, b ^ k * b, rfl, rfl, hm, _, rfl, _, onesN b k + b ^ k, rfl, rfl, trivial, ⟨k + 1, ?_, fun c o e => ?_, ?_, fun j hj => ?_⟩, ?_⟩
        · rw [edue, epow]
          rfl
        · rw [upd_ne (npp c o e)]
          exact sm c o e
        · rw [upd_same, duesL_succ, List.map_append]
          rfl
        · by_cases e : j = k
          · rw [e]
            exact hlt
          · exact hk j (by omega)
        · show (h : Int).toNat - ((b ^ k * b : Nat) : Int).toNat < (h : Int).toNat - ((b ^ k : Nat) : Int).toNat
          rw [Int.toNat_natCast, Int.toNat_natCast, Int.toNat_natCast]
          omega
      · have hle : h ≤ dueK b f k := by
          have z := of_decide_eq_false (eq_false_of_ne_true e)
          omega
        exact ⟨_, rfl, q k hk hle H' p sm hp0 er⟩
    · rintro σ H' Q1 Q2 h ⟨x, hx, y, hy, i, j, e1, e2, k, e, z⟩
      exact ⟨x, hx, y, hy, i, j, e1, e2, k, e, h _ _ z⟩
end
section
variable {P : Program} {w : World} {K : PySem.W.Frag} {mg : Str → Option Value} {base : Heap}
def RowsL (b n : Nat) (l : List Nat) (rs : List (Nat × Nat)) : Prop := rs.map (·.2) = l ∧ ∀ r ∈ rs, Cst b n r.2 r.1
theorem RowsL.snoc {b n d c : Nat} {l : List Nat} {rs : List (Nat × Nat)} (h : RowsL b n l rs) (hc : Cst b n d c) : RowsL b n (l ++ [d]) (rs ++ [(c, d)]) := by
  refine ⟨by rw [List.map_append, h.1]; rfl, fun r hr => ?_⟩
  rcases List.mem_append.mp hr with hr | hr
  · exact h.2 r hr
  · obtain rfl := List.mem_singleton.mp hr
    exact hc
theorem RowsL.nil (b n : Nat) : RowsL b n [] [] := ⟨rfl, fun r hr => absurd hr List.not_mem_nil⟩
theorem RowsL.len {b n : Nat} {l : List Nat} {rs : List (Nat × Nat)} (h : RowsL b n l rs) : rs.length = l.length := by rw [← h.1, List.length_map]
theorem PairsAt.len {H : Hp} : ∀ {ts : List Addr} {ps : List (Int × Int)}, PairsAt H ts ps → ts.length = ps.length
  | [], [], _ => rfl
  | _ :: _, _ :: _, h => congrArg (· + 1) h.2.len
  | [], _ :: _, h => h.elim
  | _ :: _, [], h => h.elim
/-- what min tells of such rows -/
theorem min_rows {b n f h e : Nat} {rs : List (Nat × Nat)} (R : RowsB b n f h e rs) (he : h ≤ e) {i : Nat} {p : Int × Int} (hi : (rs.map negP)[i]? = some p) (hm : ∀ y ∈ rs.map negP, PLe p y) : ∃ M D : Nat, p = (-(M : Int), (D : Int)) ∧ Best b n f h M D := by
  rw [List.getElem?_map] at hi
  obtain ⟨r, hr, rfl⟩ := Option.map_eq_some_iff.mp hi
  exact ⟨r.1, r.2, rfl, R.best he (List.mem_of_getElem? hr) fun y hy => hm _ (List.mem_map_of_mem hy)⟩
def spCostliest : Sp := fun vs H Q _ => ∃ b n f h : Nat, vs = [.int (b : Nat), .int (n : Nat), .int (f : Nat), .int (h : Nat)] ∧ 2 ≤ b ∧ b ≤ 64 ∧ n < f ∧ f < h ∧ h ≤ 2 ^ 200 ∧
  ∀ (M D : Nat) H' p, Best b n f h M D → Same H H' → H p = none → H' p = some (.tup [.int (M : Nat), .int (D : Nat)]) → Q (.ref p) H'
theorem ok_costliest {f : Addr} {fd : FuncData} (F : Fun K "costliest" "costliest" s_costliest f fd) (T : Tx K mg) (h1 : Has P w K mg base 3 "check_base" ["base"] [] spCheckBase)
    (h2 : Has P w K mg base 3 "check_tick" ["tick", "least"] [.int 0] spCheckTick) (h3 : Has P w K mg base 3 "check_tick" ["tick", "least"] [] spCheckTick) (h4 : Has P w K mg base 1 "dues_to_try" ["base", "first", "behind"] [] spDues)
    (h5 : Has P w K mg base 2 "path" ["base", "now", "due"] [] spPath) : FnOk P w K mg base CX0 4 f fd ["base", "now", "first", "behind"] spCostliest := by
  obtain ⟨f_check_base, fd_check_base, ds_check_base, G_check_base, m_check_base, k_check_base, b_check_base, v_check_base⟩ := h1
  obtain ⟨f_check_tick1, fd_check_tick1, ds_check_tick1, G_check_tick1, m_check_tick1, k_check_tick1, b_check_tick1, v_check_tick1⟩ := h2
  obtain ⟨f_check_tick, fd_check_tick, ds_check_tick, G_check_tick, m_check_tick, k_check_tick, b_check_tick, v_check_tick⟩ := h3
  obtain ⟨f_dues_to_try, fd_dues_to_try, ds_dues_to_try, G_dues_to_try, m_dues_to_try, k_dues_to_try, b_dues_to_try, v_dues_to_try⟩ := h4
  obtain ⟨f_path, fd_path, ds_path, G_path, m_path, k_path, b_path, v_path⟩ := h5
  refine F.ok sc_costliest (fun vs H Q E h => ?_) (fun cdv A outer s H vs Q E hr h => ?_)
  · obtain ⟨b, n, f, h, rfl, _⟩ := h
    rfl
  · obtain ⟨b, n, f, h, rfl, hb, hb64, hnf, hfh, hh, q⟩ := h
    refine ⟨_, (pss_cons (ps_expr (pe_call G_check_base hr (by rfl) m_check_base k_check_base b_check_base v_check_base pass0 (pa_cons (pv 0) pa_nil)))
      (pss_cons (ps_expr (pe_call G_check_tick1 hr (by rfl) m_check_tick1 k_check_tick1 b_check_tick1 v_check_tick1 pass0 (pa_cons (pv 1) pa_nil)))
      (pss_cons (ps_expr (pe_call G_check_tick hr (by rfl) m_check_tick k_check_tick b_check_tick v_check_tick pass0 (pa_cons (pv 2) (pa_cons (pe_op op_addN (pv 1) pe_int) pa_nil))))
      (pss_cons (ps_expr (pe_call G_check_tick hr (by rfl) m_check_tick k_check_tick b_check_tick v_check_tick pass0 (pa_cons (pv 3) (pa_cons (pe_op op_addN (pv 2) pe_int) pa_nil))))
      (pss_cons (ps_setLc (i := 5) (own := [("due", 4)]) (g := gName 4) (tt := tYes) rfl sc_costliest.nd rfl rfl (sw_true rfl rfl rfl (by decide +kernel)) (pi_list (pe_call G_dues_to_try (hr.mono (by decide)) (by rfl) m_dues_to_try k_dues_to_try b_dues_to_try v_dues_to_try pass0 (pa_cons (pv 0) (pa_cons (pv 2) (pa_cons (pv 3) pa_nil))))) (blkOk_by (own := [("due", 4)]) (N := N_costliest) (sc := defScope s_costliest) (by decide +kernel)) (fun _ _ _ _ _ => (pg_name (i := 4) sc_costliest.nd rfl (.inl rfl))) (fun _ _ _ _ _ => pts_nil) (fun _ _ _ _ _ => (pe_tup (pa_cons (pe_un un_neg (pe_callB (lenK (K := K) rfl) (by rfl) T.b_len PySem.boot_len (pa_cons (pe_call G_path (hr.mono (by decide)) (by rfl) m_path k_path b_path v_path pass0 (pa_cons (pv 0) (pa_cons (pv 1) (pa_cons (pv 4) pa_nil)))) pa_nil))) (pa_cons (pv 4) pa_nil)))))
      (pss_cons (ps_asg (pe_callB (minP2 (K := K) rfl rfl hr.units) (by rfl) T.b_min (by decide +kernel) (pa_cons (pv 5) pa_nil)) (pg_tupK (K := K) (n := 2) rfl rfl (pgs_cons (pg_name (i := 6) sc_costliest.nd rfl (.inl rfl)) (pgs_cons (pg_name (i := 4) sc_costliest.nd rfl (.inl rfl)) pgs_nil))))
      (pss_one (ps_ret (pe_tup (pa_cons (pe_un un_neg (pv 6)) (pa_cons (pv 4) pa_nil))))))))))), ?_⟩
    refine ⟨_, rfl, _, rfl, by omega, by omega, ?_⟩
    refine ⟨_, rfl, _, _, rfl, by omega, ?_⟩
    refine ⟨_, rfl, _, rfl, n, 1, rfl, rfl, trivial, _, _, rfl, by show ((n + 1 : Nat) : Int) ≤ _; omega, ?_⟩
    refine ⟨_, rfl, _, rfl, f, 1, rfl, rfl, trivial, _, _, rfl, by show ((f + 1 : Nat) : Int) ≤ _; omega, ?_⟩
    refine ⟨_, rfl, _, rfl, _, rfl, b, f, h, rfl, hb, hb64, hfh, hh, fun k hk hle H1 a s1 ha0 ha => ?_⟩
    have hk2 : k ≤ 200 := by
      by_cases e : k = 0
      · omega
      · have z1 := hk (k - 1) (by omega)
        have z2 := dueK_ge b f (k - 1)
        have z3 := pow_two_le hb (k - 1)
        have z4 : k - 1 < 200 := (Nat.pow_lt_pow_iff_right (by decide : 1 < 2)).mp (Nat.lt_of_le_of_lt z3 (by omega))
        omega
    have hmem : ∀ d ∈ duesL b f k, n < d ∧ d < 2 ^ 250 := fun d hd => by
      have z := duesL_mem hb hfh hk hd
      omega
    have hlen := duesL_len b f k
    have hrows : ∀ rs, RowsL b n (duesL b f k) rs → RowsB b n f h h rs := fun rs R => rows_dues hb hnf hfh hk hle R.1 R.2
    generalize duesL b f k = l at ha hmem hlen hrows
    refine ⟨a, rfl, ⟨_, SqL.of ha⟩, fun D hD => lc_list (K := K) (a := a) (xs := l.map fun x => V.int (x : Nat)) (fun i H' => Same H1 H' ∧ ∃ (ts : List Addr) (rs : List (Nat × Nat)), H' D = some (.lst (ts.map V.ref)) ∧ RowsL b n (l.take i) rs ∧ PairsAt H' ts (rs.map negP))
      ⟨same_upd hD, [], [], upd_same, RowsL.nil b n, trivial⟩ (fun i H' _ ⟨sm, _⟩ => SqL.of (sm _ _ ha)) ?_ ?_⟩
    · rintro i x H' hx ⟨sm, ts, rs, eD, hrs, PA⟩
      have hi : i < l.length := by
        have z := (List.getElem?_eq_some_iff.mp hx).1
        rw [List.length_map] at z
        exact z
      rw [List.getElem?_map, List.getElem?_eq_getElem hi] at hx
      obtain rfl := (Option.some.inj hx).symm
      have hd := hmem _ (List.getElem_mem hi)
      refine ⟨rfl, yesT (iteT ?_)⟩
      refine ⟨_, rfl, _, rfl, _, rfl, b, n, l[i], rfl, hb, hb64, hd.1, hd.2, fun k' hk' H2 pp us s2 hpp0 hpp R => ⟨pp, _, rfl, .inl (SqL.of hpp), _, rfl, _, rfl, by simp [sizeLine_eq], fun tt htt => ?_⟩⟩
      have ec : (-((us.map V.ref).length : Int)) = -((cnt0 b l[i] (k' + 1) : Nat) : Int) := by rw [List.length_map, R.len, rows_cnt0 hk' hd.1]
      have s3 := s2.trans (same_upd (o := .tup [.int (-((us.map V.ref).length : Int)), .int (l[i] : Nat)]) htt)
      have ett : (upd H2 tt (.tup [.int (-((us.map V.ref).length : Int)), .int (l[i] : Nat)])) tt = some (.tup [.int (-((cnt0 b l[i] (k' + 1) : Nat) : Int)), .int (l[i] : Nat)]) := by rw [upd_same, ec]
      have eD3 := s3 _ _ eD
      refine ⟨_, eD3, ?_, fun c o e => ?_, ts ++ [tt], rs ++ [(cnt0 b l[i] (k' + 1), l[i])], ?_, ?_, ?_⟩
      · rw [List.length_map, PA.len, List.length_map, hrs.len, List.length_take]
        exact sizeLine_ge (by omega)
      · rw [upd_ne (ne_of_none e hD)]
        exact s3 _ _ (sm _ _ e)
      · rw [upd_same, List.map_append]
        rfl
      · rw [List.take_succ_eq_append_getElem hi]
        exact hrs.snoc ⟨k', hk', rfl⟩
      · have keep : ∀ (t : Addr) (ys : List V), (upd H2 tt (.tup [.int (-((us.map V.ref).length : Int)), .int (l[i] : Nat)])) t = some (.tup ys) → (upd (upd H2 tt (.tup [.int (-((us.map V.ref).length : Int)), .int (l[i] : Nat)])) D (.lst (ts.map V.ref ++ [V.ref tt]))) t = some (.tup ys) := fun t ys e => by
          rw [upd_ne (ne_of e eD3 (by intro z; cases z))]
          exact e
        rw [List.map_append]
        exact ((PA.same fun t ys e => s3 _ _ e).same keep).snoc (keep _ _ ett)
    · rintro H4 ⟨s4, ts, rs, eD, hrs, PA⟩
      rw [List.length_map, List.take_length] at hrs
      have RB := hrows rs hrs
      refine ⟨_, rfl, D, _, rs.map negP, rfl, SqL.of eD, PA.dp, ?_, fun i x p0 hx hp0 hm => ?_⟩
      · intro z
        have z2 := congrArg List.length z
        rw [List.length_map, hrs.len, hlen] at z2
        exact absurd z2 (Nat.succ_ne_zero _)
      obtain ⟨t, pr, rfl, hp, et⟩ := PA.item hx
      obtain rfl : pr = p0 := Option.some.inj (hp.symm.trans hp0)
      obtain ⟨M, D2, rfl, B⟩ := min_rows RB (Nat.le_refl _) hp0 hm
      refine ⟨t, _, rfl, .inl (.inl et), rfl, _, _, rfl, _, _, rfl, rfl, ?_⟩
      refine ⟨_, rfl, _, rfl, _, rfl, by simp [sizeLine_eq], fun p5 hp5 => ?_⟩
      have s5 := (s1.trans s4).trans (same_upd (o := .tup [.int (- -(M : Int)), .int (D2 : Nat)]) hp5)
      exact q M D2 _ p5 B s5 ((s1.trans s4).free hp5) (by rw [upd_same]; show some (HO.tup [V.int (- -(M : Int)), V.int (D2 : Nat)]) = _; rw [Int.neg_neg])
end
/-! ### the law's ends: the due ticks that may be the costliest, and others of the part -/
section
variable {P : Program} {w : World} {K : PySem.W.Frag} {mg : Str → Option Value} {base : Heap}
def EndsOk (b f l : Nat) (ns : List Nat) : Prop := (∀ x ∈ ns, f ≤ x ∧ x ≤ l) ∧ f ∈ ns ∧ ∀ k, dueK b f k ≤ l → dueK b f k ∈ ns
def spEnds : Sp := fun vs H Q _ => ∃ b f l : Nat, vs = [.int (b : Nat), .int (f : Nat), .int (l : Nat)] ∧ 2 ≤ b ∧ b ≤ 64 ∧ f ≤ l ∧ l < 2 ^ 200 ∧
  ∀ H' p ns, EndsOk b f l ns → ns.length ≤ 2000 → Same H H' → H p = none → H' p = some (.lst (ns.map fun x : Nat => V.int (x : Nat))) → Q (.ref p) H'
theorem head_eq (b f k : Nat) : f / (b ^ k * b) * b ^ k * b + onesN b k + b ^ k * (f / b ^ k % b + 1) = dueK b f k := by
  have e := cut_step b f k
  have e2 : f / (b ^ k * b) * b ^ k * b = f / b ^ (k + 1) * b ^ (k + 1) := by rw [Nat.pow_succ, Nat.mul_assoc]
  have e3 : b ^ k * (f / b ^ k % b + 1) = f / b ^ k % b * b ^ k + b ^ k := by rw [Nat.mul_add, Nat.mul_one, Nat.mul_comm]
  unfold dueK
  rw [e2, e3, Nat.add_mul, Nat.one_mul]
  omega
theorem head_le (b x k : Nat) : x / (b ^ k * b) * b ^ k * b ≤ x := by
  rw [Nat.mul_assoc]
  exact Nat.div_mul_le_self _ _
theorem head_le2 {b : Nat} (hb : 2 ≤ b) (x k : Nat) : x / (b ^ k * b) * b ^ k ≤ x := Nat.le_trans (Nat.le_mul_of_pos_right _ (by omega)) (head_le b x k)
theorem ok_ends {f : Addr} {fd : FuncData} (F : Fun K "_law_ends" "_law_ends" s__law_ends f fd) (T : Tx K mg) : FnOk P w K mg base CX0 1 f fd ["_law_base_here", "_law_first", "_law_last"] spEnds := by
  refine F.ok sc__law_ends (fun vs H Q E h => ?_) (fun cdv A outer s H vs Q E hr h => ?_)
  · obtain ⟨b, f, l, rfl, _⟩ := h
    rfl
  · obtain ⟨b, f, l, rfl, hb, hb64, hfl, hl, q⟩ := h
    have hb0 : 0 < b := by omega
    refine ⟨_, (pss_cons (ps_set (i := 3) sc__law_ends.nd rfl (.inl rfl) (pe_lst (pa_cons (pv 1) (pa_cons (pv 2) pa_nil))))
      (pss_cons (ps_set (i := 4) sc__law_ends.nd rfl (.inl rfl) pe_int)
      (pss_cons (ps_set (i := 5) sc__law_ends.nd rfl (.inl rfl) pe_int)
      (pss_cons (ps_while PassesOwn.never (pt_cmpR op_le (pv 4) (pv 2) (nomark _))
        (pss_cons (ps_set (i := 6) sc__law_ends.nd rfl (.inl rfl) (pe_op op_addN (pe_op op_mulN (pe_op op_mulN (pe_op op_divN (pv 1) (pe_op op_mulN (pv 4) (pv 0))) (pv 4)) (pv 0)) (pv 5)))
        (pss_cons (ps_set (i := 3) sc__law_ends.nd rfl (.inl rfl) (pe_op op_cat (pv 3) (pe_lst (pa_cons (pe_op op_addN (pv 6) (pe_op op_mulN (pv 4) (pe_op op_addN (pe_op op_remN (pe_op op_divN (pv 1) (pv 4)) (pv 0)) pe_int))) (pa_cons (pe_op op_addN (pv 6) (pv 4)) pa_nil)))))
        (pss_cons (ps_set (i := 6) sc__law_ends.nd rfl (.inl rfl) (pe_op op_addN (pe_op op_mulN (pe_op op_mulN (pe_op op_divN (pv 2) (pe_op op_mulN (pv 4) (pv 0))) (pv 4)) (pv 0)) (pv 5)))
        (pss_cons (ps_set (i := 3) sc__law_ends.nd rfl (.inl rfl) (pe_op op_cat (pv 3) (pe_lst (pa_cons (pv 6) (pa_cons (pe_op op_addN (pv 6) (pv 4)) (pa_cons (pe_op op_addN (pv 6) (pe_op op_mulN (pv 4) (pe_callB (call_max2 rfl) (by rfl) T.b_max (by decide +kernel) (pa_cons pe_int (pa_cons (pe_op op_sub (pe_op op_remN (pe_op op_divN (pv 2) (pv 4)) (pv 0)) pe_int) pa_nil))))) pa_nil))))))
        (pss_cons (ps_set (i := 5) sc__law_ends.nd rfl (.inl rfl) (pe_op op_addN (pv 5) (pv 4)))
        (pss_one (ps_set (i := 4) sc__law_ends.nd rfl (.inl rfl) (pe_op op_mulN (pv 4) (pv 0))))))))))
      (pss_one (ps_ret (pe_lc (own := [("_law_due", 7)]) (g := gName 7)  rfl sc__law_ends.nd (pi_list (pv 3)) (blkOk_by (own := [("_law_due", 7)]) (N := N__law_ends) (sc := defScope s__law_ends) (by decide +kernel)) (fun _ _ _ _ _ => (pg_name (i := 7) sc__law_ends.nd rfl (.inl rfl))) (fun _ _ _ _ _ => (pts_one (pt_chain op_le op_le (pv 1) (pv 7) (pv 2)))) (fun _ _ _ _ _ => (pv 7))))))))), ?_⟩
    refine ⟨_, rfl, _, rfl, by simp [sizeLine_eq], fun p hp0 => ?_⟩
    have s1 := same_upd (o := .lst [.int (f : Nat), .int (l : Nat)]) hp0
    have e1 : (upd H p (.lst [.int (f : Nat), .int (l : Nat)])) p = some (.lst (([f, l] : List Nat).map fun x : Nat => V.int (x : Nat))) := upd_same
    generalize upd H p (.lst [.int (f : Nat), .int (l : Nat)]) = H1 at s1 e1 ⊢
    refine while_by (fun σ H' => ∃ (k : Nat) (X : Addr) (ns : List Nat) (y : Option V), σ = [some (.int (b : Nat)), some (.int (f : Nat)), some (.int (l : Nat)), some (.ref X), some (.int ((b ^ k : Nat) : Int)), some (.int (onesN b k : Nat)), y, none] ∧ Same H H' ∧ H' X = some (.lst (ns.map fun x : Nat => V.int (x : Nat))) ∧ k ≤ 200 ∧ ns.length = 2 + 5 * k ∧ f ∈ ns ∧ (∀ j, j < k → dueK b f j ∈ ns) ∧ ∀ j, j < k → b ^ j ≤ l)
      (fun σ _ => slotInt σ 2 + 1 - slotInt σ 4) ⟨0, p, [f, l], none, by rw [Nat.pow_zero]; rfl, s1, e1, by decide, rfl, List.mem_cons_self .., fun j hj => absurd hj (Nat.not_lt_zero j), fun j hj => absurd hj (Nat.not_lt_zero j)⟩ ?_ ?_
    · rintro σ H' ⟨k, X, ns, y, rfl, sm, eX, hk200, hlen, hf0, hdue, hle⟩
      refine ⟨_, rfl, _, rfl, _, _, rfl, rfl, _, rfl, ite2 (fun e => ?_) (fun e => ?_)⟩
      · have hlt : b ^ k ≤ l := by
          have z := of_decide_eq_true e
          omega
        have hp := pow_pos' hb k
        have hk2 : k < 200 := (Nat.pow_lt_pow_iff_right (by decide : 1 < 2)).mp (Nat.lt_of_le_of_lt (Nat.le_trans (pow_two_le hb k) hlt) hl)
        have hs : b ^ k < 2 ^ 200 := by omega
        have hsb : b ^ k * b < 2 ^ 206 := Nat.lt_of_le_of_lt (Nat.mul_le_mul (Nat.le_refl _) hb64) (by omega)
        have hsb0 : 0 < b ^ k * b := Nat.mul_pos hp hb0
        have ho := ones_lt hb k
        have hm1 : NMul (b ^ k) b := nmul_r (by omega)
        have fr := fun (x : Nat) (hx : x ≤ l) => (show x / (b ^ k * b) ≤ x from Nat.div_le_self _ _)
        have md := fun x : Nat => Nat.mod_lt x hb0
        have f1 := fr f hfl
        have f2 := head_le2 hb f k
        have f3 := head_le b f k
        have l1 := fr l (Nat.le_refl _)
        have l2 := head_le2 hb l k
        have l3 := head_le b l k
        have mf := md (f / b ^ k)
        have ml := md (l / b ^ k)
        refine ⟨_, rfl, _, rfl, _, rfl, b ^ k, b, rfl, rfl, hm1, f, b ^ k * b, rfl, rfl, ndiv 210 hsb0 (by omega), _, rfl, f / (b ^ k * b), b ^ k, rfl, rfl, nmul_w 201 201 (by omega) (by omega), _, rfl, f / (b ^ k * b) * b ^ k, b, rfl, rfl, nmul_r (by omega), _, rfl, f / (b ^ k * b) * b ^ k * b, onesN b k, rfl, rfl, trivial, ?_⟩
        refine ⟨_, rfl, _, rfl, _, rfl, _, rfl, _, rfl, f, b ^ k, rfl, rfl, ndiv 210 hp (by omega), _, rfl, f / b ^ k, b, rfl, rfl, hb0, f / b ^ k % b, 1, rfl, rfl, trivial, b ^ k, f / b ^ k % b + 1, rfl, rfl, nmul_w 201 201 (by omega) (by omega), f / (b ^ k * b) * b ^ k * b + onesN b k, b ^ k * (f / b ^ k % b + 1), rfl, rfl, trivial, ?_⟩
        refine ⟨_, rfl, _, rfl, f / (b ^ k * b) * b ^ k * b + onesN b k, b ^ k, rfl, rfl, trivial, by simp [sizeLine_eq], fun p2 hp2 => ?_⟩
        have s2 := same_upd (o := .lst [.int ((f / (b ^ k * b) * b ^ k * b + onesN b k + b ^ k * (f / b ^ k % b + 1) : Nat) : Int), .int ((f / (b ^ k * b) * b ^ k * b + onesN b k + b ^ k : Nat) : Int)]) hp2
        refine ⟨X, p2, _, _, rfl, rfl, s2 _ _ eX, upd_same, ?_, fun p3 hp3 => ?_⟩
        · rw [List.length_map, hlen]
          show 2 + 5 * k + 2 ≤ _
          exact sizeLine_ge (by omega)
        have s3 := same_upd (o := .lst ((ns.map fun x : Nat => V.int (x : Nat)) ++ [.int ((f / (b ^ k * b) * b ^ k * b + onesN b k + b ^ k * (f / b ^ k % b + 1) : Nat) : Int), .int ((f / (b ^ k * b) * b ^ k * b + onesN b k + b ^ k : Nat) : Int)])) hp3
        obtain ⟨ns3, ens3⟩ : ∃ ns3 : List Nat, ns3 = ns ++ [f / (b ^ k * b) * b ^ k * b + onesN b k + b ^ k * (f / b ^ k % b + 1), f / (b ^ k * b) * b ^ k * b + onesN b k + b ^ k] := ⟨_, rfl⟩
        have e3 : (upd (upd H' p2 (.lst [.int ((f / (b ^ k * b) * b ^ k * b + onesN b k + b ^ k * (f / b ^ k % b + 1) : Nat) : Int), .int ((f / (b ^ k * b) * b ^ k * b + onesN b k + b ^ k : Nat) : Int)])) p3 (.lst ((ns.map fun x : Nat => V.int (x : Nat)) ++ [.int ((f / (b ^ k * b) * b ^ k * b + onesN b k + b ^ k * (f / b ^ k % b + 1) : Nat) : Int), .int ((f / (b ^ k * b) * b ^ k * b + onesN b k + b ^ k : Nat) : Int)]))) p3 = some (.lst (ns3.map fun x : Nat => V.int (x : Nat))) := by
          rw [upd_same, ens3, List.map_append]
          rfl
        have s23 := (sm.trans s2).trans s3
        have hns3 : ns3.length = 4 + 5 * k ∧ f ∈ ns3 ∧ ∀ j, j < k + 1 → dueK b f j ∈ ns3 := by
          refine ⟨by rw [ens3, List.length_append, hlen]; show 2 + 5 * k + 2 = _; omega, by rw [ens3]; exact List.mem_append_left _ hf0, fun j hj => ?_⟩
          rw [ens3]
          by_cases ej : j = k
          · rw [ej, head_eq]
            exact List.mem_append_right _ (List.mem_cons_self ..)
          · exact List.mem_append_left _ (hdue j (by omega))
        -- the end
        refine ⟨_, rfl, _, rfl, _, rfl, b ^ k, b, rfl, rfl, hm1, l, b ^ k * b, rfl, rfl, ndiv 210 hsb0 (by omega), _, rfl, l / (b ^ k * b), b ^ k, rfl, rfl, nmul_w 201 201 (by omega) (by omega), _, rfl, l / (b ^ k * b) * b ^ k, b, rfl, rfl, nmul_r (by omega), _, rfl, l / (b ^ k * b) * b ^ k * b, onesN b k, rfl, rfl, trivial, ?_⟩
        obtain ⟨m, hm, em⟩ : ∃ m : Nat, m ≤ 64 ∧ V.int (if ((l / b ^ k % b : Nat) : Int) - 1 > 0 then ((l / b ^ k % b : Nat) : Int) - 1 else 0) = V.int (m : Nat) := by
          refine ⟨l / b ^ k % b - 1, by omega, congrArg V.int ?_⟩
          split <;> omega
        refine ⟨_, rfl, _, rfl, _, rfl, _, rfl, l / (b ^ k * b) * b ^ k * b + onesN b k, b ^ k, rfl, rfl, trivial, _, rfl, _, rfl, _, rfl, _, rfl, l, b ^ k, rfl, rfl, ndiv 210 hp (by omega), _, rfl, l / b ^ k, b, rfl, rfl, hb0, ((l / b ^ k % b : Nat) : Int), 1, rfl, rfl, 0, ((l / b ^ k % b : Nat) : Int) - 1, rfl, b ^ k, m, rfl, em, nmul_r (by omega), l / (b ^ k * b) * b ^ k * b + onesN b k, b ^ k * m, rfl, rfl, trivial, by simp [sizeLine_eq], fun p4 hp4 => ?_⟩
        have s4 := same_upd (o := .lst [.int ((l / (b ^ k * b) * b ^ k * b + onesN b k : Nat) : Int), .int ((l / (b ^ k * b) * b ^ k * b + onesN b k + b ^ k : Nat) : Int), .int ((l / (b ^ k * b) * b ^ k * b + onesN b k + b ^ k * m : Nat) : Int)]) hp4
        refine ⟨p3, p4, _, _, rfl, rfl, s4 _ _ e3, upd_same, ?_, fun p5 hp5 => ?_⟩
        · rw [List.length_map, hns3.1]
          show 4 + 5 * k + 3 ≤ _
          exact sizeLine_ge (by omega)
        have s5 := same_upd (o := .lst ((ns3.map fun x : Nat => V.int (x : Nat)) ++ [.int ((l / (b ^ k * b) * b ^ k * b + onesN b k : Nat) : Int), .int ((l / (b ^ k * b) * b ^ k * b + onesN b k + b ^ k : Nat) : Int), .int ((l / (b ^ k * b) * b ^ k * b + onesN b k + b ^ k * m : Nat) : Int)])) hp5
        refine ⟨_, rfl, _, rfl, onesN b k, b ^ k, rfl, rfl, trivial, _, rfl, _, rfl, b ^ k, b, rfl, rfl, hm1, ⟨k + 1, p5, ns3 ++ [l / (b ^ k * b) * b ^ k * b + onesN b k, l / (b ^ k * b) * b ^ k * b + onesN b k + b ^ k, l / (b ^ k * b) * b ^ k * b + onesN b k + b ^ k * m], some (.int ((l / (b ^ k * b) * b ^ k * b + onesN b k : Nat) : Int)), ?_, (s23.trans s4).trans s5, ?_, hk2, ?_, List.mem_append_left _ hns3.2.1, fun j hj => List.mem_append_left _ (hns3.2.2 j hj), fun j hj => ?_⟩, ?_⟩
        · rw [Nat.pow_succ]
          rfl
        · rw [List.map_append]
          exact upd_same
        · rw [List.length_append, hns3.1]
          show 4 + 5 * k + 3 = _
          omega
        · by_cases ej : j = k
          · rw [ej]
            exact hlt
          · exact hle j (by omega)
        · show (l : Int).toNat + 1 - ((b ^ k * b : Nat) : Int).toNat < (l : Int).toNat + 1 - ((b ^ k : Nat) : Int).toNat
          have hlt2 : b ^ k * 1 < b ^ k * b := Nat.mul_lt_mul_of_pos_left (by omega) hp
          rw [Int.toNat_natCast, Int.toNat_natCast, Int.toNat_natCast]
          omega
      · have hgt : l < b ^ k := by
          have z := of_decide_eq_false (eq_false_of_ne_true e)
          omega
        refine ⟨_, rfl, X, rfl, ⟨_, SqL.of eX⟩, fun D hD => lc_list (K := K) (a := X) (xs := ns.map fun x : Nat => V.int (x : Nat)) (fun i H4 => Same H' H4 ∧ ∃ ms : List Nat, H4 D = some (.lst (ms.map fun x : Nat => V.int (x : Nat))) ∧ ms = (ns.take i).filter fun x => decide (f ≤ x ∧ x ≤ l))
          ⟨same_upd hD, [], upd_same, rfl⟩ (fun i H4 _ ⟨s4, _⟩ => SqL.of (s4 _ _ eX)) ?_ ?_⟩
        · rintro i x H4 hx ⟨s4, ms, eD, ems⟩
          have hi : i < ns.length := by
            have z := (List.getElem?_eq_some_iff.mp hx).1
            rw [List.length_map] at z
            exact z
          rw [List.getElem?_map, List.getElem?_eq_getElem hi] at hx
          obtain rfl := (Option.some.inj hx).symm
          refine ⟨rfl, ?_⟩
          have etk : ns.take (i + 1) = ns.take i ++ [ns[i]] := List.take_succ_eq_append_getElem hi
          have hno : ¬ (f ≤ ns[i] ∧ ns[i] ≤ l) → ms = (ns.take (i + 1)).filter fun x => decide (f ≤ x ∧ x ≤ l) := fun z => by
            rw [etk, List.filter_append, List.filter_cons_of_neg (by rw [decide_eq_true_eq]; exact z), List.filter_nil, List.append_nil]
            exact ems
          have hml : ms.length ≤ 1002 := by
            rw [ems]
            refine Nat.le_trans (List.length_filter_le _ _) ?_
            rw [List.length_take]
            omega
          refine ⟨_, rfl, _, rfl, _, _, rfl, rfl, _, rfl, ite2 (fun e2 => ?_) (fun e2 => ?_)⟩
          · refine ⟨_, rfl, _, _, rfl, rfl, _, rfl, ite2 (fun e3 => ?_) (fun e3 => ?_)⟩
            · refine ⟨_, rfl, _, eD, ?_, fun c o z => ?_, ms ++ [ns[i]], ?_, ?_⟩
              · rw [List.length_map]
                exact sizeLine_ge (by omega)
              · rw [upd_ne (ne_of_none z hD)]
                exact s4 _ _ z
              · rw [upd_same, List.map_append]
                rfl
              · have z1 := of_decide_eq_true e2
                have z2 := of_decide_eq_true e3
                rw [etk, List.filter_append, List.filter_cons_of_pos (by rw [decide_eq_true_eq]; omega), List.filter_nil, ← ems]
            · have z2 := of_decide_eq_false (eq_false_of_ne_true e3)
              exact ⟨s4, ms, eD, hno (by omega)⟩
          · have z1 := of_decide_eq_false (eq_false_of_ne_true e2)
            exact ⟨_, rfl, iteF ⟨s4, ms, eD, hno (by omega)⟩⟩
        · rintro H4 ⟨s4, ms, eD, ems⟩
          rw [List.length_map, List.take_length] at ems
          have hml : ms.length ≤ 2000 := by
            rw [ems]
            refine Nat.le_trans (List.length_filter_le _ _) ?_
            omega
          refine q H4 D ms ⟨fun x hx => ?_, ?_, fun j hj => ?_⟩ hml (sm.trans s4) (sm.free hD) eD
          · rw [ems] at hx
            exact of_decide_eq_true (List.mem_filter.mp hx).2
          · rw [ems]
            exact List.mem_filter.mpr ⟨hf0, decide_eq_true ⟨Nat.le_refl _, hfl⟩⟩
          · have hjk : j < k := by
              rcases Nat.lt_or_ge j k with z | z
              · exact z
              · have z1 := dueK_ge b f k
                have z2 := dueK_mono hb f z
                omega
            rw [ems]
            exact List.mem_filter.mpr ⟨hdue j hjk, decide_eq_true ⟨Nat.le_of_lt (dueK_gt hb f j), hj⟩⟩
    · rintro σ H' Q1 Q2 h ⟨x, hx, y, hy, i, j, e1, e2, k, e, z⟩
      exact ⟨x, hx, y, hy, i, j, e1, e2, k, e, h _ _ z⟩
end
/-! ### the law's levels -/
section
variable {P : Program} {w : World} {K : PySem.W.Frag} {mg : Str → Option Value} {base : Heap}
def spLawLevel : Sp := fun vs H Q _ => ∃ b n d : Nat, vs = [.int (b : Nat), .int (n : Nat), .int (d : Nat)] ∧ 2 ≤ b ∧ b ≤ 64 ∧ n < d ∧ d < 2 ^ 250 ∧ ∀ k, IsLev b n d k → Q (.int (k : Nat)) H
theorem ok_law_level {f : Addr} {fd : FuncData} (F : Fun K "_law_level" "_law_level" s__law_level f fd) : FnOk P w K mg base CX0 1 f fd ["_law_base_here", "_law_now", "_law_due"] spLawLevel := by
  refine F.ok sc__law_level (fun vs H Q E h => ?_) (fun cdv A outer s H vs Q E hr h => ?_)
  · obtain ⟨b, n, d, rfl, _⟩ := h
    rfl
  · obtain ⟨b, n, d, rfl, hb, hb64, hnd, hd, c⟩ := h
    have cb : ∀ x : Nat, NDiv x b := fun x => ndiv 7 (by omega) (by omega)
    have hb0 : 0 < b := by omega
    refine ⟨_, (pss_cons (ps_set (i := 3) sc__law_level.nd rfl (.inl rfl) pe_int)
      (pss_cons (ps_set (i := 4) sc__law_level.nd rfl (.inl rfl) pe_int)
      (pss_cons (ps_while PassesOwn.never (pt_cmpR op_ne (pv 1) (pv 2) (nomark _))
        (pss_cons (ps_if (pt_cmpR op_ne (pe_op op_remN (pv 1) (pv 0)) (pe_op op_remN (pv 2) (pv 0)) (nomark _))
          (pss_one (ps_set (i := 3) sc__law_level.nd rfl (.inl rfl) (pv 4)))
          pss_nil)
        (pss_cons (ps_set (i := 1) sc__law_level.nd rfl (.inl rfl) (pe_op op_divN (pv 1) (pv 0)))
        (pss_cons (ps_set (i := 2) sc__law_level.nd rfl (.inl rfl) (pe_op op_divN (pv 2) (pv 0)))
        (pss_one (ps_set (i := 4) sc__law_level.nd rfl (.inl rfl) (pe_op op_addN (pv 4) pe_int)))))))
      (pss_one (ps_ret (pv 3)))))), ?_⟩
    refine while_by (fun σ H' => ∃ j g : Nat, σ = [some (.int (b : Nat)), some (.int ((n / b ^ j : Nat) : Int)), some (.int ((d / b ^ j : Nat) : Int)), some (.int (g : Nat)), some (.int (j : Nat))] ∧ H' = H ∧ (∀ i, i < j → n / b ^ i ≠ d / b ^ i) ∧ ∀ i, j = i + 1 → n / b ^ j = d / b ^ j → g = i)
      (fun σ _ => slotInt σ 2) ⟨0, 0, ?_, rfl, fun j hj => absurd hj (Nat.not_lt_zero j), fun i e => by omega⟩ ?_ ?_
    · rw [Nat.pow_zero, Nat.div_one, Nat.div_one]
      rfl
    · rintro σ H' ⟨j, g, rfl, rfl, hj, hg⟩
      by_cases he : n / b ^ j = d / b ^ j
      · refine ⟨_, rfl, _, rfl, rfl, false, nF (vE he), iteF ?_⟩
        have hk0 : j ≠ 0 := fun z => by
          rw [z, Nat.pow_zero, Nat.div_one, Nat.div_one] at he
          omega
        obtain ⟨i, rfl⟩ : ∃ i, j = i + 1 := ⟨j - 1, by omega⟩
        have z := c i ⟨he, fun x hx => hj (x + 1) (by omega)⟩
        rw [← hg i rfl he] at z
        exact ⟨_, rfl, z⟩
      · have h2 : n / b ^ j ≤ d / b ^ j := Nat.div_le_div_right (Nat.le_of_lt hnd)
        have hpos : 0 < d / b ^ j := pos_of h2 he
        have hlt : d / b ^ j / b < d / b ^ j := Nat.div_lt_self hpos (by omega)
        refine ⟨_, rfl, _, rfl, rfl, true, nT (vN he), iteT ?_⟩
        have less : (((d / b ^ j / b : Nat) : Int)).toNat < (((d / b ^ j : Nat) : Int)).toNat := by
          rw [Int.toNat_natCast, Int.toNat_natCast]
          exact hlt
        have fin : ∀ g' : Nat, (n / b ^ j / b = d / b ^ j / b → g' = j) → ∃ j' g2 : Nat, ([some (.int (b : Nat)), some (.int ((n / b ^ j / b : Nat) : Int)), some (.int ((d / b ^ j / b : Nat) : Int)), some (.int (g' : Nat)), some (.int ((j + 1 : Nat) : Int))] : L2.St) = [some (.int (b : Nat)), some (.int ((n / b ^ j' : Nat) : Int)), some (.int ((d / b ^ j' : Nat) : Int)), some (.int (g2 : Nat)), some (.int (j' : Nat))] ∧ H' = H' ∧ (∀ i, i < j' → n / b ^ i ≠ d / b ^ i) ∧ ∀ i, j' = i + 1 → n / b ^ j' = d / b ^ j' → g2 = i := by
          intro g' hg'
          refine ⟨j + 1, g', ?_, rfl, fun i hi => ?_, fun i e z => ?_⟩
          · rw [div_succ, div_succ]
          · by_cases e : i = j
            · rw [e]
              exact he
            · exact hj i (by omega)
          · have e2 : j = i := by omega
            rw [div_succ, div_succ] at z
            rw [hg' z, e2]
        by_cases h0 : n / b ^ j % b = d / b ^ j % b
        · refine ⟨_, rfl, _, rfl, n / b ^ j, b, rfl, rfl, hb0, _, rfl, _, rfl, d / b ^ j, b, rfl, rfl, hb0, rfl, false, nF (vE h0), iteF ?_⟩
          refine ⟨_, rfl, _, rfl, n / b ^ j, b, rfl, rfl, cb _, _, rfl, _, rfl, d / b ^ j, b, rfl, rfl, cb _, _, rfl, j, 1, rfl, rfl, trivial, ⟨fin g fun z => ?_, less⟩⟩
          have e1 := Nat.div_add_mod (n / b ^ j) b
          have e2 := Nat.div_add_mod (d / b ^ j) b
          rw [z, h0] at e1
          exact absurd (e1.symm.trans e2) he
        · refine ⟨_, rfl, _, rfl, n / b ^ j, b, rfl, rfl, hb0, _, rfl, _, rfl, d / b ^ j, b, rfl, rfl, hb0, rfl, true, nT (vN h0), iteT ⟨_, rfl, ?_⟩⟩
          exact ⟨_, rfl, _, rfl, n / b ^ j, b, rfl, rfl, cb _, _, rfl, _, rfl, d / b ^ j, b, rfl, rfl, cb _, _, rfl, j, 1, rfl, rfl, trivial, ⟨fin j fun _ => rfl, less⟩⟩
    · rintro σ H' Q1 Q2 h ⟨x, hx, y, hy, hs, k, e, z⟩
      exact ⟨x, hx, y, hy, hs, k, e, h _ _ z⟩
end
/-! ### the law's moves of one due tick -/
section
variable {P : Program} {w : World} {K : PySem.W.Frag} {mg : Str → Option Value} {base : Heap}
def spLawMoves : Sp := fun vs H Q _ => ∃ b n d : Nat, vs = [.int (b : Nat), .int (n : Nat), .int (d : Nat)] ∧ 2 ≤ b ∧ b ≤ 64 ∧ n < d ∧ d < 2 ^ 250 ∧ ∀ k, IsLev b n d k → Q (.int (cnt0 b d (k + 1) : Nat)) H
theorem ok_law_moves {f : Addr} {fd : FuncData} (F : Fun K "_law_moves" "_law_moves" s__law_moves f fd) (T : Tx K mg) (h1 : Has P w K mg base 1 "_law_level" ["_law_base_here", "_law_now", "_law_due"] [] spLawLevel) :
    FnOk P w K mg base CX0 2 f fd ["_law_base_here", "_law_now", "_law_due"] spLawMoves := by
  obtain ⟨f__law_level, fd__law_level, ds__law_level, G__law_level, m__law_level, k__law_level, b__law_level, v__law_level⟩ := h1
  refine F.ok sc__law_moves (fun vs H Q E h => ?_) (fun cdv A outer s H vs Q E hr h => ?_)
  · obtain ⟨b, n, d, rfl, _⟩ := h
    rfl
  · obtain ⟨b, n, d, rfl, hb, hb64, hnd, hd, c⟩ := h
    have hb0 : 0 < b := by omega
    refine ⟨_, (pss_cons (ps_set (i := 3) sc__law_moves.nd rfl (.inl rfl) pe_int)
      (pss_cons (ps_for PassesOwn.never rfl (pi_range1 (by rfl) T.b_range (pa_cons (pe_op op_addN (pe_call G__law_level hr (by rfl) m__law_level k__law_level b__law_level v__law_level pass0 (pa_cons (pv 0) (pa_cons (pv 1) (pa_cons (pv 2) pa_nil)))) pe_int) pa_nil)) (pg_name (i := 4) sc__law_moves.nd rfl (.inl rfl))
        (pss_cons (ps_set (i := 3) sc__law_moves.nd rfl (.inl rfl) (pe_op op_addN (pv 3) (pe_callTy call_int1 (by rfl) T.b_int (by decide +kernel) (pa_cons (pe_cmpR op_gt (pe_op op_remN (pv 2) (pv 0)) pe_int (nomark _)) pa_nil))))
        (pss_one (ps_set (i := 2) sc__law_moves.nd rfl (.inl rfl) (pe_op op_divN (pv 2) (pv 0))))))
      (pss_one (ps_ret (pv 3))))), ?_⟩
    refine ⟨_, rfl, _, rfl, _, rfl, b, n, d, rfl, hb, hb64, hnd, hd, fun k hk => ?_⟩
    have hk250 : k < 250 := lev_small hk hb hnd hd
    refine ⟨k, 1, rfl, rfl, trivial, _, rfl, (by show -2 ^ 62 ≤ ((k + 1 : Nat) : Int); omega), (by show ((k + 1 : Nat) : Int) < 2 ^ 62; omega), for_range (Pv := fun i σ H' => H' = H ∧ ∃ y, σ = [some (.int (b : Nat)), some (.int (n : Nat)), some (.int ((d / b ^ i : Nat) : Int)), some (.int (cnt0 b d i : Nat)), y]) ⟨rfl, none, ?_⟩ ?_ ?_⟩
    · rw [Nat.pow_zero, Nat.div_one]
      rfl
    · rintro i σ H' hi ⟨rfl, y, rfl⟩
      obtain ⟨v, hv⟩ : ∃ v : Bool, v = decide (((d / b ^ i % b : Nat) : Int) > 0) := ⟨_, rfl⟩
      refine ⟨_, rfl, _, rfl, _, rfl, d / b ^ i, b, rfl, rfl, hb0, _, _, rfl, rfl, .inr ⟨v, by rw [hv], cnt0 b d i, (if v = true then 1 else 0), rfl, by cases v <;> rfl, trivial, ?_⟩⟩
      refine ⟨_, rfl, _, rfl, d / b ^ i, b, rfl, rfl, ndiv 7 hb0 (by omega), rfl, some (.int (0 + (i : Int))), ?_⟩
      have e : (if v = true then 1 else 0) = if d / b ^ i % b ≠ 0 then 1 else 0 := by
        by_cases z : d / b ^ i % b ≠ 0
        · rw [if_pos z, hv, if_pos (decide_eq_true (by omega))]
        · rw [if_neg z, hv, if_neg (by rw [decide_eq_false (by omega)]; decide)]
      show _ = [some (V.int (b : Nat)), some (V.int (n : Nat)), some (V.int ((d / b ^ (i + 1) : Nat) : Int)), some (V.int ((cnt0 b d i + if d / b ^ i % b ≠ 0 then 1 else 0 : Nat) : Int)), some (V.int (0 + (i : Int)))]
      rw [div_succ, ← e]
      rfl
    · rintro σ H' ⟨rfl, y, rfl⟩
      exact ⟨_, rfl, c k hk⟩
end
/-! ### the law's best: the most moves of a range, level by level -/
section
variable {P : Program} {w : World} {K : PySem.W.Frag} {mg : Str → Option Value} {base : Heap}
def spBest : Sp := fun vs H Q _ => ∃ b n f h : Nat, vs = [.int (b : Nat), .int (n : Nat), .int (f : Nat), .int (h : Nat)] ∧ 2 ≤ b ∧ b ≤ 64 ∧ n < f ∧ f < h ∧ h ≤ 2 ^ 200 ∧
  ∀ (M D : Nat) H' p, Best b n f h M D → Same H H' → H p = none → H' p = some (.tup [.int (M : Nat), .int (D : Nat)]) → Q (.ref p) H'
theorem PairsAt.app {H : Hp} {us : List Addr} {qs : List (Int × Int)} (h2 : PairsAt H us qs) : ∀ {ts : List Addr} {ps : List (Int × Int)}, PairsAt H ts ps → PairsAt H (ts ++ us) (ps ++ qs)
  | [], [], _ => h2
  | _ :: _, _ :: _, h => ⟨h.1, PairsAt.app h2 h.2⟩
  | [], _ :: _, h => h.elim
  | _ :: _, [], h => h.elim
theorem begL_eq (b n L : Nat) : (n / (b ^ L * b) + 1) * b ^ L * b = begL b n (L + 1) := by
  unfold begL
  rw [Nat.pow_succ, Nat.mul_assoc]
theorem ok_best {f : Addr} {fd : FuncData} (F : Fun K "_law_best" "_law_best" s__law_best f fd) (T : Tx K mg) (h1 : Has P w K mg base 1 "_law_ends" ["_law_base_here", "_law_first", "_law_last"] [] spEnds)
    (h2 : Has P w K mg base 2 "_law_moves" ["_law_base_here", "_law_now", "_law_due"] [] spLawMoves) : FnOk P w K mg base CX0 3 f fd ["_law_base_here", "_law_now", "_law_first", "_law_behind"] spBest := by
  obtain ⟨f__law_ends, fd__law_ends, ds__law_ends, G__law_ends, m__law_ends, k__law_ends, b__law_ends, v__law_ends⟩ := h1
  obtain ⟨f__law_moves, fd__law_moves, ds__law_moves, G__law_moves, m__law_moves, k__law_moves, b__law_moves, v__law_moves⟩ := h2
  refine F.ok sc__law_best (fun vs H Q E h => ?_) (fun cdv A outer s H vs Q E hr h => ?_)
  · obtain ⟨b, n, f, h, rfl, _⟩ := h
    rfl
  · obtain ⟨b, n, f, h, rfl, hb, hb64, hnf, hfh, hh, q⟩ := h
    have hb0 : 0 < b := by omega
    refine ⟨_, (pss_cons (ps_set (i := 4) sc__law_best.nd rfl (.inl rfl) (pe_lst pa_nil))
      (pss_cons (ps_set (i := 5) sc__law_best.nd rfl (.inl rfl) pe_int)
      (pss_cons (ps_set (i := 6) sc__law_best.nd rfl (.inl rfl) pe_int)
      (pss_cons (ps_set (i := 7) sc__law_best.nd rfl (.inl rfl) (pv 2))
      (pss_cons (ps_while PassesOwn.never (pt_cmpR op_lt (pv 7) (pv 3) (nomark _))
        (pss_cons (ps_set (i := 8) sc__law_best.nd rfl (.inl rfl) (pe_op op_mulN (pe_op op_mulN (pe_op op_addN (pe_op op_divN (pv 1) (pe_op op_mulN (pv 5) (pv 0))) pe_int) (pv 5)) (pv 0)))
        (pss_cons (ps_if (PW.pt (pw_and (pt_cmpR op_lt (pv 7) (pv 8) (nomark _)) (pw_and (pt_cmpR op_le (pv 8) (pv 3) (nomark _)) (pw_and1 (pt_cmpR op_eq (pv 7) (pe_op op_mulN (pe_op op_addN (pe_op op_divN (pv 1) (pv 5)) pe_int) (pv 5)) (nomark _))))))
          (pss_one (ps_expr (pe_bm PySem.F.plainAttrs_list PySem.F.slot_list_append PySem.F.type_list_append mt_append (pv 4) (pa_cons (pe_tup (pa_cons (pe_op op_sub (pe_op op_sub pe_int (pv 6)) pe_int) (pa_cons (pe_op op_addN (pv 7) (pe_op op_divN (pe_op op_subN (pv 5) pe_int) (pe_op op_subN (pv 0) pe_int))) pa_nil))) pa_nil))))
          (pss_one (ps_if (pt_cmpR op_lt (pv 7) (pv 8) (nomark _))
            (pss_cons (ps_set (i := 9) sc__law_best.nd rfl (.inl rfl) (pe_call G__law_ends (hr.mono (by decide)) (by rfl) m__law_ends k__law_ends b__law_ends v__law_ends pass0 (pa_cons (pv 0) (pa_cons (pv 7) (pa_cons (pe_op op_subN (pe_callB (min2N rfl) (by rfl) T.b_min (by decide +kernel) (pa_cons (pv 3) (pa_cons (pv 8) pa_nil))) pe_int) pa_nil)))))
            (pss_one (ps_expr (pe_bm PySem.F.plainAttrs_list PySem.F.slot_list_extend PySem.F.type_list_extend mt_extend (pv 4) (pa_cons (pe_lc (own := [("_law_due", 10)]) (g := gName 10) (tt := tYes) rfl sc__law_best.nd (pi_list (pv 9)) (blkOk_by (own := [("_law_due", 10)]) (N := N__law_best) (sc := defScope s__law_best) (by decide +kernel)) (fun _ _ _ _ _ => (pg_name (i := 10) sc__law_best.nd rfl (.inl rfl))) (fun _ _ _ _ _ => pts_nil) (fun _ _ _ _ _ => (pe_tup (pa_cons (pe_op op_sub pe_int (pe_call G__law_moves hr (by rfl) m__law_moves k__law_moves b__law_moves v__law_moves pass0 (pa_cons (pv 0) (pa_cons (pv 1) (pa_cons (pv 10) pa_nil))))) (pa_cons (pv 10) pa_nil))))) pa_nil)))))
            pss_nil)))
        (pss_cons (ps_set (i := 7) sc__law_best.nd rfl (.inl rfl) (pe_callB (max2N rfl) (by rfl) T.b_max (by decide +kernel) (pa_cons (pv 7) (pa_cons (pv 8) pa_nil))))
        (pss_cons (ps_set (i := 5) sc__law_best.nd rfl (.inl rfl) (pe_op op_mulN (pv 5) (pv 0)))
        (pss_one (ps_set (i := 6) sc__law_best.nd rfl (.inl rfl) (pe_op op_addN (pv 6) pe_int))))))))
      (pss_one (ps_ret (pe_tup (pa_cons (pe_op op_sub pe_int (pe_ix (ix_tupK (K := K) rfl) (pe_callB (minP2 (K := K) rfl rfl hr.units) (by rfl) T.b_min (by decide +kernel) (pa_cons (pv 4) pa_nil)) pe_int (fun _ _ => rfl))) (pa_cons (pe_ix (ix_tupK (K := K) rfl) (pe_callB (minP2 (K := K) rfl rfl hr.units) (by rfl) T.b_min (by decide +kernel) (pa_cons (pv 4) pa_nil)) pe_int (fun _ _ => rfl)) pa_nil)))))))))), ?_⟩
    refine ⟨by simp [sizeLine_eq], fun R hR0 => ?_⟩
    have s1 := same_upd (o := .lst []) hR0
    have e1 : (upd H R (.lst [])) R = some (.lst (([] : List Addr).map V.ref)) := upd_same
    generalize upd H R (.lst []) = H1 at s1 e1 ⊢
    refine ⟨_, rfl, ?_⟩
    have R0 : RowsB b n f h (begL b n 0) [] := RowsB.nil (by rw [begL_zero]; exact hnf)
    have b0 : max f (begL b n 0) = f := by rw [begL_zero]; omega
    refine while_by (fun σ H' => ∃ (L : Nat) (ts : List Addr) (rs : List (Nat × Nat)) (y8 y9 : Option V), σ = [some (.int (b : Nat)), some (.int (n : Nat)), some (.int (f : Nat)), some (.int (h : Nat)), some (.ref R), some (.int ((b ^ L : Nat) : Int)), some (.int (L : Nat)), some (.int ((max f (begL b n L) : Nat) : Int)), y8, y9, none] ∧ Same H H' ∧ H' R = some (.lst (ts.map V.ref)) ∧ PairsAt H' ts (rs.map negP) ∧ RowsB b n f h (begL b n L) rs ∧ L ≤ 200 ∧ rs.length ≤ 2001 * L)
      (fun σ _ => slotInt σ 3 - slotInt σ 5) ⟨0, [], [], none, none, by rw [b0]; rfl, s1, e1, trivial, R0, by decide, Nat.zero_le _⟩ ?_ ?_
    · rintro σ H' ⟨L, ts, rs, y8, y9, rfl, sm, eR, PA, RB, hL200, hlen⟩
      have hg := begL_ge b n L
      have hp := pow_pos' hb L
      have hmono := begL_mono hb n L
      refine ⟨_, rfl, _, rfl, _, _, rfl, rfl, _, rfl, ite2 (fun e => ?_) (fun e => ?_)⟩
      · have hlt : max f (begL b n L) < h := by
          have z := of_decide_eq_true e
          omega
        have hs : b ^ L < 2 ^ 200 := by omega
        have hL2 : L < 200 := (Nat.pow_lt_pow_iff_right (by decide : 1 < 2)).mp (Nat.lt_of_le_of_lt (pow_two_le hb L) hs)
        have hsb : b ^ L * b < 2 ^ 206 := Nat.lt_of_le_of_lt (Nat.mul_le_mul (Nat.le_refl _) hb64) (by omega)
        have hsb0 : 0 < b ^ L * b := Nat.mul_pos hp hb0
        have hq : n / (b ^ L * b) ≤ n := Nat.div_le_self _ _
        have hq2 : n / b ^ L ≤ n := Nat.div_le_self _ _
        have e8 : V.int (((n / (b ^ L * b) + 1) * b ^ L * b : Nat) : Int) = V.int (begL b n (L + 1) : Nat) := by rw [begL_eq]
        refine ⟨_, rfl, _, rfl, _, rfl, b ^ L, b, rfl, rfl, nmul_r (by omega), n, b ^ L * b, rfl, rfl, ndiv 210 hsb0 (by omega), n / (b ^ L * b), 1, rfl, rfl, trivial, _, rfl, n / (b ^ L * b) + 1, b ^ L, rfl, rfl, nmul_w 201 201 (by omega) (by omega), _, rfl, (n / (b ^ L * b) + 1) * b ^ L, b, rfl, rfl, nmul_r (by omega), ?_⟩
        -- behind the parts
        have hpow : b ^ L * b = b ^ (L + 1) := (Nat.pow_succ b L).symm
        have hb1 : b ^ L * 1 < b ^ L * b := Nat.mul_lt_mul_of_pos_left (by omega) hp
        have dec0 : (h : Int).toNat - ((b ^ L * b : Nat) : Int).toNat < (h : Int).toNat - ((b ^ L : Nat) : Int).toNat := by
          rw [Int.toNat_natCast, Int.toNat_natCast, Int.toNat_natCast]
          omega
        have emax : max (max f (begL b n L)) (begL b n (L + 1)) = max f (begL b n (L + 1)) := by omega
        have hlr : rs.length ≤ 400400 := by omega
        have htl : ts.length ≤ 400400 := by
          rw [PA.len, List.length_map]
          exact hlr
        apply cut_at (I := fun (y : Option V) (H5 : Hp) => ∃ (ts' : List Addr) (rs' : List (Nat × Nat)), Same H H5 ∧ H5 R = some (.lst (ts'.map V.ref)) ∧ PairsAt H5 ts' (rs'.map negP) ∧ RowsB b n f h (begL b n (L + 1)) rs' ∧ rs'.length ≤ 2001 * (L + 1))
        · intro fin
          refine ⟨_, rfl, _, rfl, _, _, rfl, rfl, _, rfl, ite2 (fun c1 => ?_) (fun c1 => ?_)⟩
          rotate_left 1
          · have l1 : begL b n (L + 1) ≤ max f (begL b n L) := by
              have z := of_decide_eq_false (eq_false_of_ne_true c1)
              rw [← begL_eq]
              exact Int.ofNat_le.mp (Int.not_lt.mp z)
            refine iteF ⟨_, rfl, _, rfl, _, _, rfl, rfl, _, rfl, ite2 (fun c => absurd c c1) (fun _ => ?_)⟩
            obtain ⟨G0, eG0⟩ : ∃ G, G = H' := ⟨_, rfl⟩
            obtain ⟨y0, ey0⟩ : ∃ y, y = y9 := ⟨_, rfl⟩
            rw [← eG0] at sm eR PA ⊢
            rw [← ey0]
            exact fin y0 G0 ⟨ts, rs, sm, eR, PA, RB.skip l1, by omega⟩
          · have l1 : max f (begL b n L) < begL b n (L + 1) := by
              have z := of_decide_eq_true c1
              rw [← begL_eq]
              exact Int.ofNat_lt.mp z
            apply cut_rest (I := fun H6 => H6 = H')
            · intro els
              refine ⟨_, rfl, _, rfl, _, _, rfl, rfl, _, rfl, ite2 (fun c2 => ?_) (fun c2 => ?_)⟩
              rotate_left 1
              · refine iteF ?_
                obtain ⟨G0, eG0⟩ : ∃ G, G = H' := ⟨_, rfl⟩
                rw [← eG0]
                exact els G0 eG0
              · refine ⟨_, rfl, _, rfl, _, rfl, n, b ^ L, rfl, rfl, ndiv 210 hp (by omega), n / b ^ L, 1, rfl, rfl, trivial, _, rfl, n / b ^ L + 1, b ^ L, rfl, rfl, nmul_w 201 201 (by omega) (by omega), rfl, _, rfl, ite2 (fun c3 => ?_) (fun c3 => ?_)⟩
                rotate_left 1
                · exact els H' rfl
                · have w2 : begL b n (L + 1) ≤ h := by
                    have z := of_decide_eq_true c2
                    rw [← begL_eq]
                    exact Int.ofNat_le.mp z
                  have w3 : max f (begL b n L) = begL b n L := by
                    have z := of_decide_eq_true c3
                    exact Int.ofNat.inj (V.int.inj z)
                  have RB2 := RB.whole hb (by omega) (by omega) w2
                  refine ⟨_, rfl, .inl ⟨rfl, _, .inl (.inl eR)⟩, _, rfl, 0, (L : Nat), rfl, rfl, _, 1, rfl, rfl, _, rfl, _, rfl, b ^ L, 1, rfl, rfl, hp, _, rfl, b, 1, rfl, rfl, hb0, b ^ L - 1, b - 1, rfl, rfl, ndiv 7 (by omega) (by omega), max f (begL b n L), (b ^ L - 1) / (b - 1), rfl, rfl, trivial, by simp [sizeLine_eq], fun t ht => ?_⟩
                  obtain ⟨H5, eH5⟩ : ∃ H5, H5 = upd H' t (.tup [.int (0 - (L : Int) - 1), .int ((max f (begL b n L) + (b ^ L - 1) / (b - 1) : Nat) : Int)]) := ⟨_, rfl⟩
                  have s5 : Same H' H5 := by
                    rw [eH5]
                    exact same_upd ht
                  have e5 : H5 t = some (.tup [.int (negP (L + 1, begL b n L + onesN b L)).1, .int (negP (L + 1, begL b n L + onesN b L)).2]) := by
                    rw [eH5, upd_same, ones_div hb L, w3]
                    show some (HO.tup [V.int (0 - (L : Int) - 1), _]) = some (HO.tup [V.int (-((L + 1 : Nat) : Int)), _])
                    have z : 0 - (L : Int) - 1 = -((L + 1 : Nat) : Int) := by omega
                    rw [z]
                    rfl
                  have eR5 := s5 _ _ eR
                  refine ⟨R, _, _, rfl, rfl, by rw [← eH5]; exact eR5, ?_, ?_⟩
                  · rw [List.length_map]
                    exact sizeLine_ge (by omega)
                  obtain ⟨H8, eH8⟩ : ∃ H8, H8 = upd H5 R (.lst (ts.map V.ref ++ [.ref t])) := ⟨_, rfl⟩
                  have keep : ∀ (c : Addr) (ys : List V), H5 c = some (.tup ys) → H8 c = some (.tup ys) := fun c ys z => by
                    rw [eH8, upd_ne (ne_of z eR5 (by intro z; cases z))]
                    exact z
                  have g : ∃ (ts' : List Addr) (rs' : List (Nat × Nat)), Same H H8 ∧ H8 R = some (.lst (ts'.map V.ref)) ∧ PairsAt H8 ts' (rs'.map negP) ∧ RowsB b n f h (begL b n (L + 1)) rs' ∧ rs'.length ≤ 2001 * (L + 1) := by
                    refine ⟨ts ++ [t], rs ++ [(L + 1, begL b n L + onesN b L)], fun c o z => ?_, ?_, ?_, RB2, ?_⟩
                    · rw [eH8, upd_ne (ne_of_none z hR0)]
                      exact s5 _ _ (sm _ _ z)
                    · rw [eH8, upd_same, List.map_append]
                      rfl
                    · rw [List.map_append]
                      exact ((PA.same fun c ys z => s5 _ _ z).same keep).snoc (keep _ _ e5)
                    · rw [List.length_append]
                      show rs.length + 1 ≤ _
                      omega
                  rw [eH5] at eH8
                  rw [eH8] at g
                  exact fin y9 _ g
            · rintro H6 rfl
              refine ⟨_, rfl, _, rfl, _, _, rfl, rfl, _, rfl, ite2 (fun _ => ?_) (fun c => absurd c1 c)⟩
              obtain ⟨en, hen⟩ : ∃ en, en = begL b n (L + 1) := ⟨_, rfl⟩
              have eE : (n / (b ^ L * b) + 1) * b ^ L * b = en := by rw [begL_eq, hen]
              obtain ⟨g0, hg0⟩ : ∃ g0, g0 = max f (begL b n L) := ⟨_, rfl⟩
              have l1' : max f (begL b n L) < (n / (b ^ L * b) + 1) * b ^ L * b := by rw [begL_eq]; exact l1
              have hm1 : 1 ≤ min h ((n / (b ^ L * b) + 1) * b ^ L * b) := by omega
              refine ⟨_, rfl, _, rfl, _, rfl, _, rfl, h, (n / (b ^ L * b) + 1) * b ^ L * b, rfl, min h ((n / (b ^ L * b) + 1) * b ^ L * b), 1, rfl, rfl, hm1, b, max f (begL b n L), min h ((n / (b ^ L * b) + 1) * b ^ L * b) - 1, rfl, hb, hb64, by omega, by omega, fun H7 p ns hE hnl s7 hp0 ep => ?_⟩
              rw [eE, ← hg0] at hE
              have s7b := sm.trans s7
              have hmem : ∀ d ∈ ns, n < d ∧ d < 2 ^ 250 := fun d hd => by
                have z := hE.1 d hd
                omega
              have eR7 := s7 _ _ eR
              refine ⟨_, rfl, .inl ⟨rfl, _, .inl (.inl eR7)⟩, _, rfl, p, rfl, ⟨_, SqL.of ep⟩, fun D hD => lc_list (K := K) (a := p) (xs := ns.map fun x => V.int (x : Nat)) (fun i H' => Same H7 H' ∧ ∃ (ts2 : List Addr) (rs2 : List (Nat × Nat)), H' D = some (.lst (ts2.map V.ref)) ∧ RowsL b n (ns.take i) rs2 ∧ PairsAt H' ts2 (rs2.map negP))
                ⟨same_upd hD, [], [], upd_same, RowsL.nil b n, trivial⟩ (fun i H' _ ⟨sm, _⟩ => SqL.of (sm _ _ ep)) ?_ ?_⟩
              · rintro i x H9 hx ⟨s9, ts2, rs2, eD, hrs, PA2⟩
                have hi : i < ns.length := by
                  have z := (List.getElem?_eq_some_iff.mp hx).1
                  rw [List.length_map] at z
                  exact z
                rw [List.getElem?_map, List.getElem?_eq_getElem hi] at hx
                obtain rfl := (Option.some.inj hx).symm
                have hd := hmem _ (List.getElem_mem hi)
                refine ⟨rfl, yesT (iteT ?_)⟩
                refine ⟨_, rfl, _, rfl, _, rfl, b, n, ns[i], rfl, hb, hb64, hd.1, hd.2, fun k' hk' => ⟨0, _, rfl, rfl, _, rfl, by simp [sizeLine_eq], fun tt htt => ?_⟩⟩
                have s3 := same_upd (o := .tup [.int (0 - ((cnt0 b ns[i] (k' + 1) : Nat) : Int)), .int (ns[i] : Nat)]) htt
                have ett : (upd H9 tt (.tup [.int (0 - ((cnt0 b ns[i] (k' + 1) : Nat) : Int)), .int (ns[i] : Nat)])) tt = some (.tup [.int (-((cnt0 b ns[i] (k' + 1) : Nat) : Int)), .int (ns[i] : Nat)]) := by rw [upd_same, Int.zero_sub]
                have eD3 := s3 _ _ eD
                refine ⟨_, eD3, ?_, fun c o e => ?_, ts2 ++ [tt], rs2 ++ [(cnt0 b ns[i] (k' + 1), ns[i])], ?_, ?_, ?_⟩
                · rw [List.length_map, PA2.len, List.length_map, hrs.len, List.length_take]
                  exact sizeLine_ge (by omega)
                · rw [upd_ne (ne_of_none e hD)]
                  exact s3 _ _ (s9 _ _ e)
                · rw [upd_same, List.map_append]
                  rfl
                · rw [List.take_succ_eq_append_getElem hi]
                  exact hrs.snoc ⟨k', hk', rfl⟩
                · have keep : ∀ (t : Addr) (ys : List V), (upd H9 tt (.tup [.int (0 - ((cnt0 b ns[i] (k' + 1) : Nat) : Int)), .int (ns[i] : Nat)])) t = some (.tup ys) → (upd (upd H9 tt (.tup [.int (0 - ((cnt0 b ns[i] (k' + 1) : Nat) : Int)), .int (ns[i] : Nat)])) D (.lst (ts2.map V.ref ++ [V.ref tt]))) t = some (.tup ys) := fun t ys e => by
                    rw [upd_ne (ne_of e eD3 (by intro z; cases z))]
                    exact e
                  rw [List.map_append]
                  exact ((PA2.same fun t ys e => s3 _ _ e).same keep).snoc (keep _ _ ett)
              · rintro H9 ⟨s9, ts2, rs2, eD, hrs, PA2⟩
                rw [List.length_map, List.take_length] at hrs
                have hl2 : rs2.length ≤ 2000 := by
                  rw [hrs.len]
                  exact hnl
                have hl3 : ts2.length ≤ 2000 := by
                  rw [PA2.len, List.length_map]
                  exact hl2
                have eR9 := s9 _ _ eR7
                refine ⟨R, D, _, _, rfl, rfl, eR9, eD, ?_, ?_⟩
                · simp only [List.length_map]
                  exact sizeLine_le (by omega)
                have keep : ∀ (c : Addr) (ys : List V), H9 c = some (.tup ys) → (upd H9 R (.lst (ts.map V.ref ++ ts2.map V.ref))) c = some (.tup ys) := fun c ys z => by
                  rw [upd_ne (ne_of z eR9 (by intro z; cases z))]
                  exact z
                refine fin _ _ ⟨ts ++ ts2, rs ++ rs2, fun c o z => ?_, ?_, ?_, RB.part (e' := begL b n (L + 1)) hb hnf hg0 (by omega) (by omega) (fun r hr => ?_) ?_ (fun k hk => ?_), ?_⟩
                · rw [upd_ne (ne_of_none z hR0)]
                  exact s9 _ _ (s7b _ _ z)
                · rw [upd_same, List.map_append]
                · rw [List.map_append]
                  exact PairsAt.app (PA2.same keep) (((PA.same fun c ys z => s7 _ _ z).same fun c ys z => s9 _ _ z).same keep)
                · have z := hE.1 r.2 (by rw [← hrs.1]; exact List.mem_map_of_mem hr)
                  exact ⟨z.1, by omega, hrs.2 r hr⟩
                · rw [hrs.1]
                  exact hE.2.1
                · rw [hrs.1]
                  exact hE.2.2 k (by omega)
                · rw [List.length_append]
                  omega
        · rintro y H5 ⟨ts', rs', s5, eR5, PA5, RB5, hlen5⟩
          refine ⟨_, rfl, _, rfl, max f (begL b n L), (n / (b ^ L * b) + 1) * b ^ L * b, rfl, _, rfl, _, rfl, b ^ L, b, rfl, rfl, nmul_r (by omega), _, rfl, L, 1, rfl, rfl, trivial, ⟨L + 1, ts', rs', some (.int (begL b n (L + 1) : Nat)), y, ?_, s5, eR5, PA5, RB5, hL2, hlen5⟩, dec0⟩
          show [some (V.int (b : Nat)), some (V.int (n : Nat)), some (V.int (f : Nat)), some (V.int (h : Nat)), some (V.ref R), some (V.int ((b ^ L * b : Nat) : Int)), some (V.int ((L + 1 : Nat) : Int)), some (V.int ((max (max f (begL b n L)) ((n / (b ^ L * b) + 1) * b ^ L * b) : Nat) : Int)), some (V.int (((n / (b ^ L * b) + 1) * b ^ L * b : Nat) : Int)), y, none] = _
          rw [begL_eq, emax, hpow]
      · have hge : h ≤ begL b n L := by
          have z := of_decide_eq_false (eq_false_of_ne_true e)
          omega
        have z0 : (rs.map negP) ≠ [] := fun z => RB.ne hb hnf hfh hge (List.map_eq_nil_iff.mp z)
        have item : ∀ {i : Nat} {x : V} {p0 : Int × Int}, (ts.map V.ref)[i]? = some x → (rs.map negP)[i]? = some p0 → (∀ y ∈ rs.map negP, PLe p0 y) → ∃ (t : Addr) (M D : Nat), x = .ref t ∧ H' t = some (.tup [.int (-(M : Int)), .int (D : Int)]) ∧ Best b n f h M D := fun {i x p0} hx hp0 hm => by
          obtain ⟨t, pr, rfl, hp, et⟩ := PA.item hx
          obtain rfl : pr = p0 := Option.some.inj (hp.symm.trans hp0)
          obtain ⟨M, D2, rfl, B⟩ := min_rows RB hge hp0 hm
          exact ⟨t, M, D2, rfl, et, B⟩
        refine ⟨_, rfl, R, _, rs.map negP, rfl, SqL.of eR, PA.dp, z0, fun i x p0 hx hp0 hm => ?_⟩
        obtain ⟨t, M, D, rfl, et, B⟩ := item hx hp0 hm
        refine ⟨t, _, 0, _, rfl, rfl, SqT.of et, rfl, 0, _, rfl, rfl, ?_⟩
        refine ⟨_, rfl, R, _, rs.map negP, rfl, SqL.of eR, PA.dp, z0, fun i2 x2 p2 hx2 hp2 hm2 => ?_⟩
        obtain ⟨t2, M2, D2, rfl, et2, B2⟩ := item hx2 hp2 hm2
        obtain ⟨rfl, rfl⟩ := B.uniq B2
        refine ⟨t2, _, 1, _, rfl, rfl, SqT.of et2, rfl, by simp [sizeLine_eq], fun p5 hp5 => ?_⟩
        have s5 := sm.trans (same_upd (o := .tup [.int (0 - -(M : Int)), .int (D : Nat)]) hp5)
        refine q M D _ p5 B s5 (sm.free hp5) ?_
        rw [upd_same]
        have z : 0 - -(M : Int) = (M : Int) := by omega
        show some (HO.tup [V.int (0 - -(M : Int)), _]) = _
        rw [z]
    · rintro σ H' Q1 Q2 h ⟨x, hx, y, hy, i, j, e1, e2, k, e, z⟩
      exact ⟨x, hx, y, hy, i, j, e1, e2, k, e, h _ _ z⟩
end
/-! ### the law's drawing of numbers -/
def SrcAt (H : Hp) (p : Addr) : Prop := ∃ a b c : Int, H p = some (.lst [.int a, .int b, .int c])
/-- all but the source p stands as it was; p is a source again -/
structure Stp (p : Addr) (H H' : Hp) : Prop where
  keep : ∀ q o, q ≠ p → H q = some o → H' q = some o
  src : SrcAt H' p
theorem Stp.refl {p : Addr} {H : Hp} (h : SrcAt H p) : Stp p H H := ⟨fun _ _ _ e => e, h⟩
theorem Stp.trans {p : Addr} {H H1 H2 : Hp} (a : Stp p H H1) (b : Stp p H1 H2) : Stp p H H2 := ⟨fun q o n e => b.keep q o n (a.keep q o n e), b.src⟩
theorem Stp.same {p : Addr} {H H1 H2 : Hp} (a : Stp p H H1) (b : Same H1 H2) : Stp p H H2 := by
  obtain ⟨x, y, z, e⟩ := a.src
  exact ⟨fun q o n e => b q o (a.keep q o n e), ⟨x, y, z, b _ _ e⟩⟩
theorem SrcAt.same {p : Addr} {H H' : Hp} (h : SrcAt H p) (s : Same H H') : SrcAt H' p := by
  obtain ⟨a, b, c, e⟩ := h
  exact ⟨a, b, c, s _ _ e⟩
theorem Stp.free {p q : Addr} {H H' : Hp} (a : Stp p H H') (hq : H' q = none) : H q = none := by
  cases e : H q with
  | none => rfl
  | some o =>
    by_cases z : q = p
    · obtain ⟨x, y, u, w⟩ := a.src
      rw [z, w] at hq
      cases hq
    · rw [a.keep q o z e] at hq
      cases hq
theorem SrcAt.ne {H : Hp} {p l : Addr} (h : SrcAt H p) (hl : H l = none) : l ≠ p := fun e => by
  obtain ⟨x, y, z, w⟩ := h
  rw [e, w] at hl
  cases hl
theorem SrcAt.stp_same {p : Addr} {H H' : Hp} (h : SrcAt H p) (s : Same H H') : Stp p H H' := (Stp.refl h).same s
theorem Stp.seqL {K : PySem.W.Frag} {p a : Addr} {xs : List V} {H H' : Hp} (s : Stp p H H') (n : a ≠ p) (h : SqL K H a xs) : SqL K H' a xs := by
  rcases h with (h | ⟨o, h⟩) | h
  · exact .inl (.inl (s.keep _ _ n h))
  · exact .inl (.inr ⟨o, s.keep _ _ n h⟩)
  · exact .inr h
section
variable {P : Program} {w : World} {K : PySem.W.Frag} {mg : Str → Option Value} {base : Heap}
def spCellAt (K : PySem.W.Frag) : Sp := fun vs H Q _ => ∃ (a : Addr) (ns : List Int) (k : Nat), vs = [.ref a, .int (k : Nat)] ∧ SqL K H a (ns.map V.int) ∧ ∀ v : Int, Q (.int v) H
theorem ok_cell_at {f : Addr} {fd : FuncData} (F : Fun K "_law_cell_at" "_law_cell_at" s__law_cell_at f fd) (T : Tx K mg) : FnOk P w K mg base CX0 1 f fd ["_law_script", "_law_k"] (spCellAt K) := by
  refine F.ok sc__law_cell_at (fun vs H Q E h => ?_) (fun cdv A outer s H vs Q E hr h => ?_)
  · obtain ⟨a, ns, k, rfl, _⟩ := h
    rfl
  · obtain ⟨a, ns, k, rfl, hS, q⟩ := h
    refine ⟨_, (pss_cons (ps_if (pt_cmpR op_lt (pv 1) (pe_callB (lenK (K := K) rfl) (by rfl) T.b_len PySem.boot_len (pa_cons (pv 0) pa_nil)) (nomark _))
        (pss_one (ps_ret (pe_ix (ix_listK (K := K) rfl) (pv 0) (pv 1) (fun _ _ => rfl))))
        pss_nil)
      (pss_one (ps_ret pe_int))), ?_⟩
    refine ⟨_, rfl, .ref a, rfl, a, ns.map V.int, rfl, .inl hS, _, _, rfl, rfl, _, rfl, ite2 (fun e => ?_) (fun e => ?_)⟩
    · have hk : k < ns.length := by
        have z := of_decide_eq_true e
        rw [List.length_map] at z
        omega
      have g : (ns.map V.int)[k]? = some (.int ns[k]) := by
        rw [List.getElem?_map, List.getElem?_eq_getElem hk]
        rfl
      exact ⟨.ref a, rfl, _, rfl, a, _, _, _, rfl, rfl, hS, atI_nat g, q _⟩
    · exact q 0
def spMixed : Sp := fun vs H Q _ => ∃ c k : Int, vs = [.int c, .int k] ∧ ∀ r : Int, 0 ≤ r → r < 2147483563 → Q (.int r) H
theorem ok_mixed {f : Addr} {fd : FuncData} (F : Fun K "_law_mixed" "_law_mixed" s__law_mixed f fd) : FnOk P w K mg base CX0 1 f fd ["_law_cell", "_law_k"] spMixed := by
  refine F.ok sc__law_mixed (fun vs H Q E h => ?_) (fun cdv A outer s H vs Q E hr h => ?_)
  · obtain ⟨c, k, rfl, _⟩ := h
    rfl
  · obtain ⟨c, k, rfl, q⟩ := h
    refine ⟨_, (pss_cons (ps_set (i := 2) sc__law_mixed.nd rfl (.inl rfl) (pe_op op_add (pe_op op_mod (pv 0) pe_int) (pe_op op_mulA (pe_op op_fdivW (pv 0) pe_int) pe_int)))
      (pss_cons (ps_set (i := 2) sc__law_mixed.nd rfl (.inl rfl) (pe_op op_mod (pe_op op_mulA (pe_op op_add (pe_op op_add (pv 2) (pe_op op_mulA pe_int (pv 1))) pe_int) pe_int) pe_int))
      (pss_cons (ps_set (i := 2) sc__law_mixed.nd rfl (.inl rfl) (pe_op op_mod (pe_op op_mulA (pv 2) (pe_op op_add (pe_op op_add (pe_op op_fdivW (pv 2) pe_int) pe_int) (pv 1))) pe_int))
      (pss_one (ps_ret (pe_op op_mod (pe_op op_mulA (pv 2) (pe_op op_add (pe_op op_fdivW (pv 2) pe_int) pe_int)) pe_int)))))), ?_⟩
    refine ⟨_, rfl, c, 2147483629, rfl, rfl, (by decide : (0 : Int) < 2147483629), _, rfl, c, 2147483629, rfl, rfl, div_s (by decide) (by decide), _, 30011, rfl, rfl, mul_r (by decide) (by decide), _, _, rfl, rfl, ?_⟩
    refine ⟨_, rfl, _, rfl, 69621, k, rfl, rfl, mul_l (by decide) (by decide), _, _, rfl, rfl, _, 1, rfl, rfl, _, 48271, rfl, rfl, mul_r (by decide) (by decide), _, 2147483629, rfl, rfl, (by decide : (0 : Int) < 2147483629), ?_⟩
    generalize hl : (c % 2147483629 + c / 2147483629 * 30011 + 69621 * k + 1) * 48271 = l0
    have b1 : 0 ≤ l0 % 2147483629 := Int.emod_nonneg _ (by decide)
    have b2 : l0 % 2147483629 < 2147483629 := Int.emod_lt_of_pos _ (by decide)
    refine ⟨_, rfl, _, rfl, l0 % 2147483629, 907, rfl, rfl, div_s (by decide) (by decide), _, 16831, rfl, rfl, _, rfl, _, k, rfl, rfl, l0 % 2147483629, _, rfl, rfl, mul_l (by omega) (by omega), _, 2147483587, rfl, rfl, (by decide : (0 : Int) < 2147483587), ?_⟩
    generalize (l0 % 2147483629) * (l0 % 2147483629 / 907 + 16831 + k) = l1
    have b3 : 0 ≤ l1 % 2147483587 := Int.emod_nonneg _ (by decide)
    have b4 : l1 % 2147483587 < 2147483587 := Int.emod_lt_of_pos _ (by decide)
    refine ⟨_, rfl, _, rfl, _, 1201, rfl, rfl, div_s (by decide) (by decide), _, 30011, rfl, rfl, _, _, rfl, rfl, mul_l (i := l1 % 2147483587) (by omega) (by omega), _, 2147483563, rfl, rfl, (by decide : (0 : Int) < 2147483563), ?_⟩
    exact q _ (Int.emod_nonneg _ (by decide)) (Int.emod_lt_of_pos _ (by decide))
def spSource (K : PySem.W.Frag) : Sp := fun vs H Q _ => ∃ (a : Addr) (ns : List Int) (k : Nat), vs = [.ref a, .int (k : Nat)] ∧ SqL K H a (ns.map V.int) ∧ ∀ H' p, Same H H' → H p = none → SrcAt H' p → Q (.ref p) H'
theorem ok_source {f : Addr} {fd : FuncData} (F : Fun K "_law_source" "_law_source" s__law_source f fd) (T : Tx K mg) (h1 : Has P w K mg base 1 "_law_cell_at" ["_law_script", "_law_k"] [] (spCellAt K))
    (h2 : Has P w K mg base 1 "_law_mixed" ["_law_cell", "_law_k"] [] spMixed) : FnOk P w K mg base CX0 2 f fd ["_law_script", "_law_k"] (spSource K) := by
  obtain ⟨f__law_cell_at, fd__law_cell_at, ds__law_cell_at, G__law_cell_at, m__law_cell_at, k__law_cell_at, b__law_cell_at, v__law_cell_at⟩ := h1
  obtain ⟨f__law_mixed, fd__law_mixed, ds__law_mixed, G__law_mixed, m__law_mixed, k__law_mixed, b__law_mixed, v__law_mixed⟩ := h2
  refine F.ok sc__law_source (fun vs H Q E h => ?_) (fun cdv A outer s H vs Q E hr h => ?_)
  · obtain ⟨a, ns, k, rfl, _⟩ := h
    rfl
  · obtain ⟨a, ns, k, rfl, hS, q⟩ := h
    refine ⟨_, (pss_cons (ps_if (pt_cmpR op_lt (pv 1) (pe_callB (lenK (K := K) rfl) (by rfl) T.b_len PySem.boot_len (pa_cons (pv 0) pa_nil)) (nomark _))
        (pss_one (ps_ret (pe_lst (pa_cons (pe_ix (ix_listK (K := K) rfl) (pv 0) (pv 1) (fun _ _ => rfl)) (pa_cons (pe_ix (ix_listK (K := K) rfl) (pv 0) (pv 1) (fun _ _ => rfl)) (pa_cons pe_int pa_nil))))))
        pss_nil)
      (pss_cons (ps_set (i := 2) sc__law_source.nd rfl (.inl rfl) (pe_call G__law_mixed hr (by rfl) m__law_mixed k__law_mixed b__law_mixed v__law_mixed pass0 (pa_cons (pe_call G__law_cell_at hr (by rfl) m__law_cell_at k__law_cell_at b__law_cell_at v__law_cell_at pass0 (pa_cons (pv 0) (pa_cons pe_int pa_nil))) (pa_cons (pe_op op_add pe_int (pv 1)) pa_nil))))
      (pss_one (ps_ret (pe_lst (pa_cons (pv 2) (pa_cons (pv 2) (pa_cons pe_int pa_nil)))))))), ?_⟩
    refine ⟨_, rfl, .ref a, rfl, a, ns.map V.int, rfl, .inl hS, _, _, rfl, rfl, _, rfl, ite2 (fun e => ?_) (fun e => ?_)⟩
    · have hk : k < ns.length := by
        have z := of_decide_eq_true e
        rw [List.length_map] at z
        omega
      have g : (ns.map V.int)[k]? = some (.int ns[k]) := by
        rw [List.getElem?_map, List.getElem?_eq_getElem hk]
        rfl
      refine ⟨.ref a, rfl, _, rfl, a, _, _, _, rfl, rfl, hS, atI_nat g, .ref a, rfl, _, rfl, a, _, _, _, rfl, rfl, hS, atI_nat g, by simp [sizeLine_eq], fun p hp => ?_⟩
      exact q _ p (same_upd hp) hp ⟨_, _, _, upd_same⟩
    · refine ⟨.ref a, rfl, a, ns, 0, rfl, hS, fun v => ⟨_, rfl, 1000, _, rfl, rfl, v, _, rfl, fun r _ _ => ?_⟩⟩
      refine ⟨_, rfl, _, rfl, by simp [sizeLine_eq], fun p hp => ?_⟩
      exact q _ p (same_upd hp) hp ⟨_, _, _, upd_same⟩
def spNext : Sp := fun vs H Q _ => ∃ (p : Addr) (m : Int), vs = [.ref p, .int m] ∧ 0 < m ∧ m < 2 ^ 300 ∧ SrcAt H p ∧ ∀ (r : Nat) H', (r : Int) < m → Stp p H H' → Q (.int (r : Nat)) H'
theorem ok_next {f : Addr} {fd : FuncData} (F : Fun K "_law_next" "_law_next" s__law_next f fd) (h2 : Has P w K mg base 1 "_law_mixed" ["_law_cell", "_law_k"] [] spMixed) : FnOk P w K mg base CX0 2 f fd ["_law_source_here", "_law_many"] spNext := by
  obtain ⟨f__law_mixed, fd__law_mixed, ds__law_mixed, G__law_mixed, m__law_mixed, k__law_mixed, b__law_mixed, v__law_mixed⟩ := h2
  refine F.ok sc__law_next (fun vs H Q E h => ?_) (fun cdv A outer s H vs Q E hr h => ?_)
  · obtain ⟨p, m, rfl, _⟩ := h
    rfl
  · obtain ⟨p, m, rfl, hm, hm2, ⟨a, b, c, hp⟩, q⟩ := h
    have fin : ∀ (x : Int) (H' : Hp), Stp p H H' → Q (.int (x % m)) H' := fun x H' s => by
      have h0 : 0 ≤ x % m := Int.emod_nonneg _ (by omega)
      have h1 : x % m < m := Int.emod_lt_of_pos _ hm
      have e : ((x % m).toNat : Int) = x % m := Int.toNat_of_nonneg h0
      have z := q (x % m).toNat H' (by omega) s
      rw [e] at z
      exact z
    have st : ∀ x y z : Int, Stp p H (upd H p (.lst [.int x, .int y, .int z])) := fun x y z => ⟨fun q o n e => by rw [upd_ne n]; exact e, ⟨x, y, z, upd_same⟩⟩
    refine ⟨_, (pss_cons (ps_if (pt_cmpR op_ge (pe_ix (ix_listK (K := K) rfl) (pv 0) pe_int (fun _ _ => rfl)) (pe_op op_pow pe_int pe_int) (nomark _))
        (pss_cons (ps_set (i := 2) sc__law_next.nd rfl (.inl rfl) (pe_op op_mod (pe_ix (ix_listK (K := K) rfl) (pv 0) pe_int (fun _ _ => rfl)) (pv 1)))
        (pss_cons (ps_asg (pe_op op_fdivW (pe_ix (ix_listK (K := K) rfl) (pv 0) pe_int (fun _ _ => rfl)) (pv 1)) (pg_sub (pv 0) pe_int set_list))
        (pss_one (ps_ret (pv 2)))))
        pss_nil)
      (pss_cons (ps_asg (pe_op op_add (pe_ix (ix_listK (K := K) rfl) (pv 0) pe_int (fun _ _ => rfl)) pe_int) (pg_sub (pv 0) pe_int set_list))
      (pss_one (ps_ret (pe_op op_mod (pe_call G__law_mixed hr (by rfl) m__law_mixed k__law_mixed b__law_mixed v__law_mixed pass0 (pa_cons (pe_ix (ix_listK (K := K) rfl) (pv 0) pe_int (fun _ _ => rfl)) (pa_cons (pe_ix (ix_listK (K := K) rfl) (pv 0) pe_int (fun _ _ => rfl)) pa_nil))) (pv 1)))))), ?_⟩
    refine ⟨.ref p, rfl, p, _, 0, .int a, rfl, rfl, SqL.of hp, atI_nat (j := 0) rfl, 10, 18, rfl, rfl, ⟨by decide, by decide, by decide⟩, a, _, rfl, rfl, _, rfl, ite2 (fun _ => ?_) (fun _ => ?_)⟩
    · refine ⟨.ref p, rfl, p, _, 0, .int a, rfl, rfl, SqL.of hp, atI_nat (j := 0) rfl, .int m, rfl, a, m, rfl, rfl, hm, ?_⟩
      refine ⟨.ref p, rfl, p, _, 0, .int a, rfl, rfl, SqL.of hp, atI_nat (j := 0) rfl, .int m, rfl, a, m, rfl, rfl, div_s hm hm2, ?_⟩
      refine ⟨.ref p, rfl, p, _, 0, 0, rfl, rfl, hp, rfl, ?_⟩
      exact ⟨_, rfl, fin a _ (st _ _ _)⟩
    · refine ⟨.ref p, rfl, p, _, 2, .int c, rfl, rfl, SqL.of hp, atI_nat (j := 2) rfl, c, 1, rfl, rfl, ?_⟩
      refine ⟨.ref p, rfl, p, _, 2, 2, rfl, rfl, hp, rfl, ?_⟩
      have h2 : (upd H p (.lst [.int a, .int b, .int (c + 1)])) p = some (.lst [.int a, .int b, .int (c + 1)]) := upd_same
      refine ⟨.ref p, rfl, p, _, 1, .int b, rfl, rfl, SqL.of h2, atI_nat (j := 1) rfl, .ref p, rfl, p, _, 2, .int (c + 1), rfl, rfl, SqL.of h2, atI_nat (j := 2) rfl, b, c + 1, rfl, fun r _ _ => ?_⟩
      exact ⟨.int m, rfl, r, m, rfl, rfl, hm, fin r _ (st _ _ _)⟩
end
/-! ### the law's bases -/
section
variable {P : Program} {w : World} {K : PySem.W.Frag} {mg : Str → Option Value} {base : Heap}
def spBase : Sp := fun vs H Q _ => ∃ (p : Addr), vs = [.ref p] ∧ SrcAt H p ∧ ∀ (b : Nat) H', 2 ≤ b → b ≤ 64 → Stp p H H' → Q (.int (b : Nat)) H'
theorem ok_base {f : Addr} {fd : FuncData} (F : Fun K "_law_base" "_law_base" s__law_base f fd) (h1 : Has P w K mg base 2 "_law_next" ["_law_source_here", "_law_many"] [] spNext) : FnOk P w K mg base CX0 3 f fd ["_law_source_here"] spBase := by
  obtain ⟨f__law_next, fd__law_next, ds__law_next, G__law_next, m__law_next, k__law_next, b__law_next, v__law_next⟩ := h1
  refine F.ok sc__law_base (fun vs H Q E h => ?_) (fun cdv A outer s H vs Q E hr h => ?_)
  · obtain ⟨p, rfl, _⟩ := h
    rfl
  · obtain ⟨p, rfl, hs, q⟩ := h
    refine ⟨_, (pss_one (ps_ret (pe_ix (ix_listK (K := K) rfl) (pe_lst (pa_cons pe_int (pa_cons pe_int (pa_cons pe_int (pa_cons pe_int (pa_cons pe_int (pa_cons pe_int (pa_cons pe_int (pa_cons pe_int (pa_cons pe_int pa_nil)))))))))) (pe_call G__law_next hr (by rfl) m__law_next k__law_next b__law_next v__law_next pass0 (pa_cons (pv 0) (pa_cons pe_int pa_nil))) (fun _ _ => rfl)))), ?_⟩
    refine ⟨by simp [sizeLine_eq], fun l hl => ?_⟩
    have s1 := same_upd (o := .lst [.int 2, .int 3, .int 4, .int 5, .int 7, .int 10, .int 16, .int 63, .int 64]) hl
    have nlp : l ≠ p := fun e => by
      obtain ⟨x, y, z, h⟩ := hs
      rw [e, h] at hl
      cases hl
    refine ⟨_, rfl, p, 9, rfl, by decide, by decide, hs.same s1, fun r H' hr9 st => ?_⟩
    have eL := st.keep _ _ nlp upd_same
    have hst : Stp p H H' := (hs.stp_same s1).trans st
    have hr : r < 9 := by omega
    have all : ∀ j : Nat, j < 9 → ∃ b : Nat, ([.int 2, .int 3, .int 4, .int 5, .int 7, .int 10, .int 16, .int 63, .int 64] : List V)[j]? = some (.int (b : Nat)) ∧ 2 ≤ b ∧ b ≤ 64 := by
      intro j hj
      match j, hj with
      | 0, _ => exact ⟨2, rfl, by decide, by decide⟩
      | 1, _ => exact ⟨3, rfl, by decide, by decide⟩
      | 2, _ => exact ⟨4, rfl, by decide, by decide⟩
      | 3, _ => exact ⟨5, rfl, by decide, by decide⟩
      | 4, _ => exact ⟨7, rfl, by decide, by decide⟩
      | 5, _ => exact ⟨10, rfl, by decide, by decide⟩
      | 6, _ => exact ⟨16, rfl, by decide, by decide⟩
      | 7, _ => exact ⟨63, rfl, by decide, by decide⟩
      | 8, _ => exact ⟨64, rfl, by decide, by decide⟩
      | j + 9, h => omega
    obtain ⟨b, eb, b2, b64⟩ := all r hr
    exact ⟨l, _, r, .int (b : Nat), rfl, rfl, SqL.of eL, atI_nat eb, q b H' b2 b64 hst⟩
end
/-! ### the law's ticks -/
theorem emod_le_self {a m : Int} (h : 0 ≤ a) (hm : 0 < m) : a % m ≤ a := by
  have e := Int.emod_add_mul_ediv a m
  have z : 0 ≤ m * (a / m) := Int.mul_nonneg (Int.le_of_lt hm) (Int.ediv_nonneg h (Int.le_of_lt hm))
  omega
theorem pow64_le {b j : Nat} (h : b ≤ 64) (hj : j ≤ 30) : b ^ j < 2 ^ 181 := by
  have h1 : b ^ j ≤ 64 ^ j := Nat.pow_le_pow_left h j
  have h2 : (64 : Nat) ^ j ≤ 64 ^ 30 := Nat.pow_le_pow_right (by decide) hj
  have h3 : (64 : Nat) ^ 30 < 2 ^ 181 := by decide
  omega
section
variable {P : Program} {w : World} {K : PySem.W.Frag} {mg : Str → Option Value} {base : Heap}
/-- a pick of a list of two, by a number less than 2 -/
theorem pick2 {x y : V} {r : Nat} (h : r < 2) : ([x, y] : List V)[r]? = some (if r = 0 then x else y) := by
  match r, h with
  | 0, _ => rfl
  | 1, _ => rfl
  | r + 2, h => omega
def spTick : Sp := fun vs H Q _ => ∃ (p : Addr) (b : Nat), vs = [.ref p, .int (b : Nat)] ∧ 2 ≤ b ∧ b ≤ 64 ∧ SrcAt H p ∧ ∀ (t : Nat) H', t < 2 ^ 190 → Stp p H H' → Q (.int (t : Nat)) H'
theorem ok_tick {f : Addr} {fd : FuncData} (F : Fun K "_law_tick" "_law_tick" s__law_tick f fd) (T : Tx K mg) (h1 : Has P w K mg base 2 "_law_next" ["_law_source_here", "_law_many"] [] spNext) : FnOk P w K mg base CX0 3 f fd ["_law_source_here", "_law_base_here"] spTick := by
  obtain ⟨f__law_next, fd__law_next, ds__law_next, G__law_next, m__law_next, k__law_next, b__law_next, v__law_next⟩ := h1
  refine F.ok sc__law_tick (fun vs H Q E h => ?_) (fun cdv A outer s H vs Q E hr h => ?_)
  · obtain ⟨p, b, rfl, _⟩ := h
    rfl
  · obtain ⟨p, b, rfl, hb2, hb64, hs, q⟩ := h
    have two : ∀ {H : Hp} {l : Addr} {o : HO}, SrcAt H p → H l = none → Stp p H (upd H l o) ∧ l ≠ p := fun {H l o} hs hl =>
      ⟨hs.stp_same (same_upd hl), fun e => by
        obtain ⟨x, y, z, h⟩ := hs
        rw [e, h] at hl
        cases hl⟩
    refine ⟨_, (pss_cons (ps_set (i := 2) sc__law_tick.nd rfl (.inl rfl) (pe_call G__law_next hr (by rfl) m__law_next k__law_next b__law_next v__law_next pass0 (pa_cons (pv 0) (pa_cons pe_int pa_nil))))
      (pss_cons (ps_if (pt_cmpR op_lt (pv 2) pe_int (nomark _))
        (pss_one (ps_ret (pe_call G__law_next hr (by rfl) m__law_next k__law_next b__law_next v__law_next pass0 (pa_cons (pv 0) (pa_cons (pe_ix (ix_listK (K := K) rfl) (pe_lst (pa_cons pe_int (pa_cons pe_int pa_nil))) (pv 2) (fun _ _ => rfl)) pa_nil)))))
        pss_nil)
      (pss_cons (ps_set (i := 3) sc__law_tick.nd rfl (.inl rfl) pe_int)
      (pss_cons (ps_for PassesOwn.never rfl (pi_range1 (by rfl) T.b_range (pa_cons (pe_call G__law_next hr (by rfl) m__law_next k__law_next b__law_next v__law_next pass0 (pa_cons (pv 0) (pa_cons (pe_ix (ix_listK (K := K) rfl) (pe_lst (pa_cons pe_int (pa_cons pe_int pa_nil))) (pe_call G__law_next hr (by rfl) m__law_next k__law_next b__law_next v__law_next pass0 (pa_cons (pv 0) (pa_cons pe_int pa_nil))) (fun _ _ => rfl)) pa_nil))) pa_nil)) (pg_name (i := 4) sc__law_tick.nd rfl (.inl rfl))
        (pss_one (ps_set (i := 3) sc__law_tick.nd rfl (.inl rfl) (pe_op op_mulA (pv 3) (pv 1)))))
      (pss_cons (ps_set (i := 3) sc__law_tick.nd rfl (.inl rfl) (pe_op op_mod (pv 3) (pe_op op_pow pe_int pe_int)))
      (pss_cons (ps_if (pt_cmpR op_eq (pv 2) pe_int (nomark _))
        (pss_one (ps_ret (pe_callB (call_max2 rfl) (by rfl) T.b_max (by decide +kernel) (pa_cons pe_int (pa_cons (pe_op op_sub (pe_op op_add (pv 3) (pe_call G__law_next hr (by rfl) m__law_next k__law_next b__law_next v__law_next pass0 (pa_cons (pv 0) (pa_cons pe_int pa_nil)))) pe_int) pa_nil)))))
        pss_nil)
      (pss_cons (ps_if (pt_cmpR op_eq (pv 2) pe_int (nomark _))
        (pss_one (ps_ret (pe_op op_add (pe_op op_mulA (pv 3) (pe_op op_add pe_int (pe_call G__law_next hr (by rfl) m__law_next k__law_next b__law_next v__law_next pass0 (pa_cons (pv 0) (pa_cons (pv 1) pa_nil))))) (pe_call G__law_next hr (by rfl) m__law_next k__law_next b__law_next v__law_next pass0 (pa_cons (pv 0) (pa_cons (pv 1) pa_nil))))))
        pss_nil)
      (pss_one (ps_ret (pe_op op_add (pe_op op_mulA (pe_call G__law_next hr (by rfl) m__law_next k__law_next b__law_next v__law_next pass0 (pa_cons (pv 0) (pa_cons (pe_op op_pow pe_int pe_int) pa_nil))) (pe_op op_pow pe_int pe_int)) (pe_call G__law_next hr (by rfl) m__law_next k__law_next b__law_next v__law_next pass0 (pa_cons (pv 0) (pa_cons (pe_op op_pow pe_int pe_int) pa_nil))))))))))))), ?_⟩
    -- sort = next(source, 5)
    refine ⟨_, rfl, p, 5, rfl, by decide, by decide, hs, fun r0 H1 hr0 s1 => ?_⟩
    refine ⟨_, rfl, _, 2, rfl, rfl, _, rfl, ite2 (fun e => ?_) (fun e0 => ?_)⟩
    · -- near ones
      have hr2 : r0 < 2 := by
        have z := of_decide_eq_true e
        omega
      refine ⟨_, rfl, by simp [sizeLine_eq], fun l hl => ?_⟩
      obtain ⟨s2, nl⟩ := two (o := .lst [.int 6, .int 400]) s1.src hl
      refine ⟨_, rfl, l, _, r0, _, rfl, rfl, SqL.of upd_same, atI_nat (pick2 hr2), p, if r0 = 0 then 6 else 400, ?_, ?_, ?_, s2.src, fun r H2 hr s3 => ?_⟩
      · show [V.ref p, if r0 = 0 then V.int 6 else V.int 400] = _
        split <;> rfl
      · split <;> decide
      · split <;> decide
      · refine q r H2 ?_ ((s1.trans s2).trans s3)
        have z : r < 400 := by
          split at hr <;> omega
        exact Nat.lt_trans z (by decide)
    · -- size = 1; for at in range(next(..)): size = size * base
      refine ⟨_, rfl, by simp [sizeLine_eq], fun l hl => ?_⟩
      obtain ⟨s2, nl⟩ := two (o := .lst [.int 4, .int 30]) s1.src hl
      refine ⟨_, rfl, p, 2, rfl, by decide, by decide, s2.src, fun r1 H2 hr1 s3 => ?_⟩
      have eL : H2 l = some (.lst [.int 4, .int 30]) := s3.keep _ _ nl upd_same
      refine ⟨l, _, r1, _, rfl, rfl, SqL.of eL, atI_nat (pick2 (by omega)), p, if r1 = 0 then 4 else 30, ?_, ?_, ?_, s3.src, fun r2 H3 hr2 s4 => ?_⟩
      · show [V.ref p, if r1 = 0 then V.int 4 else V.int 30] = _
        split <;> rfl
      · split <;> decide
      · split <;> decide
      have hr30 : r2 < 30 := by
        split at hr2 <;> omega
      have s14 := ((s1.trans s2).trans s3).trans s4
      refine ⟨_, rfl, by omega, by omega, for_range (Pv := fun i σ H' => H' = H3 ∧ ∃ y, σ = [some (.ref p), some (.int (b : Nat)), some (.int (r0 : Nat)), some (.int ((b ^ i : Nat) : Int)), y]) ⟨rfl, none, rfl⟩ ?_ ?_⟩
      · rintro i σ H' hi ⟨rfl, y, rfl⟩
        have hi30 : i < 30 := by omega
        have hb : b ^ i < 2 ^ 181 := pow64_le hb64 (by omega)
        refine ⟨_, rfl, _, rfl, _, _, rfl, rfl, mul_r (by omega) (by omega), ?_⟩
        refine ⟨rfl, some (.int (0 + (i : Int))), ?_⟩
        rw [Nat.pow_succ, Int.natCast_mul]
        rfl
      · rintro σ H' ⟨rfl, y, rfl⟩
        have h58 : (0 : Int) < (10 : Int) ^ (58 : Int).toNat := by decide
        refine ⟨_, rfl, 10, 58, rfl, rfl, ⟨by decide, by decide, by decide⟩, _, _, rfl, rfl, h58, ?_⟩
        generalize hz : (((b ^ ((r2 : Nat) : Int).toNat : Nat) : Int) % (10 : Int) ^ (58 : Int).toNat) = z
        have z0 : 0 ≤ z := by
          rw [← hz]
          exact Int.emod_nonneg _ (by decide)
        have z1 : z < 2 ^ 181 := by
          rw [← hz]
          refine Int.lt_of_le_of_lt (emod_le_self (by omega) (by decide)) ?_
          have := pow64_le (j := ((r2 : Nat) : Int).toNat) hb64 (by omega)
          omega
        -- sort == 2
        refine ⟨_, rfl, rfl, _, rfl, ite2 (fun _ => ?_) (fun _ => ?_)⟩
        · refine ⟨_, rfl, _, rfl, p, 3, rfl, by decide, by decide, s14.src, fun r3 H4 hr3 s5 => ?_⟩
          refine ⟨z, r3, congrArg V.int hz, rfl, _, 1, rfl, rfl, 0, _, rfl, ?_⟩
          have e3 : (if z + (r3 : Int) - 1 > 0 then z + (r3 : Int) - 1 else 0) = (((if z + (r3 : Int) - 1 > 0 then z + (r3 : Int) - 1 else 0).toNat : Nat) : Int) := by
            split <;> omega
          show Q (.int (if z + (r3 : Int) - 1 > 0 then z + (r3 : Int) - 1 else 0)) H4
          rw [e3]
          refine q _ H4 ?_ (s14.trans s5)
          split <;> omega
        · refine ⟨_, rfl, rfl, _, rfl, ite2 (fun _ => ?_) (fun _ => ?_)⟩
          · refine ⟨_, rfl, _, rfl, _, rfl, p, b, rfl, by omega, by omega, s14.src, fun r3 H4 hr3 s5 => ?_⟩
            refine ⟨1, r3, rfl, rfl, z, _, congrArg V.int hz, rfl, mul_r (by omega) (by omega), _, rfl, _, rfl, p, b, rfl, by omega, by omega, s5.src, fun r4 H5 hr4 s6 => ?_⟩
            refine ⟨_, _, rfl, rfl, ?_⟩
            have zr : z * (1 + (r3 : Int)) ≤ z * 65 := Int.mul_le_mul_of_nonneg_left (by omega) z0
            have zr0 : 0 ≤ z * (1 + (r3 : Int)) := Int.mul_nonneg z0 (by omega)
            have e3 : z * (1 + (r3 : Int)) + (r4 : Int) = (((z * (1 + (r3 : Int)) + (r4 : Int)).toNat : Nat) : Int) := by omega
            show Q (.int (z * (1 + (r3 : Int)) + (r4 : Int))) H5
            rw [e3]
            exact q _ H5 (by omega) ((s14.trans s5).trans s6)
          · refine ⟨_, rfl, 10, 9, rfl, rfl, ⟨by decide, by decide, by decide⟩, p, _, rfl, by decide, by decide, s14.src, fun r3 H4 hr3 s5 => ?_⟩
            have hr3' : r3 < 10 ^ 9 := by
              have q : (r3 : Int) < 10 ^ (9 : Int).toNat := hr3
              have e : (10 : Int) ^ (9 : Int).toNat = 1000000000 := by decide
              omega
            have e20 : (10 : Int) ^ (20 : Int).toNat = 100000000000000000000 := by decide
            refine ⟨10, 20, rfl, rfl, ⟨by decide, by decide, by decide⟩, _, _, rfl, rfl, mul_l (by omega) (by omega), _, rfl, 10, 6, rfl, rfl, ⟨by decide, by decide, by decide⟩, p, _, rfl, by decide, by decide, s5.src, fun r4 H5 hr4 s6 => ?_⟩
            have hr4' : r4 < 10 ^ 6 := by
              have q : (r4 : Int) < 10 ^ (6 : Int).toNat := hr4
              have e : (10 : Int) ^ (6 : Int).toNat = 1000000 := by decide
              omega
            refine ⟨_, _, rfl, rfl, ?_⟩
            show Q (.int ((r3 : Int) * (10 : Int) ^ (20 : Int).toNat + (r4 : Int))) H5
            rw [e20]
            have e3 : (r3 : Int) * 100000000000000000000 + (r4 : Int) = ((r3 * 100000000000000000000 + r4 : Nat) : Int) := by omega
            rw [e3]
            exact q _ H5 (by omega) ((s14.trans s5).trans s6)
end
section
variable {P : Program} {w : World} {K : PySem.W.Frag} {mg : Str → Option Value} {base : Heap}
def spPair : Sp := fun vs H Q _ => ∃ (p : Addr) (b : Nat), vs = [.ref p, .int (b : Nat)] ∧ 2 ≤ b ∧ b ≤ 64 ∧ SrcAt H p ∧ ∀ (n d : Nat) H' T, n < d → d < 2 ^ 192 → Stp p H H' → H T = none → H' T = some (.tup [.int (n : Nat), .int (d : Nat)]) → Q (.ref T) H'
theorem ok_pair {f : Addr} {fd : FuncData} (F : Fun K "_law_pair" "_law_pair" s__law_pair f fd) (T : Tx K mg) (h1 : Has P w K mg base 2 "_law_next" ["_law_source_here", "_law_many"] [] spNext)
    (h2 : Has P w K mg base 3 "_law_tick" ["_law_source_here", "_law_base_here"] [] spTick) : FnOk P w K mg base CX0 4 f fd ["_law_source_here", "_law_base_here"] spPair := by
  obtain ⟨f__law_next, fd__law_next, ds__law_next, G__law_next, m__law_next, k__law_next, b__law_next, v__law_next⟩ := h1
  obtain ⟨f__law_tick, fd__law_tick, ds__law_tick, G__law_tick, m__law_tick, k__law_tick, b__law_tick, v__law_tick⟩ := h2
  refine F.ok sc__law_pair (fun vs H Q E h => ?_) (fun cdv A outer s H vs Q E hr h => ?_)
  · obtain ⟨p, b, rfl, _⟩ := h
    rfl
  · obtain ⟨p, b, rfl, hb2, hb64, hs, q⟩ := h
    refine ⟨_, (pss_cons (ps_set (i := 2) sc__law_pair.nd rfl (.inl rfl) (pe_call G__law_tick hr (by rfl) m__law_tick k__law_tick b__law_tick v__law_tick pass0 (pa_cons (pv 0) (pa_cons (pv 1) pa_nil))))
      (pss_cons (ps_set (i := 3) sc__law_pair.nd rfl (.inl rfl) (pe_ix (ix_listK (K := K) rfl) (pe_lst (pa_cons (pe_call G__law_tick hr (by rfl) m__law_tick k__law_tick b__law_tick v__law_tick pass0 (pa_cons (pv 0) (pa_cons (pv 1) pa_nil))) (pa_cons (pe_op op_add (pe_op op_add (pv 2) pe_int) (pe_call G__law_next (hr.mono (by decide)) (by rfl) m__law_next k__law_next b__law_next v__law_next pass0 (pa_cons (pv 0) (pa_cons (pe_op op_mulA pe_int (pv 1)) pa_nil)))) pa_nil))) (pe_call G__law_next (hr.mono (by decide)) (by rfl) m__law_next k__law_next b__law_next v__law_next pass0 (pa_cons (pv 0) (pa_cons pe_int pa_nil))) (fun _ _ => rfl)))
      (pss_cons (ps_if (pt_cmpR op_eq (pv 2) (pv 3) (nomark _))
        (pss_one (ps_set (i := 3) sc__law_pair.nd rfl (.inl rfl) (pe_op op_add (pv 2) pe_int)))
        pss_nil)
      (pss_one (ps_ret (pe_tup (pa_cons (pe_callB (call_min2 rfl) (by rfl) T.b_min (by decide +kernel) (pa_cons (pv 2) (pa_cons (pv 3) pa_nil))) (pa_cons (pe_callB (call_max2 rfl) (by rfl) T.b_max (by decide +kernel) (pa_cons (pv 2) (pa_cons (pv 3) pa_nil))) pa_nil)))))))), ?_⟩
    refine ⟨_, rfl, _, rfl, p, b, rfl, hb2, hb64, hs, fun x H1 hx s1 => ?_⟩
    refine ⟨_, rfl, _, rfl, p, b, rfl, hb2, hb64, s1.src, fun y H2 hy s2 => ?_⟩
    refine ⟨_, rfl, _, 1, rfl, rfl, _, rfl, _, rfl, 3, b, rfl, rfl, mul_l (by decide) (by decide), p, _, rfl, by omega, by omega, s2.src, fun r H3 hr3 s3 => ?_⟩
    refine ⟨_, r, rfl, rfl, by simp [sizeLine_eq], fun l hl => ?_⟩
    have nl : l ≠ p := fun e => by
      obtain ⟨x, y, z, h⟩ := s3.src
      rw [e, h] at hl
      cases hl
    have s4 : Stp p H3 (upd H3 l (.lst [.int (y : Nat), .int ((x : Int) + 1 + (r : Nat))])) := s3.src.stp_same (same_upd hl)
    refine ⟨_, rfl, p, 2, rfl, by decide, by decide, s4.src, fun c H4 hc s5 => ?_⟩
    have eL : H4 l = some (.lst [.int (y : Nat), .int ((x : Int) + 1 + (r : Nat))]) := s5.keep _ _ nl upd_same
    refine ⟨l, _, c, _, rfl, rfl, SqL.of eL, atI_nat (pick2 (by omega)), ?_⟩
    have s05 := (((s1.trans s2).trans s3).trans s4).trans s5
    -- the other one
    have ez : ∃ z : Nat, z < 2 ^ 191 ∧ (if c = 0 then V.int (y : Nat) else V.int ((x : Int) + 1 + (r : Nat))) = V.int (z : Nat) := by
      by_cases e : c = 0
      · exact ⟨y, by omega, if_pos e⟩
      · refine ⟨x + 1 + r, ?_, if_neg e⟩
        have hr4 : (r : Int) < 3 * (b : Int) := hr3
        omega
    obtain ⟨z, hz, ez⟩ := ez
    rw [ez]
    have last : ∀ z' : Nat, z' < 2 ^ 192 → z' ≠ x → tRet (tTup (tCons (tCB (fun xs H Q => ∃ i j, xs = [V.int i, V.int j] ∧ Q (V.int (if j < i then j else i)) H) (tCons (tVar 2) (tCons (tVar 3) tNil))) (tCons (tCB (fun xs H Q => ∃ i j, xs = [V.int i, V.int j] ∧ Q (V.int (if j > i then j else i)) H) (tCons (tVar 2) (tCons (tVar 3) tNil))) tNil)))
        { nx := fun _ H' => Q .non H', rt := Q } [some (.ref p), some (.int (b : Nat)), some (.int (x : Nat)), some (.int (z' : Nat))] H4 := by
      intro z' hz' hne
      refine ⟨_, rfl, _, rfl, _, _, rfl, _, rfl, _, rfl, _, _, rfl, by simp [sizeLine_eq], fun t ht => ?_⟩
      have st := s05.same (same_upd (o := .tup [.int (if (z' : Int) < (x : Int) then (z' : Int) else (x : Int)), .int (if (z' : Int) > (x : Int) then (z' : Int) else (x : Int))]) ht)
      by_cases l : z' < x
      · refine q z' x _ t l (by omega) st (s05.free ht) ?_
        rw [upd_same, if_pos (by omega), if_neg (by omega)]
      · refine q x z' _ t (by omega) hz' st (s05.free ht) ?_
        rw [upd_same, if_neg (by omega), if_pos (by omega)]
    refine ⟨_, rfl, _, rfl, rfl, _, rfl, ite2 (fun e => ?_) (fun e => ?_)⟩
    · have exz : x = z := Int.ofNat.inj (V.int.inj (of_decide_eq_true e))
      refine ⟨_, rfl, _, 1, rfl, rfl, ?_⟩
      exact last (x + 1) (by omega) (by omega)
    · have nxz : z ≠ x := fun q => e (decide_eq_true (by rw [q]))
      exact last z (by omega) nxz
end
/-! ### the law's ranges -/
section
variable {P : Program} {w : World} {K : PySem.W.Frag} {mg : Str → Option Value} {base : Heap}
def spRange : Sp := fun vs H Q _ => ∃ (p : Addr) (b : Nat), vs = [.ref p, .int (b : Nat)] ∧ 2 ≤ b ∧ b ≤ 64 ∧ SrcAt H p ∧ ∀ (n f h : Nat) H' T, n < f → f ≤ h → h < 2 ^ 200 - 1 → Stp p H H' → H T = none → H' T = some (.tup [.int (n : Nat), .int (f : Nat), .int (h : Nat)]) → Q (.ref T) H'
theorem ok_range {f : Addr} {fd : FuncData} (F : Fun K "_law_range" "_law_range" s__law_range f fd) (T : Tx K mg) (h1 : Has P w K mg base 2 "_law_next" ["_law_source_here", "_law_many"] [] spNext)
    (h2 : Has P w K mg base 3 "_law_tick" ["_law_source_here", "_law_base_here"] [] spTick) (h3 : Has P w K mg base 4 "_law_pair" ["_law_source_here", "_law_base_here"] [] spPair) : FnOk P w K mg base CX0 5 f fd ["_law_source_here", "_law_base_here"] spRange := by
  obtain ⟨f__law_next, fd__law_next, ds__law_next, G__law_next, m__law_next, k__law_next, b__law_next, v__law_next⟩ := h1
  obtain ⟨f__law_tick, fd__law_tick, ds__law_tick, G__law_tick, m__law_tick, k__law_tick, b__law_tick, v__law_tick⟩ := h2
  obtain ⟨f__law_pair, fd__law_pair, ds__law_pair, G__law_pair, m__law_pair, k__law_pair, b__law_pair, v__law_pair⟩ := h3
  refine F.ok sc__law_range (fun vs H Q E h => ?_) (fun cdv A outer s H vs Q E hr h => ?_)
  · obtain ⟨p, b, rfl, _⟩ := h
    rfl
  · obtain ⟨p, b, rfl, hb2, hb64, hs, q⟩ := h
    have two : ∀ {H : Hp} {l : Addr} {o : HO}, SrcAt H p → H l = none → Stp p H (upd H l o) ∧ l ≠ p := fun {H l o} hs hl =>
      ⟨hs.stp_same (same_upd hl), fun e => by
        obtain ⟨x, y, z, h⟩ := hs
        rw [e, h] at hl
        cases hl⟩
    refine ⟨_, (pss_cons (ps_asg (pe_call G__law_pair hr (by rfl) m__law_pair k__law_pair b__law_pair v__law_pair pass0 (pa_cons (pv 0) (pa_cons (pv 1) pa_nil))) (pg_tupK (K := K) (n := 2) rfl rfl (pgs_cons (pg_name (i := 2) sc__law_range.nd rfl (.inl rfl)) (pgs_cons (pg_name (i := 3) sc__law_range.nd rfl (.inl rfl)) pgs_nil))))
      (pss_cons (ps_set (i := 4) sc__law_range.nd rfl (.inl rfl) (pe_ix (ix_listK (K := K) rfl) (pe_lst (pa_cons (pe_op op_add (pv 2) pe_int) (pa_cons (pv 3) (pa_cons (pe_op op_add (pe_op op_add (pv 2) pe_int) (pe_call G__law_next (hr.mono (by decide)) (by rfl) m__law_next k__law_next b__law_next v__law_next pass0 (pa_cons (pv 0) (pa_cons (pe_op op_mulA pe_int (pv 1)) pa_nil)))) pa_nil)))) (pe_call G__law_next (hr.mono (by decide)) (by rfl) m__law_next k__law_next b__law_next v__law_next pass0 (pa_cons (pv 0) (pa_cons pe_int pa_nil))) (fun _ _ => rfl)))
      (pss_cons (ps_set (i := 5) sc__law_range.nd rfl (.inl rfl) (pe_ix (ix_listK (K := K) rfl) (pe_lst (pa_cons pe_int (pa_cons pe_int (pa_cons (pe_call G__law_next (hr.mono (by decide)) (by rfl) m__law_next k__law_next b__law_next v__law_next pass0 (pa_cons (pv 0) (pa_cons (pe_op op_mulA pe_int (pv 1)) pa_nil))) (pa_cons (pe_call G__law_tick (hr.mono (by decide)) (by rfl) m__law_tick k__law_tick b__law_tick v__law_tick pass0 (pa_cons (pv 0) (pa_cons (pv 1) pa_nil))) pa_nil))))) (pe_call G__law_next (hr.mono (by decide)) (by rfl) m__law_next k__law_next b__law_next v__law_next pass0 (pa_cons (pv 0) (pa_cons pe_int pa_nil))) (fun _ _ => rfl)))
      (pss_one (ps_ret (pe_tup (pa_cons (pv 2) (pa_cons (pv 4) (pa_cons (pe_callB (call_min2 rfl) (by rfl) T.b_min (by decide +kernel) (pa_cons (pe_op op_add (pv 4) (pv 5)) (pa_cons (pe_op op_sub (pe_op op_pow pe_int pe_int) pe_int) pa_nil))) pa_nil))))))))), ?_⟩
    refine ⟨_, rfl, _, rfl, p, b, rfl, hb2, hb64, hs, fun n d H1 t0 hnd hd s1 ht0 eT => ?_⟩
    refine ⟨t0, _, rfl, .inl (.inl eT), rfl, _, _, rfl, _, _, rfl, rfl, ?_⟩
    -- first
    refine ⟨_, rfl, n, 1, rfl, rfl, _, rfl, _, rfl, n, 1, rfl, rfl, _, rfl, _, rfl, 2, b, rfl, rfl, mul_l (by decide) (by decide), p, _, rfl, by omega, by omega, s1.src, fun r1 H2 hr1 s2 => ?_⟩
    refine ⟨_, r1, rfl, rfl, by simp [sizeLine_eq], fun l hl => ?_⟩
    obtain ⟨s3, nl⟩ := two (o := .lst [.int ((n : Int) + 1), .int (d : Nat), .int ((n : Int) + 1 + (r1 : Nat))]) s2.src hl
    refine ⟨_, rfl, p, 3, rfl, by decide, by decide, s3.src, fun c H4 hc s4 => ?_⟩
    have eL : H4 l = some (.lst [.int ((n : Int) + 1), .int (d : Nat), .int ((n : Int) + 1 + (r1 : Nat))]) := s4.keep _ _ nl upd_same
    have pick : ∃ f : Nat, n < f ∧ f < 2 ^ 194 ∧ ([.int ((n : Int) + 1), .int (d : Nat), .int ((n : Int) + 1 + (r1 : Nat))] : List V)[c]? = some (.int (f : Nat)) := by
      have hc3 : c < 3 := by omega
      match c, hc3 with
      | 0, _ => exact ⟨n + 1, by omega, by omega, rfl⟩
      | 1, _ => exact ⟨d, by omega, by omega, rfl⟩
      | 2, _ => exact ⟨n + 1 + r1, by omega, by omega, rfl⟩
      | c + 3, z => omega
    obtain ⟨f, hnf, hf, ef⟩ := pick
    refine ⟨l, _, c, _, rfl, rfl, SqL.of eL, atI_nat ef, ?_⟩
    have s14 := ((s1.trans s2).trans s3).trans s4
    -- more
    refine ⟨_, rfl, _, rfl, 3, b, rfl, rfl, mul_l (by decide) (by decide), p, _, rfl, by omega, by omega, s4.src, fun r2 H5 hr2 s5 => ?_⟩
    refine ⟨_, rfl, _, rfl, p, b, rfl, hb2, hb64, s5.src, fun t H6 ht s6 => ?_⟩
    refine ⟨by simp [sizeLine_eq], fun l2 hl2 => ?_⟩
    obtain ⟨s7, nl2⟩ := two (o := .lst [.int 0, .int 1, .int (r2 : Nat), .int (t : Nat)]) s6.src hl2
    refine ⟨_, rfl, p, 4, rfl, by decide, by decide, s7.src, fun c2 H8 hc2 s8 => ?_⟩
    have eL2 : H8 l2 = some (.lst [.int 0, .int 1, .int (r2 : Nat), .int (t : Nat)]) := s8.keep _ _ nl2 upd_same
    have pick2 : ∃ m : Nat, m < 2 ^ 191 ∧ ([.int 0, .int 1, .int (r2 : Nat), .int (t : Nat)] : List V)[c2]? = some (.int (m : Nat)) := by
      have hc4 : c2 < 4 := by omega
      match c2, hc4 with
      | 0, _ => exact ⟨0, by decide, rfl⟩
      | 1, _ => exact ⟨1, by decide, rfl⟩
      | 2, _ => exact ⟨r2, by omega, rfl⟩
      | 3, _ => exact ⟨t, by omega, rfl⟩
      | c + 4, z => omega
    obtain ⟨m, hm, em⟩ := pick2
    refine ⟨l2, _, c2, _, rfl, rfl, SqL.of eL2, atI_nat em, ?_⟩
    have s18 := (((s14.trans s5).trans s6).trans s7).trans s8
    have e60 : (10 : Int) ^ (60 : Int).toNat = 1000000000000000000000000000000000000000000000000000000000000 := by decide
    refine ⟨_, rfl, _, rfl, _, rfl, _, rfl, f, m, rfl, rfl, 10, 60, rfl, rfl, ⟨by decide, by decide, by decide⟩, _, 1, rfl, rfl, _, _, rfl, by simp [sizeLine_eq], fun T0 hT0 => ?_⟩
    have eh : (if (10 : Int) ^ (60 : Int).toNat - 1 < (f : Int) + (m : Int) then (10 : Int) ^ (60 : Int).toNat - 1 else (f : Int) + (m : Int)) = ((min (f + m) 999999999999999999999999999999999999999999999999999999999999 : Nat) : Int) := by
      rw [e60]
      split <;> omega
    refine q n f (min (f + m) 999999999999999999999999999999999999999999999999999999999999) _ T0 hnf (by omega) (by omega) (s18.same (same_upd hT0)) (s18.free hT0) ?_
    rw [upd_same]
    exact congrArg (fun x : Int => some (HO.tup [V.int (n : Nat), V.int (f : Nat), V.int x])) eh
end
/-! ### the law's loop over its numbers -/
theorem seq_new {K : PySem.W.Frag} {a p : Addr} {xs : List V} {H H1 H2 : Hp} (h : SqL K H a xs) (hp : H p = none) (s1 : Same H H1) (s2 : Stp p H1 H2) : SqL K H2 a xs := by
  rcases h with (h | ⟨o, h⟩) | h
  · exact .inl (.inl (s2.keep _ _ (ne_of_none h hp) (s1 _ _ h)))
  · exact .inl (.inr ⟨o, s2.keep _ _ (ne_of_none h hp) (s1 _ _ h)⟩)
  · exact .inr h
/-! ### law k17: the costliest due ticks -/
theorem pair_lay (x y : Int) : (PyData.tuple [.int x, .int y]).canLay0 = true := rfl
theorem rows_all {b n f : Nat} {rs : List (Nat × Nat)} : ∀ {k : Nat}, RowsL b n ((List.range k).map (f + ·)) rs → RowsB b n f (f + k) (f + k) rs := fun {k} R => by
  refine ⟨fun r hr => ?_, fun d c h1 h2 _ hc => ?_⟩
  · have z : r.2 ∈ (List.range k).map (f + ·) := by
      rw [← R.1]
      exact List.mem_map_of_mem hr
    obtain ⟨i, hi, e⟩ := List.mem_map.mp z
    have hi2 := List.mem_range.mp hi
    exact ⟨by omega, by omega, R.2 r hr⟩
  · have z : d ∈ rs.map (·.2) := by
      rw [R.1]
      exact List.mem_map.mpr ⟨d - f, List.mem_range.mpr (by omega), by omega⟩
    obtain ⟨r, hr, e⟩ := List.mem_map.mp z
    have hc2 := R.2 r hr
    rw [e] at hc2
    exact ⟨r, hr, .inr ⟨hc.uniq hc2, by omega⟩⟩
section
variable {P : Program} {w : World} {K : PySem.W.Frag} {mg : Str → Option Value} {base : Heap}
def spLaw (K : PySem.W.Frag) : Sp := fun vs H Q _ => ∃ (a : Addr) (ns : List Int), vs = [.ref a] ∧ SqL K H a (ns.map V.int) ∧ ns.length ≤ 63 ∧ ∀ H', Q (.bl true) H'
theorem ok_law {f : Addr} {fd : FuncData} (F : Fun K "law" "law" s_law f fd) (T : Tx K mg) (h1 : Has P w K mg base 2 "_law_source" ["_law_script", "_law_k"] [] (spSource K)) (h2 : Has P w K mg base 3 "_law_base" ["_law_source_here"] [] spBase)
    (h3 : Has P w K mg base 5 "_law_range" ["_law_source_here", "_law_base_here"] [] spRange) (h4 : Has P w K mg base 2 "_law_moves" ["_law_base_here", "_law_now", "_law_due"] [] spLawMoves)
    (h5 : Has P w K mg base 4 "costliest" ["base", "now", "first", "behind"] [] spCostliest) (h6 : Has P w K mg base 2 "_law_next" ["_law_source_here", "_law_many"] [] spNext)
    (h7 : Has P w K mg base 3 "_law_best" ["_law_base_here", "_law_now", "_law_first", "_law_behind"] [] spBest) :
    FnOk P w K mg base CX0 6 f fd ["_law_script"] (spLaw K) := by
  obtain ⟨f__law_source, fd__law_source, ds__law_source, G__law_source, m__law_source, k__law_source, b__law_source, v__law_source⟩ := h1
  obtain ⟨f__law_base, fd__law_base, ds__law_base, G__law_base, m__law_base, k__law_base, b__law_base, v__law_base⟩ := h2
  obtain ⟨f__law_range, fd__law_range, ds__law_range, G__law_range, m__law_range, k__law_range, b__law_range, v__law_range⟩ := h3
  obtain ⟨f__law_moves, fd__law_moves, ds__law_moves, G__law_moves, m__law_moves, k__law_moves, b__law_moves, v__law_moves⟩ := h4
  obtain ⟨f_costliest, fd_costliest, ds_costliest, G_costliest, m_costliest, k_costliest, b_costliest, v_costliest⟩ := h5
  obtain ⟨f__law_next, fd__law_next, ds__law_next, G__law_next, m__law_next, k__law_next, b__law_next, v__law_next⟩ := h6
  obtain ⟨f__law_best, fd__law_best, ds__law_best, G__law_best, m__law_best, k__law_best, b__law_best, v__law_best⟩ := h7
  refine F.ok sc_law (fun vs H Q E h => ?_) (fun cdv A outer s H vs Q E hr h => ?_)
  · obtain ⟨a, ns, rfl, _⟩ := h
    rfl
  · obtain ⟨a, ns, rfl, hS, hlen, q⟩ := h
    refine ⟨_, (pss_cons (ps_for PassesOwn.never rfl (pi_range1 (by rfl) T.b_range (pa_cons (pe_callB (max2N rfl) (by rfl) T.b_max (by decide +kernel) (pa_cons pe_int (pa_cons (pe_callB (min2N rfl) (by rfl) T.b_min (by decide +kernel) (pa_cons pe_int (pa_cons (pe_callB (lenK (K := K) rfl) (by rfl) T.b_len PySem.boot_len (pa_cons (pv 0) pa_nil)) pa_nil))) pa_nil))) pa_nil)) (pg_name (i := 1) sc_law.nd rfl (.inl rfl))
        (pss_cons (ps_set (i := 2) sc_law.nd rfl (.inl rfl) (pe_call G__law_source (hr.mono (by decide)) (by rfl) m__law_source k__law_source b__law_source v__law_source pass0 (pa_cons (pv 0) (pa_cons (pv 1) pa_nil))))
        (pss_cons (ps_set (i := 3) sc_law.nd rfl (.inr rfl) (pe_call G__law_base (hr.mono (by decide)) (by rfl) m__law_base k__law_base b__law_base v__law_base pass0 (pa_cons (pv 2) pa_nil)))
        (pss_cons (ps_asg (pe_call G__law_range hr (by rfl) m__law_range k__law_range b__law_range v__law_range pass0 (pa_cons (pv 2) (pa_cons (pv 3) pa_nil))) (pg_tupK (K := K) (n := 3) rfl rfl (pgs_cons (pg_name (i := 4) sc_law.nd rfl (.inr rfl)) (pgs_cons (pg_name (i := 5) sc_law.nd rfl (.inl rfl)) (pgs_cons (pg_name (i := 6) sc_law.nd rfl (.inl rfl)) pgs_nil)))))
        (pss_cons (ps_set (i := 6) sc_law.nd rfl (.inl rfl) (pe_callB (max2N rfl) (by rfl) T.b_max (by decide +kernel) (pa_cons (pv 6) (pa_cons (pe_op op_addN (pv 5) pe_int) pa_nil))))
        (pss_cons (ps_set (i := 7) sc_law.nd rfl (.inl rfl) (pe_call G_costliest (hr.mono (by decide)) (by rfl) m_costliest k_costliest b_costliest v_costliest pass0 (pa_cons (pv 3) (pa_cons (pv 4) (pa_cons (pv 5) (pa_cons (pv 6) pa_nil))))))
        (pss_cons (ps_if (pt_cmpR (op_neK (K := K) rfl hr.units) (pv 7) (pe_call G__law_best (hr.mono (by decide)) (by rfl) m__law_best k__law_best b__law_best v__law_best pass0 (pa_cons (pv 3) (pa_cons (pv 4) (pa_cons (pv 5) (pa_cons (pv 6) pa_nil))))) (nomark _))
          (pss_one (ps_ret pe_bl))
          pss_nil)
        (pss_cons (ps_if (PW.pt (pw_or (pt_not (pt_chain op_le op_lt (pv 5) (pe_ix (ix_tupK (K := K) rfl) (pv 7) pe_int (fun _ _ => rfl)) (pv 6))) (pw_or1 (pt_cmpR op_ne (pe_call G__law_moves (hr.mono (by decide)) (by rfl) m__law_moves k__law_moves b__law_moves v__law_moves pass0 (pa_cons (pv 3) (pa_cons (pv 4) (pa_cons (pe_ix (ix_tupK (K := K) rfl) (pv 7) pe_int (fun _ _ => rfl)) pa_nil)))) (pe_ix (ix_tupK (K := K) rfl) (pv 7) pe_int (fun _ _ => rfl)) (nomark _)))))
          (pss_one (ps_ret pe_bl))
          pss_nil)
        (pss_cons (ps_set (i := 8) sc_law.nd rfl (.inl rfl) (pe_callB (min2N rfl) (by rfl) T.b_min (by decide +kernel) (pa_cons (pv 6) (pa_cons (pe_op op_addN (pe_op op_addN (pv 5) pe_int) (pe_call G__law_next (hr.mono (by decide)) (by rfl) m__law_next k__law_next b__law_next v__law_next pass0 (pa_cons (pv 2) (pa_cons pe_int pa_nil)))) pa_nil))))
        (pss_cons (ps_asg (pe_callB (minP2 (K := K) rfl rfl hr.units) (by rfl) T.b_min (by decide +kernel) (pa_cons (pe_lc (own := [("_law_one", 11)]) (g := gName 11) (tt := tYes) rfl sc_law.nd (pi_wide2 (by rfl) T.b_range (pa_cons (pv 5) (pa_cons (pv 8) pa_nil))) (blkOk_by (own := [("_law_one", 11)]) (N := N_law) (sc := defScope s_law) (by decide +kernel)) (fun _ _ _ _ _ => (pg_name (i := 11) sc_law.nd rfl (.inl rfl))) (fun _ _ _ _ _ => pts_nil) (fun _ _ _ _ _ => (pe_tup (pa_cons (pe_op op_sub pe_int (pe_call G__law_moves (hr.mono (by decide)) (by rfl) m__law_moves k__law_moves b__law_moves v__law_moves pass0 (pa_cons (pv 3) (pa_cons (pv 4) (pa_cons (pv 11) pa_nil))))) (pa_cons (pv 11) pa_nil))))) pa_nil)) (pg_tupK (K := K) (n := 2) rfl rfl (pgs_cons (pg_name (i := 9) sc_law.nd rfl (.inl rfl)) (pgs_cons (pg_name (i := 10) sc_law.nd rfl (.inl rfl)) pgs_nil))))
        (pss_one (ps_if (PW.pt (pw_or (pt_cmpR (op_neK (K := K) rfl hr.units) (pe_call G_costliest (hr.mono (by decide)) (by rfl) m_costliest k_costliest b_costliest v_costliest pass0 (pa_cons (pv 3) (pa_cons (pv 4) (pa_cons (pv 5) (pa_cons (pv 8) pa_nil))))) (pe_tup (pa_cons (pe_op op_sub pe_int (pv 9)) (pa_cons (pv 10) pa_nil))) (nomark _)) (pw_or1 (pt_cmpR op_gt (pe_op op_sub pe_int (pv 9)) (pe_ix (ix_tupK (K := K) rfl) (pv 7) pe_int (fun _ _ => rfl)) (nomark _)))))
          (pss_one (ps_ret pe_bl))
          pss_nil))))))))))))
      (pss_one (ps_ret pe_bl))), ?_⟩
    refine ⟨.ref a, rfl, a, ns.map V.int, rfl, .inl hS, 8, _, rfl, 1, _, rfl, _, rfl, by omega, by rw [List.length_map]; omega, for_range (Pv := fun i σ H' => SqL K H' a (ns.map V.int) ∧ ∃ y1 y2 y3 y4 y5 y6 y7 y8 y9 y10, σ = [some (.ref a), y1, y2, y3, y4, y5, y6, y7, y8, y9, y10, none]) ⟨hS, none, none, none, none, none, none, none, none, none, none, rfl⟩ ?_ ?_⟩
    · rintro i0 σ H0 hi ⟨hS, y1, y2, y3, y4, y5, y6, y7, y8, y9, y10, rfl⟩
      refine ⟨_, rfl, _, rfl, a, ns, 0 + i0, rfl, hS, fun H1 p s1 hp0 hsrc => ?_⟩
      refine ⟨_, rfl, p, rfl, hsrc, fun b H2 hb hb64 s2 => ?_⟩
      refine ⟨_, rfl, _, rfl, p, b, rfl, hb, hb64, s2.src, fun n f h0 H3 t0 hnf hfh hh s3 ht0 eT => ?_⟩
      refine ⟨t0, _, rfl, .inl (.inl eT), rfl, _, _, rfl, _, _, rfl, _, _, rfl, rfl, ?_⟩
      have s13 := s2.trans s3
      refine ⟨_, rfl, _, rfl, f, 1, rfl, rfl, trivial, h0, f + 1, rfl, ?_⟩
      obtain ⟨h, eh⟩ : ∃ h, h = max h0 (f + 1) := ⟨_, rfl⟩
      rw [← eh]
      have hfh2 : f < h := by omega
      have hh2 : h ≤ 2 ^ 200 := by omega
      -- what is told
      refine ⟨_, rfl, _, rfl, _, rfl, _, rfl, b, n, f, h, rfl, hb, hb64, hnf, hfh2, hh2, fun M D H4 p4 B s4 hp4 e4 => ?_⟩
      refine ⟨_, rfl, _, rfl, _, rfl, _, rfl, _, rfl, b, n, f, h, rfl, hb, hb64, hnf, hfh2, hh2, fun M2 D2 H5 p5 B2 s5 hp5 e5 => ?_⟩
      obtain ⟨rfl, rfl⟩ := B.uniq B2
      have tup : ∀ {H : Hp} {p : Addr} {x y : Int}, H p = some (.tup [.int x, .int y]) → Dp K H (.ref p) (.tuple [.int x, .int y]) := fun e => .tup (SqT.of e) (.cons (.int _) (.cons (.int _) .nil))
      refine ⟨_, _, tup (s5 _ _ e4), tup e5, rfl, rfl, false, neq_refl (pair_lay _ _), iteF ?_⟩
      obtain ⟨hfD, hDh, hcD, hmax⟩ := B
      have e45 := s5 _ _ e4
      refine ⟨_, rfl, _, rfl, p4, _, 1, _, rfl, rfl, SqT.of e45, rfl, _, _, rfl, rfl, true, dT (by omega), iteT ⟨_, rfl, _, _, rfl, rfl, true, dT (by omega), iteF ?_⟩⟩
      refine ⟨_, rfl, _, rfl, _, rfl, p4, _, 1, _, rfl, rfl, SqT.of e45, rfl, b, n, D, rfl, hb, hb64, by omega, by omega, fun k hk => ⟨_, rfl, p4, _, 0, _, rfl, rfl, SqT.of e45, rfl, rfl, false, nF (congrArg (fun x : Nat => V.int (x : Nat)) (Cst.uniq ⟨k, hk, rfl⟩ hcD)), iteF ?_⟩⟩
      -- near
      have s15 := (s13.same s4).same s5
      have np4 : p4 ≠ p := s13.src.ne hp4
      refine ⟨_, rfl, _, rfl, f, 1, rfl, rfl, trivial, _, rfl, p, 200, rfl, by decide, by decide, s15.src, fun r H6 hr s6 => ⟨f + 1, r, rfl, rfl, trivial, h, f + 1 + r, rfl, ?_⟩⟩
      have s16 := s15.trans s6
      have e46 := s6.keep _ _ np4 e45
      obtain ⟨m, hm0, hm, em⟩ : ∃ m, 0 < m ∧ m ≤ 200 ∧ min h (f + 1 + r) = f + m := ⟨min h (f + 1 + r) - f, by omega, by omega, by omega⟩
      have hmh : f + m ≤ h := by omega
      rw [em]
      have etn : (((f + m : Nat) : Int) - (f : Int)).toNat = m := by omega
      refine ⟨_, rfl, _, rfl, f, ((f + m : Nat) : Int), rfl, fun D6 hD6 => lc_range (lo := (f : Int)) (n := (((f + m : Nat) : Int) - (f : Int)).toNat) (fun i H' => Same H6 H' ∧ ∃ (ts : List Addr) (rs : List (Nat × Nat)), H' D6 = some (.lst (ts.map V.ref)) ∧ RowsL b n ((List.range i).map (f + ·)) rs ∧ PairsAt H' ts (rs.map negP))
        ⟨same_upd hD6, [], [], upd_same, RowsL.nil b n, trivial⟩ ?_ ?_⟩
      · rintro i H7 hi2 ⟨s7, ts, rs, eD, hrs, PA⟩
        rw [etn] at hi2
        refine ⟨rfl, yesT (iteT ?_)⟩
        refine ⟨_, rfl, _, rfl, _, rfl, b, n, f + i, rfl, hb, hb64, by omega, by omega, fun k' hk' => ⟨0, _, rfl, rfl, _, rfl, by simp [sizeLine_eq], fun tt htt => ?_⟩⟩
        have s3 := same_upd (o := .tup [.int (0 - ((cnt0 b (f + i) (k' + 1) : Nat) : Int)), .int ((f : Int) + (i : Nat))]) htt
        have ett : (upd H7 tt (.tup [.int (0 - ((cnt0 b (f + i) (k' + 1) : Nat) : Int)), .int ((f : Int) + (i : Nat))])) tt = some (.tup [.int (-((cnt0 b (f + i) (k' + 1) : Nat) : Int)), .int ((f + i : Nat) : Int)]) := by
          rw [upd_same, Int.zero_sub]
          rfl
        have eD3 := s3 _ _ eD
        refine ⟨_, eD3, ?_, fun c o e => ?_, ts ++ [tt], rs ++ [(cnt0 b (f + i) (k' + 1), f + i)], ?_, ?_, ?_⟩
        · rw [List.length_map, PA.len, List.length_map, hrs.len, List.length_map, List.length_range]
          exact sizeLine_ge (by omega)
        · rw [upd_ne (ne_of_none e hD6)]
          exact s3 _ _ (s7 _ _ e)
        · rw [upd_same, List.map_append]
          rfl
        · rw [List.range_succ, List.map_append]
          exact hrs.snoc ⟨k', hk', rfl⟩
        · have keep : ∀ (t : Addr) (ys : List V), (upd H7 tt (.tup [.int (0 - ((cnt0 b (f + i) (k' + 1) : Nat) : Int)), .int ((f : Int) + (i : Nat))])) t = some (.tup ys) → (upd (upd H7 tt (.tup [.int (0 - ((cnt0 b (f + i) (k' + 1) : Nat) : Int)), .int ((f : Int) + (i : Nat))])) D6 (.lst (ts.map V.ref ++ [V.ref tt]))) t = some (.tup ys) := fun t ys e => by
            rw [upd_ne (ne_of e eD3 (by intro z; cases z))]
            exact e
          rw [List.map_append]
          exact ((PA.same fun t ys e => s3 _ _ e).same keep).snoc (keep _ _ ett)
      rintro H7 ⟨s7, ts, rs, eD, hrs, PA⟩
      rw [etn] at hrs
      have RB := rows_all hrs
      have hne : rs.map negP ≠ [] := fun z => RB.ne hb hnf (by omega) (Nat.le_refl _) (List.map_eq_nil_iff.mp z)
      refine ⟨D6, _, rs.map negP, rfl, SqL.of eD, PA.dp, hne, fun i x p0 hx hq0 hmin => ?_⟩
      obtain ⟨t, pr, rfl, hp, et⟩ := PA.item hx
      obtain rfl : pr = p0 := Option.some.inj (hp.symm.trans hq0)
      obtain ⟨M3, D3, rfl, B3⟩ := min_rows RB (Nat.le_refl _) hq0 hmin
      refine ⟨t, _, rfl, .inl (.inl et), rfl, _, _, rfl, _, _, rfl, rfl, ?_⟩
      -- a part of the range
      have s17 := s16.same s7
      refine ⟨_, rfl, _, rfl, _, rfl, _, rfl, b, n, f, f + m, rfl, hb, hb64, hnf, by omega, by omega, fun M4 D4 H8 p8 B4 s8 hp8 e8 => ?_⟩
      obtain ⟨rfl, rfl⟩ := B3.uniq B4
      refine ⟨_, rfl, 0, _, rfl, rfl, _, rfl, by simp [sizeLine_eq], fun t9 ht9 => ?_⟩
      have s9 := same_upd (o := .tup [.int (0 - -(M3 : Int)), .int (D3 : Nat)]) ht9
      have e9 : (upd H8 t9 (.tup [.int (0 - -(M3 : Int)), .int (D3 : Nat)])) t9 = some (.tup [.int (M3 : Nat), .int (D3 : Nat)]) := by
        rw [upd_same]
        have z : 0 - -(M3 : Int) = (M3 : Int) := by omega
        rw [z]
      refine ⟨_, _, tup (s9 _ _ e8), tup e9, rfl, rfl, false, neq_refl (pair_lay _ _), iteF ?_⟩
      have e49 := s9 _ _ (s8 _ _ (s7 _ _ e46))
      have hM : M3 ≤ M := by
        obtain ⟨z1, z2, z3, _⟩ := B3
        have z4 := hmax D3 M3 z1 (by omega) z3
        omega
      refine ⟨_, rfl, 0, _, rfl, rfl, _, rfl, p4, _, 0, _, rfl, rfl, SqT.of e49, rfl, _, _, rfl, rfl, false, congrArg V.bl (decide_eq_false (by omega)), iteF ?_⟩
      exact ⟨seq_new hS hp0 s1 ((s17.same s8).same s9), _, _, _, _, _, _, _, _, _, _, rfl⟩
    · rintro σ H' ⟨hS', y1, y2, y3, y4, y5, y6, y7, y8, y9, y10, rfl⟩
      exact q _
end
theorem all_mk {l : PySem.W.OpenLaw} {w : World} {K : PySem.W.Frag} {h : Heap} {mg : Str → Option Value} {fa : Addr} (X : K.In h) (G : h.Ns mainGlobals mg) (hfa : mg "law" = some (.ref fa))
    {f_is_integer f_is_base f_is_tick f_check_base f_check_tick f_level_and_size f_path f_dues_to_try f_costliest f_law_cell_at f_law_mixed f_law_source f_law_next f_law_base f_law_tick f_law_level f_law_pair f_law_range f_law_moves f_law_ends f_law_best f_law : Addr}
    {od_is_integer an_is_integer od_is_base an_is_base od_is_tick an_is_tick od_check_base an_check_base od_check_tick an_check_tick od_level_and_size an_level_and_size od_path an_path od_dues_to_try an_dues_to_try od_costliest an_costliest od_law_cell_at an_law_cell_at od_law_mixed an_law_mixed od_law_source an_law_source od_law_next an_law_next od_law_base an_law_base od_law_tick an_law_tick od_law_level an_law_level od_law_pair an_law_pair od_law_range an_law_range od_law_moves an_law_moves od_law_ends an_law_ends od_law_best an_law_best od_law an_law : Option Addr}
    {sl_is_integer sl_is_base sl_is_tick sl_check_base sl_check_tick sl_level_and_size sl_path sl_dues_to_try sl_costliest sl_law_cell_at sl_law_mixed sl_law_source sl_law_next sl_law_base sl_law_tick sl_law_level sl_law_pair sl_law_range sl_law_moves sl_law_ends sl_law_best sl_law : Array (Option Value)}
    {oc_is_integer kV_is_integer dc_is_integer pm_is_integer cd_is_integer ct_is_integer oc_is_base kV_is_base dc_is_base pm_is_base cd_is_base ct_is_base oc_is_tick kV_is_tick dc_is_tick pm_is_tick cd_is_tick ct_is_tick oc_check_base kV_check_base dc_check_base pm_check_base cd_check_base ct_check_base oc_check_tick kV_check_tick dc_check_tick pm_check_tick cd_check_tick ct_check_tick oc_level_and_size kV_level_and_size dc_level_and_size pm_level_and_size cd_level_and_size ct_level_and_size oc_path kV_path dc_path pm_path cd_path ct_path oc_dues_to_try kV_dues_to_try dc_dues_to_try pm_dues_to_try cd_dues_to_try ct_dues_to_try oc_costliest kV_costliest dc_costliest pm_costliest cd_costliest ct_costliest oc_law_cell_at kV_law_cell_at dc_law_cell_at pm_law_cell_at cd_law_cell_at ct_law_cell_at oc_law_mixed kV_law_mixed dc_law_mixed pm_law_mixed cd_law_mixed ct_law_mixed oc_law_source kV_law_source dc_law_source pm_law_source cd_law_source ct_law_source oc_law_next kV_law_next dc_law_next pm_law_next cd_law_next ct_law_next oc_law_base kV_law_base dc_law_base pm_law_base cd_law_base ct_law_base oc_law_tick kV_law_tick dc_law_tick pm_law_tick cd_law_tick ct_law_tick oc_law_level kV_law_level dc_law_level pm_law_level cd_law_level ct_law_level oc_law_pair kV_law_pair dc_law_pair pm_law_pair cd_law_pair ct_law_pair oc_law_range kV_law_range dc_law_range pm_law_range cd_law_range ct_law_range oc_law_moves kV_law_moves dc_law_moves pm_law_moves cd_law_moves ct_law_moves oc_law_ends kV_law_ends dc_law_ends pm_law_ends cd_law_ends ct_law_ends oc_law_best kV_law_best dc_law_best pm_law_best cd_law_best ct_law_best oc_law kV_law dc_law pm_law cd_law ct_law : Value}
    {dT_is_tick : Addr} {tc_is_tick : Value} {td_is_tick : Option Addr} {tt_is_tick : Tok} {tn_is_tick : Nat} {ts_is_tick : Array (Option Value)}
    {dT_check_tick : Addr} {tc_check_tick : Value} {td_check_tick : Option Addr} {tt_check_tick : Tok} {tn_check_tick : Nat} {ts_check_tick : Array (Option Value)}
    (a_is_integer : PySem.W.nsIn K mainGlobals "is_integer" = some (some (.ref f_is_integer)))
    (l_is_integer : K.lookup f_is_integer = some ⟨oc_is_integer, od_is_integer, .func (PySem.W.fnOf "is_integer" "is_integer" (defArgs s_is_integer) (defBody s_is_integer) (defScope s_is_integer) .none kV_is_integer dc_is_integer pm_is_integer an_is_integer cd_is_integer ct_is_integer), sl_is_integer⟩)
    (c_is_integer : PySem.W.codeIn K cd_is_integer "is_integer" = true) (k_is_integer : PySem.W.keepIn K (.ref f_is_integer) = true)
    (a_is_base : PySem.W.nsIn K mainGlobals "is_base" = some (some (.ref f_is_base)))
    (l_is_base : K.lookup f_is_base = some ⟨oc_is_base, od_is_base, .func (PySem.W.fnOf "is_base" "is_base" (defArgs s_is_base) (defBody s_is_base) (defScope s_is_base) .none kV_is_base dc_is_base pm_is_base an_is_base cd_is_base ct_is_base), sl_is_base⟩)
    (c_is_base : PySem.W.codeIn K cd_is_base "is_base" = true) (k_is_base : PySem.W.keepIn K (.ref f_is_base) = true)
    (a_is_tick : PySem.W.nsIn K mainGlobals "is_tick" = some (some (.ref f_is_tick)))
    (l_is_tick : K.lookup f_is_tick = some ⟨oc_is_tick, od_is_tick, .func (PySem.W.fnOf "is_tick" "is_tick" (defArgs s_is_tick) (defBody s_is_tick) (defScope s_is_tick) (.ref dT_is_tick) kV_is_tick dc_is_tick pm_is_tick an_is_tick cd_is_tick ct_is_tick), sl_is_tick⟩)
    (t_is_tick : K.lookup dT_is_tick = some ⟨tc_is_tick, td_is_tick, .seq #[.int 0 tt_is_tick] tn_is_tick, ts_is_tick⟩)
    (c_is_tick : PySem.W.codeIn K cd_is_tick "is_tick" = true) (k_is_tick : PySem.W.keepIn K (.ref f_is_tick) = true)
    (a_check_base : PySem.W.nsIn K mainGlobals "check_base" = some (some (.ref f_check_base)))
    (l_check_base : K.lookup f_check_base = some ⟨oc_check_base, od_check_base, .func (PySem.W.fnOf "check_base" "check_base" (defArgs s_check_base) (defBody s_check_base) (defScope s_check_base) .none kV_check_base dc_check_base pm_check_base an_check_base cd_check_base ct_check_base), sl_check_base⟩)
    (c_check_base : PySem.W.codeIn K cd_check_base "check_base" = true) (k_check_base : PySem.W.keepIn K (.ref f_check_base) = true)
    (a_check_tick : PySem.W.nsIn K mainGlobals "check_tick" = some (some (.ref f_check_tick)))
    (l_check_tick : K.lookup f_check_tick = some ⟨oc_check_tick, od_check_tick, .func (PySem.W.fnOf "check_tick" "check_tick" (defArgs s_check_tick) (defBody s_check_tick) (defScope s_check_tick) (.ref dT_check_tick) kV_check_tick dc_check_tick pm_check_tick an_check_tick cd_check_tick ct_check_tick), sl_check_tick⟩)
    (t_check_tick : K.lookup dT_check_tick = some ⟨tc_check_tick, td_check_tick, .seq #[.int 0 tt_check_tick] tn_check_tick, ts_check_tick⟩)
    (c_check_tick : PySem.W.codeIn K cd_check_tick "check_tick" = true) (k_check_tick : PySem.W.keepIn K (.ref f_check_tick) = true)
    (a_level_and_size : PySem.W.nsIn K mainGlobals "level_and_size" = some (some (.ref f_level_and_size)))
    (l_level_and_size : K.lookup f_level_and_size = some ⟨oc_level_and_size, od_level_and_size, .func (PySem.W.fnOf "level_and_size" "level_and_size" (defArgs s_level_and_size) (defBody s_level_and_size) (defScope s_level_and_size) .none kV_level_and_size dc_level_and_size pm_level_and_size an_level_and_size cd_level_and_size ct_level_and_size), sl_level_and_size⟩)
    (c_level_and_size : PySem.W.codeIn K cd_level_and_size "level_and_size" = true) (k_level_and_size : PySem.W.keepIn K (.ref f_level_and_size) = true)
    (a_path : PySem.W.nsIn K mainGlobals "path" = some (some (.ref f_path)))
    (l_path : K.lookup f_path = some ⟨oc_path, od_path, .func (PySem.W.fnOf "path" "path" (defArgs s_path) (defBody s_path) (defScope s_path) .none kV_path dc_path pm_path an_path cd_path ct_path), sl_path⟩)
    (c_path : PySem.W.codeIn K cd_path "path" = true) (k_path : PySem.W.keepIn K (.ref f_path) = true)
    (a_dues_to_try : PySem.W.nsIn K mainGlobals "dues_to_try" = some (some (.ref f_dues_to_try)))
    (l_dues_to_try : K.lookup f_dues_to_try = some ⟨oc_dues_to_try, od_dues_to_try, .func (PySem.W.fnOf "dues_to_try" "dues_to_try" (defArgs s_dues_to_try) (defBody s_dues_to_try) (defScope s_dues_to_try) .none kV_dues_to_try dc_dues_to_try pm_dues_to_try an_dues_to_try cd_dues_to_try ct_dues_to_try), sl_dues_to_try⟩)
    (c_dues_to_try : PySem.W.codeIn K cd_dues_to_try "dues_to_try" = true) (k_dues_to_try : PySem.W.keepIn K (.ref f_dues_to_try) = true)
    (a_costliest : PySem.W.nsIn K mainGlobals "costliest" = some (some (.ref f_costliest)))
    (l_costliest : K.lookup f_costliest = some ⟨oc_costliest, od_costliest, .func (PySem.W.fnOf "costliest" "costliest" (defArgs s_costliest) (defBody s_costliest) (defScope s_costliest) .none kV_costliest dc_costliest pm_costliest an_costliest cd_costliest ct_costliest), sl_costliest⟩)
    (c_costliest : PySem.W.codeIn K cd_costliest "costliest" = true) (k_costliest : PySem.W.keepIn K (.ref f_costliest) = true)
    (a_law_cell_at : PySem.W.nsIn K mainGlobals "_law_cell_at" = some (some (.ref f_law_cell_at)))
    (l_law_cell_at : K.lookup f_law_cell_at = some ⟨oc_law_cell_at, od_law_cell_at, .func (PySem.W.fnOf "_law_cell_at" "_law_cell_at" (defArgs s__law_cell_at) (defBody s__law_cell_at) (defScope s__law_cell_at) .none kV_law_cell_at dc_law_cell_at pm_law_cell_at an_law_cell_at cd_law_cell_at ct_law_cell_at), sl_law_cell_at⟩)
    (c_law_cell_at : PySem.W.codeIn K cd_law_cell_at "_law_cell_at" = true) (k_law_cell_at : PySem.W.keepIn K (.ref f_law_cell_at) = true)
    (a_law_mixed : PySem.W.nsIn K mainGlobals "_law_mixed" = some (some (.ref f_law_mixed)))
    (l_law_mixed : K.lookup f_law_mixed = some ⟨oc_law_mixed, od_law_mixed, .func (PySem.W.fnOf "_law_mixed" "_law_mixed" (defArgs s__law_mixed) (defBody s__law_mixed) (defScope s__law_mixed) .none kV_law_mixed dc_law_mixed pm_law_mixed an_law_mixed cd_law_mixed ct_law_mixed), sl_law_mixed⟩)
    (c_law_mixed : PySem.W.codeIn K cd_law_mixed "_law_mixed" = true) (k_law_mixed : PySem.W.keepIn K (.ref f_law_mixed) = true)
    (a_law_source : PySem.W.nsIn K mainGlobals "_law_source" = some (some (.ref f_law_source)))
    (l_law_source : K.lookup f_law_source = some ⟨oc_law_source, od_law_source, .func (PySem.W.fnOf "_law_source" "_law_source" (defArgs s__law_source) (defBody s__law_source) (defScope s__law_source) .none kV_law_source dc_law_source pm_law_source an_law_source cd_law_source ct_law_source), sl_law_source⟩)
    (c_law_source : PySem.W.codeIn K cd_law_source "_law_source" = true) (k_law_source : PySem.W.keepIn K (.ref f_law_source) = true)
    (a_law_next : PySem.W.nsIn K mainGlobals "_law_next" = some (some (.ref f_law_next)))
    (l_law_next : K.lookup f_law_next = some ⟨oc_law_next, od_law_next, .func (PySem.W.fnOf "_law_next" "_law_next" (defArgs s__law_next) (defBody s__law_next) (defScope s__law_next) .none kV_law_next dc_law_next pm_law_next an_law_next cd_law_next ct_law_next), sl_law_next⟩)
    (c_law_next : PySem.W.codeIn K cd_law_next "_law_next" = true) (k_law_next : PySem.W.keepIn K (.ref f_law_next) = true)
    (a_law_base : PySem.W.nsIn K mainGlobals "_law_base" = some (some (.ref f_law_base)))
    (l_law_base : K.lookup f_law_base = some ⟨oc_law_base, od_law_base, .func (PySem.W.fnOf "_law_base" "_law_base" (defArgs s__law_base) (defBody s__law_base) (defScope s__law_base) .none kV_law_base dc_law_base pm_law_base an_law_base cd_law_base ct_law_base), sl_law_base⟩)
    (c_law_base : PySem.W.codeIn K cd_law_base "_law_base" = true) (k_law_base : PySem.W.keepIn K (.ref f_law_base) = true)
    (a_law_tick : PySem.W.nsIn K mainGlobals "_law_tick" = some (some (.ref f_law_tick)))
    (l_law_tick : K.lookup f_law_tick = some ⟨oc_law_tick, od_law_tick, .func (PySem.W.fnOf "_law_tick" "_law_tick" (defArgs s__law_tick) (defBody s__law_tick) (defScope s__law_tick) .none kV_law_tick dc_law_tick pm_law_tick an_law_tick cd_law_tick ct_law_tick), sl_law_tick⟩)
    (c_law_tick : PySem.W.codeIn K cd_law_tick "_law_tick" = true) (k_law_tick : PySem.W.keepIn K (.ref f_law_tick) = true)
    (a_law_level : PySem.W.nsIn K mainGlobals "_law_level" = some (some (.ref f_law_level)))
    (l_law_level : K.lookup f_law_level = some ⟨oc_law_level, od_law_level, .func (PySem.W.fnOf "_law_level" "_law_level" (defArgs s__law_level) (defBody s__law_level) (defScope s__law_level) .none kV_law_level dc_law_level pm_law_level an_law_level cd_law_level ct_law_level), sl_law_level⟩)
    (c_law_level : PySem.W.codeIn K cd_law_level "_law_level" = true) (k_law_level : PySem.W.keepIn K (.ref f_law_level) = true)
    (a_law_pair : PySem.W.nsIn K mainGlobals "_law_pair" = some (some (.ref f_law_pair)))
    (l_law_pair : K.lookup f_law_pair = some ⟨oc_law_pair, od_law_pair, .func (PySem.W.fnOf "_law_pair" "_law_pair" (defArgs s__law_pair) (defBody s__law_pair) (defScope s__law_pair) .none kV_law_pair dc_law_pair pm_law_pair an_law_pair cd_law_pair ct_law_pair), sl_law_pair⟩)
    (c_law_pair : PySem.W.codeIn K cd_law_pair "_law_pair" = true) (k_law_pair : PySem.W.keepIn K (.ref f_law_pair) = true)
    (a_law_range : PySem.W.nsIn K mainGlobals "_law_range" = some (some (.ref f_law_range)))
    (l_law_range : K.lookup f_law_range = some ⟨oc_law_range, od_law_range, .func (PySem.W.fnOf "_law_range" "_law_range" (defArgs s__law_range) (defBody s__law_range) (defScope s__law_range) .none kV_law_range dc_law_range pm_law_range an_law_range cd_law_range ct_law_range), sl_law_range⟩)
    (c_law_range : PySem.W.codeIn K cd_law_range "_law_range" = true) (k_law_range : PySem.W.keepIn K (.ref f_law_range) = true)
    (a_law_moves : PySem.W.nsIn K mainGlobals "_law_moves" = some (some (.ref f_law_moves)))
    (l_law_moves : K.lookup f_law_moves = some ⟨oc_law_moves, od_law_moves, .func (PySem.W.fnOf "_law_moves" "_law_moves" (defArgs s__law_moves) (defBody s__law_moves) (defScope s__law_moves) .none kV_law_moves dc_law_moves pm_law_moves an_law_moves cd_law_moves ct_law_moves), sl_law_moves⟩)
    (c_law_moves : PySem.W.codeIn K cd_law_moves "_law_moves" = true) (k_law_moves : PySem.W.keepIn K (.ref f_law_moves) = true)
    (a_law_ends : PySem.W.nsIn K mainGlobals "_law_ends" = some (some (.ref f_law_ends)))
    (l_law_ends : K.lookup f_law_ends = some ⟨oc_law_ends, od_law_ends, .func (PySem.W.fnOf "_law_ends" "_law_ends" (defArgs s__law_ends) (defBody s__law_ends) (defScope s__law_ends) .none kV_law_ends dc_law_ends pm_law_ends an_law_ends cd_law_ends ct_law_ends), sl_law_ends⟩)
    (c_law_ends : PySem.W.codeIn K cd_law_ends "_law_ends" = true) (k_law_ends : PySem.W.keepIn K (.ref f_law_ends) = true)
    (a_law_best : PySem.W.nsIn K mainGlobals "_law_best" = some (some (.ref f_law_best)))
    (l_law_best : K.lookup f_law_best = some ⟨oc_law_best, od_law_best, .func (PySem.W.fnOf "_law_best" "_law_best" (defArgs s__law_best) (defBody s__law_best) (defScope s__law_best) .none kV_law_best dc_law_best pm_law_best an_law_best cd_law_best ct_law_best), sl_law_best⟩)
    (c_law_best : PySem.W.codeIn K cd_law_best "_law_best" = true) (k_law_best : PySem.W.keepIn K (.ref f_law_best) = true)
    (a_law : PySem.W.nsIn K mainGlobals "law" = some (some (.ref f_law)))
    (l_law : K.lookup f_law = some ⟨oc_law, od_law, .func (PySem.W.fnOf "law" "law" (defArgs s_law) (defBody s_law) (defScope s_law) .none kV_law dc_law pm_law an_law cd_law ct_law), sl_law⟩)
    (c_law : PySem.W.codeIn K cd_law "law" = true) (k_law : PySem.W.keepIn K (.ref f_law) = true)
    (z_isinstance : PySem.W.nsIn K mainGlobals "isinstance" = some none)
    (z_int : PySem.W.nsIn K mainGlobals "int" = some none)
    (z_bool : PySem.W.nsIn K mainGlobals "bool" = some none)
    (z_min : PySem.W.nsIn K mainGlobals "min" = some none)
    (z_len : PySem.W.nsIn K mainGlobals "len" = some none)
    (z_range : PySem.W.nsIn K mainGlobals "range" = some none)
    (z_max : PySem.W.nsIn K mainGlobals "max" = some none)
    : ∃ fd : FuncData, (∀ (s : Shared) (v : Value), BindsTo s fd ⟨[v], []⟩ [("_law_script", v)]) ∧ ∀ base : Heap, K.In base → base.Ns mainGlobals mg → FnOk l.prog w K mg base CX0 6 fa fd ["_law_script"] (spLaw K) := by
  have e := hfa.symm.trans (PySem.W.mg_of X G a_law)
  cases e
  have T : Tx K mg := ⟨PySem.W.mg_none_of X G z_isinstance, PySem.W.mg_none_of X G z_int, PySem.W.mg_none_of X G z_bool, PySem.W.mg_none_of X G z_min, PySem.W.mg_none_of X G z_len, PySem.W.mg_none_of X G z_range, PySem.W.mg_none_of X G z_max⟩
  have D_is_integer : Df K mg "is_integer" s_is_integer ["given"] := by
    have F := fun_mk (st := s_is_integer) l_is_integer c_is_integer k_is_integer
    exact ⟨_, _, F, PySem.W.mg_of X G a_is_integer, F.binds (ps := ["given"]) fun _ _ _ _ _ _ us hl => match us, hl with | [_], _ => rfl⟩
  have D_is_base : Df K mg "is_base" s_is_base ["given"] := by
    have F := fun_mk (st := s_is_base) l_is_base c_is_base k_is_base
    exact ⟨_, _, F, PySem.W.mg_of X G a_is_base, F.binds (ps := ["given"]) fun _ _ _ _ _ _ us hl => match us, hl with | [_], _ => rfl⟩
  have D_is_tick : Dd K mg "is_tick" s_is_tick ["given", "least"] (.int 0) := by
    have F : FunD K "is_tick" "is_tick" (defArgs s_is_tick) (defBody s_is_tick) (defScope s_is_tick) [(.int 0)] [] _ _ := ⟨⟨_, _, _, _, _, _, _, _, _, _, rfl, l_is_tick, c_is_tick, .inr ⟨by simp, dT_is_tick, _, [_], _, rfl, t_is_tick, rfl, .cons ⟨_, rfl⟩ .nil⟩, .inl rfl⟩, k_is_tick⟩
    exact ⟨_, _, F, PySem.W.mg_of X G a_is_tick,
      FunD.binds1 (ps := ["given", "least"]) F 1 0 (by simp) rfl fun _ _ _ _ _ _ _ us its hu hi => match us, its, hu, hi with | [_], [_], _, _ => ⟨_, rfl, rfl⟩,
      by obtain ⟨ds, r, b⟩ := FunD.binds1 (ps := ["given", "least"]) F 2 1 (by simp) rfl fun _ _ _ _ _ _ _ us its hu hi => match us, its, hu, hi with | [_, _], [_], _, _ => ⟨_, rfl, rfl⟩
         cases r
         exact b⟩
  have D_check_base : Df K mg "check_base" s_check_base ["base"] := by
    have F := fun_mk (st := s_check_base) l_check_base c_check_base k_check_base
    exact ⟨_, _, F, PySem.W.mg_of X G a_check_base, F.binds (ps := ["base"]) fun _ _ _ _ _ _ us hl => match us, hl with | [_], _ => rfl⟩
  have D_check_tick : Dd K mg "check_tick" s_check_tick ["tick", "least"] (.int 0) := by
    have F : FunD K "check_tick" "check_tick" (defArgs s_check_tick) (defBody s_check_tick) (defScope s_check_tick) [(.int 0)] [] _ _ := ⟨⟨_, _, _, _, _, _, _, _, _, _, rfl, l_check_tick, c_check_tick, .inr ⟨by simp, dT_check_tick, _, [_], _, rfl, t_check_tick, rfl, .cons ⟨_, rfl⟩ .nil⟩, .inl rfl⟩, k_check_tick⟩
    exact ⟨_, _, F, PySem.W.mg_of X G a_check_tick,
      FunD.binds1 (ps := ["tick", "least"]) F 1 0 (by simp) rfl fun _ _ _ _ _ _ _ us its hu hi => match us, its, hu, hi with | [_], [_], _, _ => ⟨_, rfl, rfl⟩,
      by obtain ⟨ds, r, b⟩ := FunD.binds1 (ps := ["tick", "least"]) F 2 1 (by simp) rfl fun _ _ _ _ _ _ _ us its hu hi => match us, its, hu, hi with | [_, _], [_], _, _ => ⟨_, rfl, rfl⟩
         cases r
         exact b⟩
  have D_level_and_size : Df K mg "level_and_size" s_level_and_size ["base", "now", "due"] := by
    have F := fun_mk (st := s_level_and_size) l_level_and_size c_level_and_size k_level_and_size
    exact ⟨_, _, F, PySem.W.mg_of X G a_level_and_size, F.binds (ps := ["base", "now", "due"]) fun _ _ _ _ _ _ us hl => match us, hl with | [_, _, _], _ => rfl⟩
  have D_path : Df K mg "path" s_path ["base", "now", "due"] := by
    have F := fun_mk (st := s_path) l_path c_path k_path
    exact ⟨_, _, F, PySem.W.mg_of X G a_path, F.binds (ps := ["base", "now", "due"]) fun _ _ _ _ _ _ us hl => match us, hl with | [_, _, _], _ => rfl⟩
  have D_dues_to_try : Df K mg "dues_to_try" s_dues_to_try ["base", "first", "behind"] := by
    have F := fun_mk (st := s_dues_to_try) l_dues_to_try c_dues_to_try k_dues_to_try
    exact ⟨_, _, F, PySem.W.mg_of X G a_dues_to_try, F.binds (ps := ["base", "first", "behind"]) fun _ _ _ _ _ _ us hl => match us, hl with | [_, _, _], _ => rfl⟩
  have D_costliest : Df K mg "costliest" s_costliest ["base", "now", "first", "behind"] := by
    have F := fun_mk (st := s_costliest) l_costliest c_costliest k_costliest
    exact ⟨_, _, F, PySem.W.mg_of X G a_costliest, F.binds (ps := ["base", "now", "first", "behind"]) fun _ _ _ _ _ _ us hl => match us, hl with | [_, _, _, _], _ => rfl⟩
  have D_law_cell_at : Df K mg "_law_cell_at" s__law_cell_at ["_law_script", "_law_k"] := by
    have F := fun_mk (st := s__law_cell_at) l_law_cell_at c_law_cell_at k_law_cell_at
    exact ⟨_, _, F, PySem.W.mg_of X G a_law_cell_at, F.binds (ps := ["_law_script", "_law_k"]) fun _ _ _ _ _ _ us hl => match us, hl with | [_, _], _ => rfl⟩
  have D_law_mixed : Df K mg "_law_mixed" s__law_mixed ["_law_cell", "_law_k"] := by
    have F := fun_mk (st := s__law_mixed) l_law_mixed c_law_mixed k_law_mixed
    exact ⟨_, _, F, PySem.W.mg_of X G a_law_mixed, F.binds (ps := ["_law_cell", "_law_k"]) fun _ _ _ _ _ _ us hl => match us, hl with | [_, _], _ => rfl⟩
  have D_law_source : Df K mg "_law_source" s__law_source ["_law_script", "_law_k"] := by
    have F := fun_mk (st := s__law_source) l_law_source c_law_source k_law_source
    exact ⟨_, _, F, PySem.W.mg_of X G a_law_source, F.binds (ps := ["_law_script", "_law_k"]) fun _ _ _ _ _ _ us hl => match us, hl with | [_, _], _ => rfl⟩
  have D_law_next : Df K mg "_law_next" s__law_next ["_law_source_here", "_law_many"] := by
    have F := fun_mk (st := s__law_next) l_law_next c_law_next k_law_next
    exact ⟨_, _, F, PySem.W.mg_of X G a_law_next, F.binds (ps := ["_law_source_here", "_law_many"]) fun _ _ _ _ _ _ us hl => match us, hl with | [_, _], _ => rfl⟩
  have D_law_base : Df K mg "_law_base" s__law_base ["_law_source_here"] := by
    have F := fun_mk (st := s__law_base) l_law_base c_law_base k_law_base
    exact ⟨_, _, F, PySem.W.mg_of X G a_law_base, F.binds (ps := ["_law_source_here"]) fun _ _ _ _ _ _ us hl => match us, hl with | [_], _ => rfl⟩
  have D_law_tick : Df K mg "_law_tick" s__law_tick ["_law_source_here", "_law_base_here"] := by
    have F := fun_mk (st := s__law_tick) l_law_tick c_law_tick k_law_tick
    exact ⟨_, _, F, PySem.W.mg_of X G a_law_tick, F.binds (ps := ["_law_source_here", "_law_base_here"]) fun _ _ _ _ _ _ us hl => match us, hl with | [_, _], _ => rfl⟩
  have D_law_level : Df K mg "_law_level" s__law_level ["_law_base_here", "_law_now", "_law_due"] := by
    have F := fun_mk (st := s__law_level) l_law_level c_law_level k_law_level
    exact ⟨_, _, F, PySem.W.mg_of X G a_law_level, F.binds (ps := ["_law_base_here", "_law_now", "_law_due"]) fun _ _ _ _ _ _ us hl => match us, hl with | [_, _, _], _ => rfl⟩
  have D_law_pair : Df K mg "_law_pair" s__law_pair ["_law_source_here", "_law_base_here"] := by
    have F := fun_mk (st := s__law_pair) l_law_pair c_law_pair k_law_pair
    exact ⟨_, _, F, PySem.W.mg_of X G a_law_pair, F.binds (ps := ["_law_source_here", "_law_base_here"]) fun _ _ _ _ _ _ us hl => match us, hl with | [_, _], _ => rfl⟩
  have D_law_range : Df K mg "_law_range" s__law_range ["_law_source_here", "_law_base_here"] := by
    have F := fun_mk (st := s__law_range) l_law_range c_law_range k_law_range
    exact ⟨_, _, F, PySem.W.mg_of X G a_law_range, F.binds (ps := ["_law_source_here", "_law_base_here"]) fun _ _ _ _ _ _ us hl => match us, hl with | [_, _], _ => rfl⟩
  have D_law_moves : Df K mg "_law_moves" s__law_moves ["_law_base_here", "_law_now", "_law_due"] := by
    have F := fun_mk (st := s__law_moves) l_law_moves c_law_moves k_law_moves
    exact ⟨_, _, F, PySem.W.mg_of X G a_law_moves, F.binds (ps := ["_law_base_here", "_law_now", "_law_due"]) fun _ _ _ _ _ _ us hl => match us, hl with | [_, _, _], _ => rfl⟩
  have D_law_ends : Df K mg "_law_ends" s__law_ends ["_law_base_here", "_law_first", "_law_last"] := by
    have F := fun_mk (st := s__law_ends) l_law_ends c_law_ends k_law_ends
    exact ⟨_, _, F, PySem.W.mg_of X G a_law_ends, F.binds (ps := ["_law_base_here", "_law_first", "_law_last"]) fun _ _ _ _ _ _ us hl => match us, hl with | [_, _, _], _ => rfl⟩
  have D_law_best : Df K mg "_law_best" s__law_best ["_law_base_here", "_law_now", "_law_first", "_law_behind"] := by
    have F := fun_mk (st := s__law_best) l_law_best c_law_best k_law_best
    exact ⟨_, _, F, PySem.W.mg_of X G a_law_best, F.binds (ps := ["_law_base_here", "_law_now", "_law_first", "_law_behind"]) fun _ _ _ _ _ _ us hl => match us, hl with | [_, _, _, _], _ => rfl⟩
  have D_law : Df K mg "law" s_law ["_law_script"] := by
    have F := fun_mk (st := s_law) l_law c_law k_law
    exact ⟨_, _, F, PySem.W.mg_of X G a_law, F.binds (ps := ["_law_script"]) fun _ _ _ _ _ _ us hl => match us, hl with | [_], _ => rfl⟩
  refine ⟨PySem.W.fnOf "law" "law" (defArgs s_law) (defBody s_law) (defScope s_law) .none kV_law dc_law pm_law an_law cd_law ct_law, fun s v => .of_eq rfl, fun base _ _ => ?_⟩
  have h_is_integer : Has l.prog w K mg base 1 "is_integer" ["given"] [] spIsInt := D_is_integer.has fun _ _ F => ok_is_integer F T
  have h2_is_tick : Has l.prog w K mg base 2 "is_tick" ["given", "least"] [.int 0] spIsTick ∧ Has l.prog w K mg base 2 "is_tick" ["given", "least"] [] spIsTick := D_is_tick.has fun _ _ F => ok_is_tick F T h_is_integer
  have h_is_base : Has l.prog w K mg base 2 "is_base" ["given"] [] spIsBase := D_is_base.has fun _ _ F => ok_is_base F h_is_integer
  have h_check_base : Has l.prog w K mg base 3 "check_base" ["base"] [] spCheckBase := D_check_base.has fun _ _ F => ok_check_base F h_is_base
  have h2_check_tick : Has l.prog w K mg base 3 "check_tick" ["tick", "least"] [.int 0] spCheckTick ∧ Has l.prog w K mg base 3 "check_tick" ["tick", "least"] [] spCheckTick := D_check_tick.has fun _ _ F => ok_check_tick F h2_is_tick.2
  have h_level_and_size : Has l.prog w K mg base 1 "level_and_size" ["base", "now", "due"] [] spLevel := D_level_and_size.has fun _ _ F => ok_level_and_size F 
  have h_path : Has l.prog w K mg base 2 "path" ["base", "now", "due"] [] spPath := D_path.has fun _ _ F => ok_path F h_level_and_size
  have h_dues_to_try : Has l.prog w K mg base 1 "dues_to_try" ["base", "first", "behind"] [] spDues := D_dues_to_try.has fun _ _ F => ok_dues_to_try F 
  have h_costliest : Has l.prog w K mg base 4 "costliest" ["base", "now", "first", "behind"] [] spCostliest := D_costliest.has fun _ _ F => ok_costliest F T h_check_base h2_check_tick.1 h2_check_tick.2 h_dues_to_try h_path
  have h_law_cell_at : Has l.prog w K mg base 1 "_law_cell_at" ["_law_script", "_law_k"] [] (spCellAt K) := D_law_cell_at.has fun _ _ F => ok_cell_at F T
  have h_law_mixed : Has l.prog w K mg base 1 "_law_mixed" ["_law_cell", "_law_k"] [] spMixed := D_law_mixed.has fun _ _ F => ok_mixed F 
  have h_law_source : Has l.prog w K mg base 2 "_law_source" ["_law_script", "_law_k"] [] (spSource K) := D_law_source.has fun _ _ F => ok_source F T h_law_cell_at h_law_mixed
  have h_law_next : Has l.prog w K mg base 2 "_law_next" ["_law_source_here", "_law_many"] [] spNext := D_law_next.has fun _ _ F => ok_next F h_law_mixed
  have h_law_base : Has l.prog w K mg base 3 "_law_base" ["_law_source_here"] [] spBase := D_law_base.has fun _ _ F => ok_base F h_law_next
  have h_law_tick : Has l.prog w K mg base 3 "_law_tick" ["_law_source_here", "_law_base_here"] [] spTick := D_law_tick.has fun _ _ F => ok_tick F T h_law_next
  have h_law_pair : Has l.prog w K mg base 4 "_law_pair" ["_law_source_here", "_law_base_here"] [] spPair := D_law_pair.has fun _ _ F => ok_pair F T h_law_next h_law_tick
  have h_law_range : Has l.prog w K mg base 5 "_law_range" ["_law_source_here", "_law_base_here"] [] spRange := D_law_range.has fun _ _ F => ok_range F T h_law_next h_law_tick h_law_pair
  have h_law_level : Has l.prog w K mg base 1 "_law_level" ["_law_base_here", "_law_now", "_law_due"] [] spLawLevel := D_law_level.has fun _ _ F => ok_law_level F 
  have h_law_moves : Has l.prog w K mg base 2 "_law_moves" ["_law_base_here", "_law_now", "_law_due"] [] spLawMoves := D_law_moves.has fun _ _ F => ok_law_moves F T h_law_level
  have h_law_ends : Has l.prog w K mg base 1 "_law_ends" ["_law_base_here", "_law_first", "_law_last"] [] spEnds := D_law_ends.has fun _ _ F => ok_ends F T
  have h_law_best : Has l.prog w K mg base 3 "_law_best" ["_law_base_here", "_law_now", "_law_first", "_law_behind"] [] spBest := D_law_best.has fun _ _ F => ok_best F T h_law_ends h_law_moves
  exact ok_law (fun_mk (st := s_law) l_law c_law k_law) T h_law_source h_law_base h_law_range h_law_moves h_costliest h_law_next h_law_best
end Td
open PySem PySem.W PyProof.Rows in
set_option maxRecDepth 100000 in
set_option maxHeartbeats 0 in
theorem PySem.Challenge.cw_timerdeque_k17_costliest_due_ticks_holds : PySem.Challenge.rw_timerdeque_k17_costliest_due_ticks.Holds := by
  w_on; o_law; k_head; (case hw => w_witness2)
  k_fill
  refine L2.walk_of (l := PySem.Challenge.rw_timerdeque_k17_costliest_due_ticks) (n := 63) (k := 6) (x := "_law_script") (CX := fun _ => L2.CX0) (sp := fun w => Td.spLaw _) rfl (by decide) rfl ⟨rfl, by decide, by decide⟩ (fun w h Y => PySem.W.kIn_of Y) ?F (fun _ _ a ns hl _ hS => ⟨a, ns, rfl, hS, hl, fun _ => rfl⟩) (fun _ _ _ _ _ h => h)
  case F =>
    intro w mg fa h KX G hmg
    refine' Td.all_mk KX G hmg ?a_is_integer ?l_is_integer ?c_is_integer ?k_is_integer ?a_is_base ?l_is_base ?c_is_base ?k_is_base ?a_is_tick ?l_is_tick ?t_is_tick ?c_is_tick ?k_is_tick ?a_check_base ?l_check_base ?c_check_base ?k_check_base ?a_check_tick ?l_check_tick ?t_check_tick ?c_check_tick ?k_check_tick ?a_level_and_size ?l_level_and_size ?c_level_and_size ?k_level_and_size ?a_path ?l_path ?c_path ?k_path ?a_dues_to_try ?l_dues_to_try ?c_dues_to_try ?k_dues_to_try ?a_costliest ?l_costliest ?c_costliest ?k_costliest ?a_law_cell_at ?l_law_cell_at ?c_law_cell_at ?k_law_cell_at ?a_law_mixed ?l_law_mixed ?c_law_mixed ?k_law_mixed ?a_law_source ?l_law_source ?c_law_source ?k_law_source ?a_law_next ?l_law_next ?c_law_next ?k_law_next ?a_law_base ?l_law_base ?c_law_base ?k_law_base ?a_law_tick ?l_law_tick ?c_law_tick ?k_law_tick ?a_law_level ?l_law_level ?c_law_level ?k_law_level ?a_law_pair ?l_law_pair ?c_law_pair ?k_law_pair ?a_law_range ?l_law_range ?c_law_range ?k_law_range ?a_law_moves ?l_law_moves ?c_law_moves ?k_law_moves ?a_law_ends ?l_law_ends ?c_law_ends ?k_law_ends ?a_law_best ?l_law_best ?c_law_best ?k_law_best ?a_law ?l_law ?c_law ?k_law ?z_isinstance ?z_int ?z_bool ?z_min ?z_len ?z_range ?z_max
    (case a_is_integer => k_is)
    (case l_is_integer => k_is)
    (case c_is_integer => k_is)
    (case k_is_integer => k_is)
    (case a_is_base => k_is)
    (case l_is_base => k_is)
    (case c_is_base => k_is)
    (case k_is_base => k_is)
    (case a_is_tick => k_is)
    (case l_is_tick => k_is)
    (case t_is_tick => k_is)
    (case c_is_tick => k_is)
    (case k_is_tick => k_is)
    (case a_check_base => k_is)
    (case l_check_base => k_is)
    (case c_check_base => k_is)
    (case k_check_base => k_is)
    (case a_check_tick => k_is)
    (case l_check_tick => k_is)
    (case t_check_tick => k_is)
    (case c_check_tick => k_is)
    (case k_check_tick => k_is)
    (case a_level_and_size => k_is)
    (case l_level_and_size => k_is)
    (case c_level_and_size => k_is)
    (case k_level_and_size => k_is)
    (case a_path => k_is)
    (case l_path => k_is)
    (case c_path => k_is)
    (case k_path => k_is)
    (case a_dues_to_try => k_is)
    (case l_dues_to_try => k_is)
    (case c_dues_to_try => k_is)
    (case k_dues_to_try => k_is)
    (case a_costliest => k_is)
    (case l_costliest => k_is)
    (case c_costliest => k_is)
    (case k_costliest => k_is)
    (case a_law_cell_at => k_is)
    (case l_law_cell_at => k_is)
    (case c_law_cell_at => k_is)
    (case k_law_cell_at => k_is)
    (case a_law_mixed => k_is)
    (case l_law_mixed => k_is)
    (case c_law_mixed => k_is)
    (case k_law_mixed => k_is)
    (case a_law_source => k_is)
    (case l_law_source => k_is)
    (case c_law_source => k_is)
    (case k_law_source => k_is)
    (case a_law_next => k_is)
    (case l_law_next => k_is)
    (case c_law_next => k_is)
    (case k_law_next => k_is)
    (case a_law_base => k_is)
    (case l_law_base => k_is)
    (case c_law_base => k_is)
    (case k_law_base => k_is)
    (case a_law_tick => k_is)
    (case l_law_tick => k_is)
    (case c_law_tick => k_is)
    (case k_law_tick => k_is)
    (case a_law_level => k_is)
    (case l_law_level => k_is)
    (case c_law_level => k_is)
    (case k_law_level => k_is)
    (case a_law_pair => k_is)
    (case l_law_pair => k_is)
    (case c_law_pair => k_is)
    (case k_law_pair => k_is)
    (case a_law_range => k_is)
    (case l_law_range => k_is)
    (case c_law_range => k_is)
    (case k_law_range => k_is)
    (case a_law_moves => k_is)
    (case l_law_moves => k_is)
    (case c_law_moves => k_is)
    (case k_law_moves => k_is)
    (case a_law_ends => k_is)
    (case l_law_ends => k_is)
    (case c_law_ends => k_is)
    (case k_law_ends => k_is)
    (case a_law_best => k_is)
    (case l_law_best => k_is)
    (case c_law_best => k_is)
    (case k_law_best => k_is)
    (case a_law => k_is)
    (case l_law => k_is)
    (case c_law => k_is)
    (case k_law => k_is)
    (case z_isinstance => k_is)
    (case z_int => k_is)
    (case z_bool => k_is)
    (case z_min => k_is)
    (case z_len => k_is)
    (case z_range => k_is)
    (case z_max => k_is)
