import PyProof.Rows.All
import Wide.All
import OpenK.AllK
import Wide.FinOn
import HandS.ForMost
import HandS.IsInst
import HandS.Wide
import HandS.WideBits
import HandS.Iter
import HandS.NoneIn
import PyProof.LongRange
import HandS.Defaults
import HandS.Zip
import HandS.Flow
import HandS.SortKw
import HandS.SortOrd
import KE.DatumOrd
import HandS.Conv
import HandS.More
import HandS.Small
import HandS.Exc
import HandS.ExcOwn
import HandS.ExcIs
import HandS.TryOnly
import HandS.WordsExc
import HandS.Lambda
import HandS.EndTab
import KE.KNestM
import PySem.Challenge.RW_timerdeque_k36_whole_counts_of_great_ran
set_option Elab.async false
set_option linter.all false
set_option maxRecDepth 100000
set_option maxHeartbeats 4000000
set_option exponentiation.threshold 10000
namespace Td
open PySem PySem.Spec PyProof.Rows L2
/-! ### small things: promises by name, heaps, numbers -/
section
variable {P : Program} {w : World} {K : PySem.W.Frag} {mg : Str → Option Value} {base : Heap}
/-- the module's name x holds a def that keeps the promise sp, its last parameters filled up by dvs -/
def Has (P : Program) (w : World) (K : PySem.W.Frag) (mg : Str → Option Value) (base : Heap) (k : Nat) (x : Str) (ps : List Str) (dvs : List V) (sp : Sp) : Prop :=
  ∃ (f : Addr) (fd : FuncData) (ds : List Value), FnOk P w K mg base CX0 k f fd ps sp ∧ mg x = some (.ref f) ∧ PySem.W.keepIn K (.ref f) = true ∧ Binds K fd ps ds ∧ Vals dvs ds
/-- what the top says of a def without defaults -/
def Df (K : PySem.W.Frag) (mg : Str → Option Value) (x : Str) (st : Stmt) (ps : List Str) : Prop :=
  ∃ (f : Addr) (fd : FuncData), Fun K x x st f fd ∧ mg x = some (.ref f) ∧ Binds K fd ps []
theorem Df.has {k : Nat} {x : Str} {st : Stmt} {ps : List Str} {sp : Sp} (D : Df K mg x st ps) (ok : ∀ f fd, Fun K x x st f fd → FnOk P w K mg base CX0 k f fd ps sp) : Has P w K mg base k x ps [] sp := by
  obtain ⟨f, fd, F, m, b⟩ := D
  exact ⟨f, fd, [], ok f fd F, m, F.kp, b, .nil⟩
/-- a def with one default, the last parameter's -/
def Dd (K : PySem.W.Frag) (mg : Str → Option Value) (x : Str) (st : Stmt) (ps : List Str) (d : V) : Prop :=
  ∃ (f : Addr) (fd : FuncData), FunD K x x (defArgs st) (defBody st) (defScope st) [d] [] f fd ∧ mg x = some (.ref f) ∧ (∃ ds, Vals [d] ds ∧ Binds K fd ps ds) ∧ Binds K fd ps []
theorem Dd.has {k : Nat} {x : Str} {st : Stmt} {ps : List Str} {d : V} {sp : Sp} (D : Dd K mg x st ps d) (ok : ∀ f fd, FunD K x x (defArgs st) (defBody st) (defScope st) [d] [] f fd → FnOk P w K mg base CX0 k f fd ps sp) :
    Has P w K mg base k x ps [d] sp ∧ Has P w K mg base k x ps [] sp := by
  obtain ⟨f, fd, F, m, ⟨ds, r, b⟩, b0⟩ := D
  exact ⟨⟨f, fd, ds, ok f fd F, m, F.kp, b, r⟩, ⟨f, fd, [], ok f fd F, m, F.kp, b0, .nil⟩⟩
end
section
variable {X : Cx}
/-- a product of which one side is small, or both are not too great -/
def CMulA (i j : Int) : Prop := IntMulOk i j
theorem op_mulA : OpR X (binaryOp .Mult) (rI CMulA fun i j => .int (i * j)) := opI fun _ _ _ _ _ _ _ hc q => mul_int q hc
end
/-! x *= e, ints -/
section
variable {X : Cx}
def ipC (C : Int → Int → Prop) (f : Int → Int → Int) : TIp := fun x y H Q => ∃ i j, x = .int i ∧ y = .int j ∧ C i j ∧ Q (.int (f i j)) H
theorem ip_mulA : PIp X .Mult (ipC CMulA fun i j => i * j) := by
  intro pins s σ H x y v u Q I r1 r2 h
  obtain ⟨i, j, rfl, rfl, hm, q⟩ := h
  obtain ⟨t, rfl⟩ := r1
  obtain ⟨t', rfl⟩ := r2
  exact imul_int ⟨.int _, H, I.tok _, ⟨_, rfl⟩, q⟩ hm
end
theorem mul_l {i j : Int} (h1 : -(2 ^ 64) < i) (h2 : i < 2 ^ 64) : CMulA i j := CMul.ok (.inl ⟨h1, h2⟩)
theorem mul_r {i j : Int} (h1 : -(2 ^ 64) < j) (h2 : j < 2 ^ 64) : CMulA i j := CMul.ok (.inr ⟨h1, h2⟩)
theorem mul_w {i j : Int} (a b : Nat) (ha : i.natAbs < 2 ^ a) (hb : j.natAbs < 2 ^ b) (h0 : 0 < a := by decide) (h1 : 0 < b := by decide) (h : a + b ≤ 1000000 := by decide) : CMulA i j := (wide_mul ha hb h0 h1 h).ok
theorem div_s {i j : Int} (h : 0 < j) (h2 : j < 2 ^ 300) : CDivW i j := wide_div (b := 300) h (by omega) (by decide) (by decide)
theorem div_b {i j : Int} (b : Nat) (h : 0 < j) (h2 : j < 2 ^ b) (h0 : 0 < b := by decide) (h9 : b ≤ 9000 := by decide) : CDivW i j := by
  refine wide_div (b := b) h ?_ h0 h9
  have e : ((2 ^ b : Nat) : Int) = (2 : Int) ^ b := by
    rw [Int.natCast_pow]
    rfl
  omega
theorem same_upd {H : Hp} {p : Addr} {o : HO} (h : H p = none) : Same H (upd H p o) := fun b x e => by
  rw [upd_ne (ne_of_none e h)]
  exact e
theorem sizeLine_ge {n : Nat} (h : n ≤ 1000000) : n < sizeLine := by
  rw [sizeLine_eq]
  omega
theorem sizeLine_le {n : Nat} (h : n ≤ 1000000) : n ≤ sizeLine := Nat.le_of_lt (sizeLine_ge h)
theorem pos_of {a c : Nat} (h : a ≤ c) (n : ¬ a = c) : 0 < c := by omega
/-! ### operators on numbers that are not negative -/
def rN (C : Nat → Nat → Prop) (g : Nat → Nat → Nat) : R2 := fun x y H Q => ∃ a b : Nat, x = .int (a : Nat) ∧ y = .int (b : Nat) ∧ C a b ∧ Q (.int ((g a b : Nat) : Int)) H
section
variable {X : Cx}
theorem opN {f : Value → Value → Sem Value} {C : Nat → Nat → Prop} {g : Nat → Nat → Nat} {CI : Int → Int → Prop} {gI : Int → Int → V} (h : OpR X f (rI CI gI)) (e : ∀ a b : Nat, C a b → CI (a : Nat) (b : Nat) ∧ gI (a : Nat) (b : Nat) = .int ((g a b : Nat) : Int)) : OpR X f (rN C g) := by
  intro pins s σ H x y v u Q I rx ry hq
  obtain ⟨a, b, ex, ey, hc, q⟩ := hq
  obtain ⟨h1, h2⟩ := e a b hc
  exact h pins s σ H x y v u Q I rx ry ⟨_, _, ex, ey, h1, by rw [h2]; exact q⟩
theorem opN0 {f : Value → Value → Sem Value} {C : Nat → Nat → Prop} {g : Nat → Nat → Nat} {gI : Int → Int → V} (h : OpR X f (rI0 gI)) (e : ∀ a b : Nat, C a b → gI (a : Nat) (b : Nat) = .int ((g a b : Nat) : Int)) : OpR X f (rN C g) := by
  intro pins s σ H x y v u Q I rx ry hq
  obtain ⟨a, b, ex, ey, hc, q⟩ := hq
  exact h pins s σ H x y v u Q I rx ry ⟨_, _, ex, ey, by rw [e a b hc]; exact q⟩
def NDiv (_ b : Nat) : Prop := 0 < b ∧ b < 2 ^ 9000
def NMod (_ b : Nat) : Prop := 0 < b
def NSub (a b : Nat) : Prop := b ≤ a
def NMul (a b : Nat) : Prop := IntMulOk (a : Int) (b : Int)
def NAny (_ _ : Nat) : Prop := True
theorem op_divN : OpR X (binaryOp .FloorDiv) (rN NDiv fun a b => a / b) := opN op_fdivW fun a b h => ⟨wide_div (b := 9000) (Int.natCast_pos.mpr h.1) h.2 (by decide) (Nat.le_refl _), rfl⟩
theorem op_remN : OpR X (binaryOp .Mod) (rN NMod fun a b => a % b) := opN op_mod fun a b h => ⟨Int.natCast_pos.mpr h, rfl⟩
theorem op_mulN : OpR X (binaryOp .Mult) (rN NMul fun a b => a * b) := opN op_mulA fun a b h => ⟨h, congrArg V.int (Int.natCast_mul a b).symm⟩
theorem op_addN : OpR X (binaryOp .Add) (rN NAny fun a b => a + b) := opN0 op_add fun _ _ _ => rfl
theorem op_subN : OpR X (binaryOp .Sub) (rN NSub fun a b => a - b) := opN0 op_sub fun a b h => congrArg V.int (Int.natCast_sub h).symm
end
theorem ndiv {a b : Nat} (t : Nat) (h : 0 < b) (h2 : b < 2 ^ t) (ht : t ≤ 9000 := by decide) : NDiv a b := ⟨h, Nat.lt_of_lt_of_le h2 (Nat.pow_le_pow_right (by decide) ht)⟩
theorem nmul_l {a b : Nat} (h : a < 2 ^ 64) : NMul a b := mul_l (by omega) (by omega)
theorem nmul_r {a b : Nat} (h : b < 2 ^ 64) : NMul a b := mul_r (by omega) (by omega)
theorem nmul_w {a b : Nat} (i j : Nat) (ha : a < 2 ^ i) (hb : b < 2 ^ j) (h0 : 0 < i := by decide) (h1 : 0 < j := by decide) (h : i + j ≤ 1000000 := by decide) : NMul a b := mul_w i j ha hb h0 h1 h
theorem int_ne {a b : Nat} (h : a ≠ b) : decide (V.int (a : Nat) = V.int (b : Nat)) = false := decide_eq_false fun e => h (Int.ofNat.inj (V.int.inj e))
theorem dT {p : Prop} [Decidable p] (h : p) : V.bl (decide p) = V.bl true := congrArg V.bl (decide_eq_true h)
theorem dF {p : Prop} [Decidable p] (h : ¬ p) : V.bl (decide p) = V.bl false := congrArg V.bl (decide_eq_false h)
theorem nT {p : Prop} [Decidable p] (h : ¬ p) : V.bl (!decide p) = V.bl true := congrArg V.bl (congrArg (!·) (decide_eq_false h))
theorem nF {p : Prop} [Decidable p] (h : p) : V.bl (!decide p) = V.bl false := congrArg V.bl (congrArg (!·) (decide_eq_true h))
theorem vN {a b : Nat} (h : a ≠ b) : ¬ V.int (a : Nat) = V.int (b : Nat) := fun e => h (Int.ofNat.inj (V.int.inj e))
theorem vE {a b : Nat} (h : a = b) : V.int (a : Nat) = V.int (b : Nat) := congrArg (fun c : Nat => V.int (c : Nat)) h
theorem vI {a b : Int} (h : a ≠ b) : ¬ V.int a = V.int b := fun e => h (V.int.inj e)
/-! ### rules with the written part named (within a comprehension's block) -/
section
variable {X : Cx} {K : PySem.W.Frag}
theorem ix_tupK (e : X.K = K) : IxR X (rIxT K) := by subst e; exact ix_tup
theorem ix_listK (e : X.K = K) : IxR X (rIxL K) := by subst e; exact ix_list
theorem sl_tupK (e : X.K = K) : SlR X (rSlT K) := by subst e; exact sl_tup
theorem sl_listK (e : X.K = K) : SlR X (rSlL K) := by subst e; exact sl_list
theorem op_eqK (e : X.K = K) (hu : X.A.units + 64 < cLine) : OpR X (compareOp .Eq) (rEqD K) := by subst e; exact op_eqD hu
theorem op_neK (e : X.K = K) (hu : X.A.units + 64 < cLine) : OpR X (compareOp .NotEq) (rNeD K) := by subst e; exact op_neD hu
theorem isiK (e : X.K = K) : CallR X (.builtin "isinstance") (rIsi K) := by subst e; exact call_isi
def rLenK (K : PySem.W.Frag) : List V → Hp → VK → Prop := fun xs H Q => ∃ p ys, xs = [.ref p] ∧ (SqL K H p ys ∨ SqT K H p ys) ∧ Q (.int ys.length) H
theorem lenK (e : X.K = K) : CallR X (.builtin "len") (rLenK K) := by subst e; exact call_len_seq
theorem allK (e : X.K = K) (hc : X.calm = true) : CallR X (.builtin "all") (rAll K) := by subst e; exact cr_all hc
theorem sumK (e : X.K = K) (hc : X.calm = true) : CallR X (.builtin "sum") (rSum K) := by subst e; exact cr_sum hc
theorem maxK (e : X.K = K) (hc : X.calm = true) : CallR X (.builtin "max") (rMax K) := by subst e; exact cr_max hc
theorem minK (e : X.K = K) (hc : X.calm = true) : CallR X (.builtin "min") (rMin K) := by subst e; exact cr_min hc
theorem anyK (e : X.K = K) (hc : X.calm = true) : CallR X (.builtin "any") (rAny K) := by subst e; exact cr_any hc
end
section
variable {X : Cx} {K : PySem.W.Frag}
theorem ix_ltK (e : X.K = K) : IxR X (fun x y H Q => rIxL K x y H Q ∨ rIxT K x y H Q) := by subst e; exact ix_list.or ix_tup
theorem pe_orTK {a b : Expr} {ta tb : TE} {rest : List Expr} {pos : Pos} (e : X.K = K) (ha : PE X a ta) (hb : PE X (.BoolOp .Or (b :: rest) pos) tb) : PE X (.BoolOp .Or (a :: b :: rest) pos) (tOrT K ta tb) := by subst e; exact pe_orT ha hb
end
theorem yesT {σ : L2.St} {H : Hp} {Q : Bool → Hp → Prop} (h : Q true H) : tYes σ H Q := h
section
variable {X : Cx} {K : PySem.W.Frag}
theorem pg_tupK {es : List Expr} {k : Nat} {t : TGs} {n : Nat} {pos : Pos} (e : X.K = K) (hc : X.calm = true) (h : PGs X es t)
    (hn : (assignEach es X.env).length = n := by rfl) (hst : (assignEach es X.env).findIdx? (·.1) = none := by rfl) : PG X (.Tuple es k pos) (gTup K n t) := by
  subst e
  exact pg_tup hc h hn hst
end
theorem tyx_list {K : PySem.W.Frag} {H : Hp} {a : Addr} {xs : List V} (h : SqL K H a xs) : TyX K H (.ref a) (.type "list") := by
  rcases h with (h | ⟨o, h⟩) | ⟨o, its, n, h, hc, _⟩
  · exact .base (.lst h)
  · exact .base (.frz h)
  · exact .kList h hc
/-- max and min of two numbers that are not negative -/
def rNN (g : Nat → Nat → Nat) : List V → Hp → VK → Prop := fun xs H Q => ∃ a b : Nat, xs = [.int (a : Nat), .int (b : Nat)] ∧ Q (.int ((g a b : Nat) : Int)) H
section
variable {X : Cx}
theorem max2N (hc : X.calm = true) : CallR X (.builtin "max") (rNN max) := by
  intro pins s σ H xs us Q I r h
  obtain ⟨a, b, rfl, q⟩ := h
  refine call_max2 hc pins s σ H _ us Q I r ⟨_, _, rfl, ?_⟩
  have e : (if (b : Int) > (a : Int) then (b : Int) else (a : Int)) = ((max a b : Nat) : Int) := by split <;> omega
  rw [e]
  exact q
theorem max0N (hc : X.calm = true) : CallR X (.builtin "max") (fun xs H Q => ∃ (z : Int) (n : Nat), xs = [.int 0, .int z] ∧ (if z > 0 then z else 0) = (n : Int) ∧ Q (.int (n : Nat)) H) := by
  intro pins s σ H xs us Q I r h
  obtain ⟨z, n, rfl, e, q⟩ := h
  refine call_max2 hc pins s σ H _ us Q I r ⟨0, z, rfl, ?_⟩
  rw [e]
  exact q
theorem min2N (hc : X.calm = true) : CallR X (.builtin "min") (rNN min) := by
  intro pins s σ H xs us Q I r h
  obtain ⟨a, b, rfl, q⟩ := h
  refine call_min2 hc pins s σ H _ us Q I r ⟨_, _, rfl, ?_⟩
  have e : (if (b : Int) < (a : Int) then (b : Int) else (a : Int)) = ((min a b : Nat) : Int) := by split <;> omega
  rw [e]
  exact q
end
/-- one rest behind several ways -/
theorem cut_at {α : Type} {I : α → Hp → Prop} {G : Prop} (R : α → Hp → Prop) (h1 : (∀ a H, I a H → R a H) → G) (h2 : ∀ a H, I a H → R a H) : G := h1 h2
theorem cut_rest {I : Hp → Prop} {G : Prop} (R : Hp → Prop) (h1 : (∀ H, I H → R H) → G) (h2 : ∀ H, I H → R H) : G := h1 h2
/-! ### range over numbers of any size -/
theorem turn_long {P : Program} {w : World} {K : PySem.W.Frag} {tg : Expr} (r : Addr) (lo c : Int) (n : Nat) :
    Turn P w K tg (Itc lo c n) [r] r (fun i hp => IsLongIter hp r (lo + (i : Nat) * c) ((n : Int) - (i : Nat)) c) where
  mem := List.mem_singleton.mpr rfl
  obj := fun _ _ here b hb => by
    cases List.mem_singleton.mp hb
    exact ⟨_, here, fun _ z => nomatch z⟩
  keep := fun _ _ _ here same => same r (List.mem_singleton.mpr rfl) _ here
  item := by
    intro Y y1 y2 y3 calm i pins s σ H E inv own here more
    subst y1; subst y2; subst y3
    have o := own r (List.mem_singleton.mpr rfl)
    refine (Walks.longrange (prog := Y.prog) (w := Y.w) (inv.ok.hd calm) r lo c n).item i s _ _ more here fun v h2 k hv next keep => ?_
    obtain ⟨t, rfl⟩ := hv
    have inv2 : Inv Y pins σ H { s with heap := h2, toks := k } := inv.turned (fun b ob hb e => keep b ob (fun z => hb (List.mem_singleton.mp z)) e) o.1 o.2.1 o.2.2.2.1 o.2.2.2.2.1 o.2.2.2.2.2
    have stay : ∀ b ∈ [r], H b = none := fun b hb => (own b hb).1
    exact ⟨_, rfl, go_of (s := { s with heap := h2, toks := k }) (n := "longrange_iterator") next rfl rfl (by decide) ⟨.int (lo + (i : Nat) * c), H, inv2, ⟨t, rfl⟩, ⟨rfl, rfl⟩, next, stay⟩⟩
  done := by
    intro Y y1 y2 y3 calm i pins s σ H E inv own here over
    subst y1; subst y2; subst y3
    have o := own r (List.mem_singleton.mpr rfl)
    have le : n ≤ i := over
    exact wpAny_pyNext_long_end (inv.ok.hd calm) here (by omega) fun h2 same => ⟨rfl, inv.turned (t' := s.toks) (fun b ob hb e => same b ob hb e) o.1 o.2.1 o.2.2.2.1 o.2.2.2.2.1 o.2.2.2.2.2⟩
  self := fun _ _ _ _ _ here h => wpAny_pyIter_longiter here h
/-- a range object just made, whatever its size -/
theorem range_wide {X : Cx} {tg : Expr} {pins : List (Addr × Obj)} {σ : L2.St} {H : Hp} {s : Shared} {R : It → Hp → Prop} {E : Value → Shared → Prop} {lo hi c : Int} {t u v : Tok} {tk n : Nat} (I : Inv X pins σ H s)
    (hn : Builtin.Range.rangeSize lo hi c = n) (q : R (Itc lo c n) H) :
    wpAny (model X.prog X.w) X.A (pyIter (.ref s.heap.objs.size)) (PIE X pins σ tg R) E { s with heap := s.heap.push { cls := .type "range", data := .fields #[.int lo t, .int hi u, .int c v] }, toks := tk } := by
  have made : Inv X pins σ H { s with heap := s.heap.push { cls := .type "range", data := .fields #[.int lo t, .int hi u, .int c v] }, toks := tk } := I.kept fun b ob e => Heap.get?_push_of_some _ e
  have e0 : lo + ((0 : Nat) : Int) * c = lo := by simp
  have e9 : (n : Int) - ((0 : Nat) : Int) = Builtin.Range.rangeSize lo hi c := by
    rw [hn]
    simp
  cases small : Builtin.Range.small lo hi c with
  | true =>
    refine wpAny_pyIter_range (IsRange.new ..) small (pi_one (tk := tk) made _ (turn_rangeC _ lo c n) ?_ q)
    show IsRangeIter _ _ (lo + ((0 : Nat) : Int) * c) ((n : Int) - ((0 : Nat) : Int)) c
    rw [e0, e9]
    exact Heap.get?_push_size _ rfl
  | false =>
    refine wpAny_pyIter_longrange (IsRange.new ..) small (pi_one (tk := tk) made _ (turn_long _ lo c n) ?_ q)
    show IsLongIter _ _ (lo + ((0 : Nat) : Int) * c) ((n : Int) - ((0 : Nat) : Int)) c
    rw [e0, e9]
    exact Heap.get?_push_size _ rfl
theorem itc_one (lo : Int) (n : Nat) : Itc lo 1 n = Itr lo n := by
  unfold Itc Itr
  congr 1
  funext i H x H'
  rw [Int.mul_one]
def iWide2 (ta : TA) : TI := fun σ H R => ta σ H fun vs H1 => ∃ i j : Int, vs = [.int i, .int j] ∧ R (Itr i (j - i).toNat) H1
def iWide3 (ta : TA) : TI := fun σ H R => ta σ H fun vs H1 => ∃ (i j c : Int) (n : Nat), vs = [.int i, .int j, .int c] ∧ CDivP (j - i) c ∧ Builtin.Range.rangeSize i j c = n ∧ R (Itc i c n) H1
section
variable {X : Cx} {tg : Expr}
theorem pi_wide2 {a b : Expr} {ta : TA} {p pos : Pos} (hg : Gl X "range") (hm : X.mg "range" = none) (ha : PA X [a, b] ta) (h2 : starEach [a, b] X.env = [(false, eval a X.env), (false, eval b X.env)] := by rfl) (h1 : starEach [b] X.env = [(false, eval b X.env)] := by rfl) :
    PI X tg (.Call (.Name "range" p) [a, b] [] pos) (iWide2 ta) := by
  refine ⟨fun pins s σ H R I h => Call_ (ld_blt I hg hm boot_range (PyProof.Rows.callWith_type1 (thn (ha.run pos pins s σ H _ I h) fun us s1 ⟨vs, H1, I1, r1, q1⟩ => ?_) (by rw [h2, h1]) (by rw [h1]; rfl)))⟩
  obtain ⟨i, j, rfl, q⟩ := q1
  obtain ⟨u1, u2, rfl, ⟨t, rfl⟩, ⟨t', rfl⟩⟩ := vals2 r1
  refine call_range_2 (range_wide (n := (j - i).toNat) I1 ?_ (by rw [itc_one]; exact q))
  rw [rangeSize_one]
  split <;> omega
theorem pi_wide3 {a b c : Expr} {ta : TA} {p pos : Pos} (hg : Gl X "range") (hm : X.mg "range" = none) (ha : PA X [a, b, c] ta)
    (h3 : starEach [a, b, c] X.env = (false, eval a X.env) :: starEach [b, c] X.env := by rfl) (hn : (backTo pos (starEach [b, c] X.env)).any (·.1) = false := by rfl) :
    PI X tg (.Call (.Name "range" p) [a, b, c] [] pos) (iWide3 ta) := by
  refine ⟨fun pins s σ H R I h => Call_ (ld_blt I hg hm boot_range (PyProof.Rows.callWith_type1 (thn (ha.run pos pins s σ H _ I h) fun us s1 ⟨vs, H1, I1, r1, q1⟩ => ?_) h3 hn))⟩
  obtain ⟨i, j, k, n, rfl, hk, hz, q⟩ := q1
  cases r1 with
  | cons ra rr =>
    obtain ⟨u2, u3, rfl, ⟨t', rfl⟩, ⟨t'', rfl⟩⟩ := vals2 rr
    obtain ⟨t, rfl⟩ := ra
    have k0 : k ≠ 0 := fun z => by
      have := hk.1
      omega
    exact call_range_3 k0 (range_wide (tk := s1.toks) I1 hz q) (.inl hk.2)
end
/-- a list made over a range with a step -/
theorem lc_step {lo c : Int} {n : Nat} {g : TG} {tt : TT} {te : TE} {ws : List Nat} {σ : L2.St} {G : Hp} {D : Addr} {Qd : Hp → Prop} (Pv : Nat → Hp → Prop) (start : Pv 0 (upd G D (.lst [])))
    (step : ∀ i G, i < n → Pv i G → g (.int (lo + (i : Nat) * c)) (wipe σ ws) G fun τ G2 => wipe τ ws = wipe σ ws ∧ tt τ G2 fun k G3 => if k = true then te τ G3 fun z G4 => ∃ ac, G4 D = some (.lst ac) ∧ ac.length < sizeLine ∧ Pv (i + 1) (upd G4 D (.lst (ac ++ [z]))) else Pv (i + 1) G3)
    (last : ∀ G, Pv n G → Qd G) : ∃ W : Nat → Nat → Hp → Prop, (∃ m, W 0 m (upd G D (.lst []))) ∧ ∀ i m G, W i m G → ((Itc lo c n).stop i G ∧ Qd G) ∨
      ((Itc lo c n).go i G ∧ ∃ N : Hp → Prop, (∀ G', N G' → ∃ m', m' < m ∧ W (i + 1) m' G') ∧ ∀ x G', (Itc lo c n).yld i G x G' → g x (wipe σ ws) G' fun τ G2 => wipe τ ws = wipe σ ws ∧ tt τ G2 fun k G3 => if k = true then te τ G3 fun z G4 => ∃ ac, G4 D = some (.lst ac) ∧ ac.length < sizeLine ∧ N (upd G4 D (.lst (ac ++ [z]))) else N G3) := by
  refine ⟨fun i m G => (m = n - i ∧ i ≤ n) ∧ Pv i G, ⟨n, ⟨rfl, Nat.zero_le _⟩, start⟩, ?_⟩
  rintro i m G ⟨⟨rfl, le⟩, pv⟩
  rcases Nat.lt_or_ge i n with lt | ge
  · exact .inr ⟨lt, Pv (i + 1), fun G' p' => ⟨n - (i + 1), by omega, ⟨rfl, lt⟩, p'⟩, fun x G' ⟨e1, e2⟩ => by
      rw [e1, e2]
      exact step i G lt pv⟩
  · have e : i = n := Nat.le_antisymm le ge
    rw [e] at pv ⊢
    exact .inl ⟨Nat.le_refl _, last G pv⟩
/-! ### digits: the mathematics -/
/-- k is the level of d at n -/
def IsLev (b n d k : Nat) : Prop := n / b ^ (k + 1) = d / b ^ (k + 1) ∧ ∀ j, j < k → n / b ^ (j + 1) ≠ d / b ^ (j + 1)
abbrev Row3 := Nat × Nat × Nat
/-- the stations below level k -/
def tailOf (b d : Nat) : Nat → List Row3
  | 0 => []
  | k + 1 => if d / b ^ k % b ≠ 0 then (k, d / b ^ k % b, d / b ^ (k + 1) * b ^ (k + 1)) :: tailOf b d k else tailOf b d k
/-- the stations of a timer set at n, k its level -/
def rowsOf (b n d k : Nat) : List Row3 := (k, d / b ^ k % b, n) :: tailOf b d k
theorem div_succ (n b k : Nat) : n / b ^ (k + 1) = n / b ^ k / b := by
  rw [Nat.pow_succ, Nat.div_div_eq_div_mul]
theorem pow_pos' {b : Nat} (h : 2 ≤ b) (k : Nat) : 0 < b ^ k := Nat.pow_pos (by omega)
theorem IsLev.uniq {b n d k k' : Nat} (h : IsLev b n d k) (h' : IsLev b n d k') : k = k' := by
  rcases Nat.lt_trichotomy k k' with l | l | l
  · exact absurd h.1 (h'.2 k l)
  · exact l
  · exact absurd h'.1 (h.2 k' l)
theorem IsLev.ne {b n d k : Nat} (h : IsLev b n d k) (hnd : n < d) : n / b ^ k < d / b ^ k := by
  cases k with
  | zero =>
    rw [Nat.pow_zero, Nat.div_one, Nat.div_one]
    exact hnd
  | succ j =>
    have h1 := h.2 j (Nat.lt_succ_self j)
    have h2 : n / b ^ (j + 1) ≤ d / b ^ (j + 1) := Nat.div_le_div_right (Nat.le_of_lt hnd)
    omega
theorem IsLev.size {b n d k : Nat} (h : IsLev b n d k) (hb : 2 ≤ b) (hnd : n < d) : b ^ k ≤ d := by
  have h1 := h.ne hnd
  have h2 : 0 < d / b ^ k := Nat.lt_of_le_of_lt (Nat.zero_le _) h1
  exact (Nat.div_pos_iff.mp h2).2
theorem IsLev.digit {b n d k : Nat} (h : IsLev b n d k) (hnd : n < d) : n / b ^ k % b < d / b ^ k % b := by
  have h1 := h.ne hnd
  have h2 := h.1
  rw [div_succ, div_succ] at h2
  have e1 := Nat.div_add_mod (n / b ^ k) b
  have e2 := Nat.div_add_mod (d / b ^ k) b
  rw [h2] at e1
  omega
theorem pow_two_le {b : Nat} (hb : 2 ≤ b) (k : Nat) : 2 ^ k ≤ b ^ k := Nat.pow_le_pow_left hb k
theorem lev_small {b n d k t : Nat} (h : IsLev b n d k) (hb : 2 ≤ b) (hnd : n < d) (hd : d < 2 ^ t) : k < t := by
  have h1 := h.size hb hnd
  have h2 := pow_two_le hb k
  exact (Nat.pow_lt_pow_iff_right (by decide : 1 < 2)).mp (Nat.lt_of_le_of_lt (Nat.le_trans h2 h1) hd)
/-- cutting below: what two cuts beside one another differ by -/
theorem cut_step (b d k : Nat) : d / b ^ k * b ^ k = d / b ^ (k + 1) * b ^ (k + 1) + d / b ^ k % b * b ^ k := by
  rw [div_succ]
  have e := Nat.div_add_mod (d / b ^ k) b
  have e2 : b ^ (k + 1) = b * b ^ k := by rw [Nat.pow_succ, Nat.mul_comm]
  rw [e2, ← Nat.mul_assoc, ← Nat.add_mul, Nat.mul_comm (d / b ^ k / b) b, e]
theorem cut_le (b d k : Nat) : d / b ^ k * b ^ k ≤ d := Nat.div_mul_le_self d (b ^ k)
theorem cut_mono (b d : Nat) {j k : Nat} (h : j ≤ k) : d / b ^ k * b ^ k ≤ d / b ^ j * b ^ j := by
  induction k with
  | zero =>
    have e : j = 0 := by omega
    rw [e]
    exact Nat.le_refl _
  | succ k ih =>
    by_cases e : j = k + 1
    · rw [e]
      exact Nat.le_refl _
    · have h1 := ih (by omega)
      have h2 := cut_step b d k
      omega
theorem lt_cut {b n d k : Nat} (hb : 2 ≤ b) (h : n / b ^ k < d / b ^ k) : n < d / b ^ k * b ^ k := by
  have hp := pow_pos' hb k
  exact (Nat.div_lt_iff_lt_mul hp).mp h
theorem tail_len (b d : Nat) : ∀ k, (tailOf b d k).length ≤ k
  | 0 => Nat.le_refl _
  | k + 1 => by
    have ih := tail_len b d k
    unfold tailOf
    split
    · rw [List.length_cons]
      omega
    · omega
/-- a later tick that lies ahead of the next cut has the same level -/
theorem IsLev.later {b n d k t : Nat} (hb : 2 ≤ b) (h : IsLev b n d k) (hnd : n < d) (h1 : n ≤ t) (h2 : t < d / b ^ k * b ^ k) : IsLev b t d k := by
  have hp := pow_pos' hb k
  have hp1 := pow_pos' hb (k + 1)
  have htd : t < d := Nat.lt_of_lt_of_le h2 (cut_le b d k)
  refine ⟨?_, fun j hj => ?_⟩
  · have a1 : n / b ^ (k + 1) ≤ t / b ^ (k + 1) := Nat.div_le_div_right h1
    have a2 : t / b ^ (k + 1) ≤ d / b ^ (k + 1) := Nat.div_le_div_right (Nat.le_of_lt htd)
    have a3 := h.1
    omega
  · have a1 : t / b ^ k < d / b ^ k := (Nat.div_lt_iff_lt_mul hp).mpr h2
    intro e
    have e2 : k = (j + 1) + (k - (j + 1)) := by omega
    rw [e2, Nat.pow_add, ← Nat.div_div_eq_div_mul, ← Nat.div_div_eq_div_mul, e] at a1
    omega
/-! ### moves over ranges: the mathematics -/
/-- how many numbers below x have a digit other than 0 where a 1 is worth s -/
def wdN (b s x : Nat) : Nat := x / (s * b) * s * (b - 1) + (x % (s * b) - s)
/-- how many have the digit 0 there -/
def zbN (b s x : Nat) : Nat := x / (s * b) * s + min (x % (s * b)) s
theorem wd_zb {b s : Nat} (hb : 1 ≤ b) (x : Nat) : wdN b s x + zbN b s x = x := by
  unfold wdN zbN
  have e := Nat.div_add_mod x (s * b)
  have e1 : x / (s * b) * s * (b - 1) + x / (s * b) * s = s * b * (x / (s * b)) := by
    rw [← Nat.mul_succ, Nat.succ_eq_add_one, Nat.sub_add_cancel hb, Nat.mul_assoc, Nat.mul_comm]
  omega
def begN (n f s : Nat) : Nat := max f ((n / s + 1) * s)
/-- what one level counts over a range -/
def mvT (b n f h s : Nat) : Int := if begN n f s < h then (wdN b s h : Int) - (wdN b s (begN n f s) : Int) else 0
def mvS (b n f h : Nat) : Nat → Int
  | 0 => 0
  | k + 1 => mvS b n f h k + mvT b n f h (b ^ k)
theorem beg_ge (n f s : Nat) : s ≤ begN n f s := by
  unfold begN
  have : s ≤ (n / s + 1) * s := Nat.le_mul_of_pos_left s (Nat.succ_pos _)
  omega
theorem mvT_zero {b n f h s : Nat} (hs : h ≤ s) : mvT b n f h s = 0 := by
  unfold mvT
  have := beg_ge n f s
  rw [if_neg (by omega)]
theorem mvS_more {b n f h k : Nat} (hb : 2 ≤ b) (hk : h ≤ b ^ k) (j : Nat) : mvS b n f h (k + j) = mvS b n f h k := by
  induction j with
  | zero => rfl
  | succ j ih =>
    show mvS b n f h (k + j) + mvT b n f h (b ^ (k + j)) = _
    rw [ih, mvT_zero, Int.add_zero]
    exact Nat.le_trans hk (Nat.pow_le_pow_right (by omega) (by omega))
theorem mvS_eq {b n f h k j : Nat} (hb : 2 ≤ b) (hk : h ≤ b ^ k) (hj : h ≤ b ^ j) : mvS b n f h k = mvS b n f h j := by
  rcases Nat.le_total k j with l | l
  · have e := mvS_more (n := n) (f := f) hb hk (j - k)
    rw [show k + (j - k) = j by omega] at e
    exact e.symm
  · have e := mvS_more (n := n) (f := f) hb hj (k - j)
    rw [show j + (k - j) = k by omega] at e
    exact e
theorem mvT_add {b n f m h s : Nat} (h1 : f ≤ m) (h2 : m ≤ h) : mvT b n f m s + mvT b n m h s = mvT b n f h s := by
  unfold mvT begN
  generalize (n / s + 1) * s = c
  by_cases a : c ≤ m
  · rw [show max m c = m by omega]
    by_cases e : max f c = m
    · rw [e, if_neg (by omega), Int.zero_add]
    · rw [if_pos (by omega : max f c < m), if_pos (by omega : max f c < h)]
      by_cases e2 : m < h
      · rw [if_pos e2]
        omega
      · have : m = h := by omega
        rw [if_neg e2, this]
        omega
  · rw [show max m c = c by omega, show max f c = c by omega, if_neg (by omega : ¬ c < m), Int.zero_add]
theorem mvS_add {b n f m h : Nat} (h1 : f ≤ m) (h2 : m ≤ h) (k : Nat) : mvS b n f m k + mvS b n m h k = mvS b n f h k := by
  induction k with
  | zero => rfl
  | succ k ih =>
    show (mvS b n f m k + mvT b n f m (b ^ k)) + (mvS b n m h k + mvT b n m h (b ^ k)) = mvS b n f h k + mvT b n f h (b ^ k)
    have := mvT_add (b := b) (n := n) (s := b ^ k) h1 h2
    omega
/-- over all numbers of N digits and fewer -/
theorem mvS_whole {b : Nat} (hb : 2 ≤ b) (N : Nat) : ∀ k, k ≤ N + 1 → mvS b 0 1 (b ^ (N + 1)) k = ((k * ((b - 1) * b ^ N) : Nat) : Int) := by
  intro k
  induction k with
  | zero =>
    intro _
    rw [Nat.zero_mul]
    rfl
  | succ k ih =>
    intro hk
    show mvS b 0 1 (b ^ (N + 1)) k + mvT b 0 1 (b ^ (N + 1)) (b ^ k) = _
    rw [ih (by omega)]
    have hp : 0 < b ^ k := Nat.pow_pos (by omega)
    have hl : b ^ k < b ^ (N + 1) := Nat.pow_lt_pow_right (by omega) (by omega)
    have e1 : begN 0 1 (b ^ k) = b ^ k := by
      unfold begN
      rw [Nat.zero_div, Nat.zero_add, Nat.one_mul]
      omega
    have hlt : b ^ k < b ^ k * b := by
      rw [← Nat.pow_succ]
      exact Nat.pow_lt_pow_right (by omega) (by omega)
    have e2 : wdN b (b ^ k) (b ^ k) = 0 := by
      unfold wdN
      rw [Nat.div_eq_of_lt hlt, Nat.mod_eq_of_lt hlt, Nat.sub_self, Nat.zero_mul, Nat.zero_mul]
    have e3 : b ^ (N + 1) = b ^ (N - k) * (b ^ k * b) := by
      rw [← Nat.pow_succ, ← Nat.pow_add]
      congr 1
      omega
    have e4 : wdN b (b ^ k) (b ^ (N + 1)) = (b - 1) * b ^ N := by
      unfold wdN
      have hp2 : 0 < b ^ k * b := by omega
      rw [e3, Nat.mul_div_cancel _ hp2, Nat.mul_mod_left, Nat.zero_sub, Nat.add_zero, ← Nat.pow_add, Nat.mul_comm]
      congr 2
      omega
    unfold mvT
    rw [e1, if_pos hl, e2, e4]
    have e5 : (k + 1) * ((b - 1) * b ^ N) = k * ((b - 1) * b ^ N) + (b - 1) * b ^ N := Nat.succ_mul _ _
    rw [e5]
    omega
/-! ### moves counted due tick by due tick -/
/-- how many digits other than 0 a number has below the index j -/
def cnt0 (b d : Nat) : Nat → Nat
  | 0 => 0
  | k + 1 => cnt0 b d k + if d / b ^ k % b ≠ 0 then 1 else 0
theorem tail_cnt0 (b d : Nat) : ∀ k, (tailOf b d k).length = cnt0 b d k
  | 0 => rfl
  | k + 1 => by
    have ih := tail_cnt0 b d k
    unfold tailOf cnt0
    by_cases h : d / b ^ k % b ≠ 0
    · rw [if_pos h, if_pos h, List.length_cons, ih]
    · rw [if_neg h, if_neg h, ih, Nat.add_zero]
theorem rows_cnt0 {b n d k : Nat} (h : IsLev b n d k) (hnd : n < d) : (rowsOf b n d k).length = cnt0 b d (k + 1) := by
  have hd := h.digit hnd
  have h0 : d / b ^ k % b ≠ 0 := by omega
  show (tailOf b d k).length + 1 = cnt0 b d k + if d / b ^ k % b ≠ 0 then 1 else 0
  rw [if_pos h0, tail_cnt0]
/-- of the indexes below j, how many a timer set at n and due at d has a station at -/
def cntS (b n d : Nat) : Nat → Nat
  | 0 => 0
  | k + 1 => cntS b n d k + if n / b ^ k < d / b ^ k ∧ d / b ^ k % b ≠ 0 then 1 else 0
theorem lev_le {b n d k : Nat} (h : IsLev b n d k) (hnd : n < d) {j : Nat} (hj : j ≤ k) : n / b ^ j < d / b ^ j := by
  have h2 : n / b ^ j ≤ d / b ^ j := Nat.div_le_div_right (Nat.le_of_lt hnd)
  rcases Nat.eq_or_lt_of_le h2 with e | l
  · cases j with
    | zero =>
      rw [Nat.pow_zero, Nat.div_one, Nat.div_one] at e
      omega
    | succ i => exact absurd e (h.2 i (by omega))
  · exact l
theorem lev_gt {b n d k : Nat} (h : IsLev b n d k) {j : Nat} (hj : k < j) : n / b ^ j = d / b ^ j := by
  have e : j = (k + 1) + (j - (k + 1)) := by omega
  rw [e, Nat.pow_add, ← Nat.div_div_eq_div_mul, ← Nat.div_div_eq_div_mul, h.1]
theorem cntS_low {b n d k : Nat} (h : IsLev b n d k) (hnd : n < d) : ∀ j, j ≤ k + 1 → cntS b n d j = cnt0 b d j
  | 0, _ => rfl
  | j + 1, hj => by
    have ih := cntS_low h hnd j (by omega)
    have l := lev_le h hnd (show j ≤ k by omega)
    unfold cntS cnt0
    rw [ih]
    by_cases h0 : d / b ^ j % b ≠ 0
    · rw [if_pos h0, if_pos ⟨l, h0⟩]
    · rw [if_neg h0, if_neg (fun z => h0 z.2)]
theorem cntS_lev {b n d k : Nat} (h : IsLev b n d k) (hnd : n < d) : ∀ j, k + 1 ≤ j → cntS b n d j = cnt0 b d (k + 1)
  | 0, hj => by omega
  | j + 1, hj => by
    by_cases e : j + 1 = k + 1
    · rw [e]
      exact cntS_low h hnd (k + 1) (Nat.le_refl _)
    · have ih := cntS_lev h hnd j (by omega)
      have e2 := lev_gt h (show k < j by omega)
      unfold cntS
      rw [ih, if_neg (fun z => by omega), Nat.add_zero]
theorem wd_succ {b s : Nat} (hb : 2 ≤ b) (hs : 0 < s) (x : Nat) : wdN b s (x + 1) = wdN b s x + if x / s % b ≠ 0 then 1 else 0 := by
  have hsb : 0 < s * b := Nat.mul_pos hs (by omega)
  have hbs : s * 2 ≤ s * b := Nat.mul_le_mul_left s hb
  have e := Nat.div_add_mod x (s * b)
  have hr := Nat.mod_lt x hsb
  have ed : x / s % b ≠ 0 ↔ s ≤ x % (s * b) := by
    have e1 : x / s % b = x % (s * b) / s := by
      rw [Nat.mod_mul_right_div_self]
    rw [e1]
    constructor
    · intro h
      by_cases l : s ≤ x % (s * b)
      · exact l
      · exact absurd (Nat.div_eq_of_lt (by omega)) h
    · intro l h
      have := (Nat.div_pos_iff.mpr ⟨hs, l⟩)
      omega
  by_cases c : x % (s * b) + 1 = s * b
  · have e1 : x + 1 = s * b * (x / (s * b) + 1) := by
      rw [Nat.mul_succ]
      omega
    have d1 : (x + 1) / (s * b) = x / (s * b) + 1 := by
      rw [e1, Nat.mul_div_cancel_left _ hsb]
    have m1 : (x + 1) % (s * b) = 0 := by
      rw [e1, Nat.mul_mod_right]
    unfold wdN
    rw [d1, m1, Nat.succ_mul, Nat.add_mul, if_pos (ed.mpr (by omega)), Nat.zero_sub, Nat.add_zero]
    have e3 : s * (b - 1) = s * b - s := by rw [Nat.mul_sub, Nat.mul_one]
    omega
  · have d1 : (x + 1) / (s * b) = x / (s * b) := by
      have e2 : (x + 1) / (s * b) = ((x % (s * b) + 1) + s * b * (x / (s * b))) / (s * b) := by
        congr 1
        omega
      rw [e2, Nat.add_mul_div_left _ _ hsb, Nat.div_eq_of_lt (by omega), Nat.zero_add]
    have m1 : (x + 1) % (s * b) = x % (s * b) + 1 := by
      have e2 := Nat.div_add_mod (x + 1) (s * b)
      rw [d1] at e2
      omega
    unfold wdN
    rw [d1, m1]
    by_cases l : s ≤ x % (s * b)
    · rw [if_pos (ed.mpr l)]
      omega
    · rw [if_neg (fun z => l (ed.mp z))]
      omega
theorem mvT_succ {b n f h s : Nat} (hb : 2 ≤ b) (hs : 0 < s) (hfh : f ≤ h) : mvT b n f (h + 1) s = mvT b n f h s + ((if n / s < h / s ∧ h / s % b ≠ 0 then 1 else 0 : Nat) : Int) := by
  have hc : n / s < h / s ↔ (n / s + 1) * s ≤ h := by
    rw [← Nat.le_div_iff_mul_le hs]
    exact Iff.rfl
  have w := wd_succ hb hs h
  unfold mvT begN
  by_cases c : (n / s + 1) * s ≤ h
  · have i1 : (if n / s < h / s ∧ h / s % b ≠ 0 then 1 else 0) = if h / s % b ≠ 0 then 1 else 0 := by
      by_cases z : h / s % b ≠ 0
      · rw [if_pos z, if_pos ⟨hc.mpr c, z⟩]
      · rw [if_neg z, if_neg (fun y => z y.2)]
    rw [i1, if_pos (show max f ((n / s + 1) * s) < h + 1 by omega), w]
    by_cases l : max f ((n / s + 1) * s) < h
    · rw [if_pos l]
      omega
    · rw [if_neg l, show max f ((n / s + 1) * s) = h by omega]
      omega
  · rw [if_neg (show ¬ max f ((n / s + 1) * s) < h + 1 by omega), if_neg (show ¬ max f ((n / s + 1) * s) < h by omega), if_neg (fun z => c (hc.mp z.1))]
    rfl
theorem mvS_succ {b n f h : Nat} (hb : 2 ≤ b) (hfh : f ≤ h) : ∀ k, mvS b n f (h + 1) k = mvS b n f h k + (cntS b n h k : Int)
  | 0 => rfl
  | k + 1 => by
    have ih := mvS_succ (n := n) hb hfh k
    show mvS b n f (h + 1) k + mvT b n f (h + 1) (b ^ k) = (mvS b n f h k + mvT b n f h (b ^ k)) + ((cntS b n h k + if n / b ^ k < h / b ^ k ∧ h / b ^ k % b ≠ 0 then 1 else 0 : Nat) : Int)
    rw [ih, mvT_succ hb (pow_pos' hb k) hfh]
    omega
theorem mvS_none {b n f : Nat} : ∀ k, mvS b n f f k = 0
  | 0 => rfl
  | k + 1 => by
    show mvS b n f f k + mvT b n f f (b ^ k) = 0
    rw [mvS_none k]
    unfold mvT begN
    rw [if_neg (by omega)]
    rfl
theorem lev_any {b n d : Nat} (hb : 2 ≤ b) (hnd : n < d) : ∃ k, IsLev b n d k := by
  have H : ∀ t, n / b ^ t = d / b ^ t → ∃ k, IsLev b n d k := by
    intro t
    induction t with
    | zero =>
      intro e
      rw [Nat.pow_zero, Nat.div_one, Nat.div_one] at e
      omega
    | succ t ih =>
      intro e
      by_cases c : n / b ^ t = d / b ^ t
      · exact ih c
      · refine ⟨t, e, fun j hj z => c ?_⟩
        have e2 : t = (j + 1) + (t - (j + 1)) := by omega
        rw [e2, Nat.pow_add, ← Nat.div_div_eq_div_mul, ← Nat.div_div_eq_div_mul, z]
  have hl : d < b ^ d := Nat.lt_of_lt_of_le Nat.lt_two_pow_self (Nat.pow_le_pow_left hb d)
  refine H d ?_
  rw [Nat.div_eq_of_lt hl, Nat.div_eq_of_lt (by omega)]
/-- the moves of the due ticks from f on -/
def MovesOk (b n f : Nat) (ms : List Nat) : Prop := ∀ i v, ms[i]? = some v → ∀ k, IsLev b n (f + i) k → v = cnt0 b (f + i) (k + 1)
theorem MovesOk.nil (b n f : Nat) : MovesOk b n f [] := fun i v h => by simp at h
theorem MovesOk.snoc {b n f k : Nat} {ms : List Nat} (h : MovesOk b n f ms) (hk : IsLev b n (f + ms.length) k) : MovesOk b n f (ms ++ [cnt0 b (f + ms.length) (k + 1)]) := by
  intro i v hv k' hk'
  by_cases l : i < ms.length
  · rw [List.getElem?_append_left l] at hv
    exact h i v hv k' hk'
  · rw [List.getElem?_append_right (by omega)] at hv
    have hi : i - ms.length = 0 := by
      have := (List.getElem?_eq_some_iff.mp hv).1
      rw [List.length_singleton] at this
      omega
    rw [hi] at hv
    have e : i = ms.length := by omega
    rw [e] at hk' ⊢
    rw [hk'.uniq hk]
    exact (Option.some.inj hv).symm
theorem moves_sum {b n f K : Nat} {ms : List Nat} (hb : 2 ≤ b) (hnf : n < f) (h : MovesOk b n f ms) (hK : f + ms.length ≤ b ^ K) : (ms.map fun x : Nat => (x : Int)).sum = mvS b n f (f + ms.length) K := by
  have H : ∀ j, j ≤ ms.length → ((ms.take j).map fun x : Nat => (x : Int)).sum = mvS b n f (f + j) K := by
    intro j
    induction j with
    | zero =>
      intro _
      rw [Nat.add_zero, mvS_none]
      rfl
    | succ j ih =>
      intro hj
      have hg : ms[j]? = some ms[j] := List.getElem?_eq_getElem (by omega)
      have hd : n < f + j := by omega
      obtain ⟨k, hk⟩ := lev_any hb hd
      have e := h j _ hg k hk
      have hkK : k + 1 ≤ K := by
        have h1 := hk.size hb hd
        have h2 : b ^ k < b ^ K := by omega
        exact (Nat.pow_lt_pow_iff_right (by omega : 1 < b)).mp h2
      rw [List.take_add_one, hg, List.map_append, List.sum_append, ih (by omega)]
      show _ + ((([ms[j]].map fun x : Nat => (x : Int))).sum) = mvS b n f (f + j + 1) K
      rw [mvS_succ hb (by omega), cntS_lev hk hd K hkK, ← e]
      simp
  have z := H ms.length (Nat.le_refl _)
  rw [List.take_length] at z
  exact z
/-! ### where two periodic timers meet: the mathematics -/
def IsMeet (a p o q f e : Nat) : Prop := e = p / Nat.gcd p q * q ∧ max a o ≤ f ∧ f < max a o + e ∧ p ∣ f - a ∧ q ∣ f - o
theorem lcm_form {p q : Nat} (hp : 1 ≤ p) : p / Nat.gcd p q * q = q / Nat.gcd p q * p := by
  have hg : 0 < Nat.gcd p q := Nat.gcd_pos_of_pos_left q hp
  have e1 : p / Nat.gcd p q * Nat.gcd p q = p := Nat.div_mul_cancel (Nat.gcd_dvd_left p q)
  have e2 : q / Nat.gcd p q * Nat.gcd p q = q := Nat.div_mul_cancel (Nat.gcd_dvd_right p q)
  refine Nat.eq_of_mul_eq_mul_right hg ?_
  rw [Nat.mul_right_comm, e1, Nat.mul_right_comm, e2, Nat.mul_comm]
theorem lcm_pos {p q : Nat} (hp : 1 ≤ p) (hq : 1 ≤ q) : 0 < p / Nat.gcd p q * q := by
  have hg : 0 < Nat.gcd p q := Nat.gcd_pos_of_pos_left q hp
  exact Nat.mul_pos (Nat.div_pos (Nat.le_of_dvd (by omega) (Nat.gcd_dvd_left p q)) hg) (by omega)
/-- one step of the division chain -/
theorem chain_step {n m d r : Nat} {x y : Int} (hx : (m : Int) ∣ x * n - d) (hy : (m : Int) ∣ y * n - r) :
    (m : Int) ∣ (x - ((d / r : Nat) : Int) * y) * n - ((d % r : Nat) : Int) := by
  have e1 : ((d % r : Nat) : Int) = (d : Int) - ((d / r : Nat) : Int) * (r : Int) := by
    have z := Nat.div_add_mod d r
    have z2 : ((r * (d / r) + d % r : Nat) : Int) = (d : Int) := congrArg Int.ofNat z
    rw [Int.natCast_add, Int.natCast_mul, Int.mul_comm] at z2
    omega
  have e2 : (x - ((d / r : Nat) : Int) * y) * n - ((d % r : Nat) : Int) = (x * n - d) - ((d / r : Nat) : Int) * (y * n - r) := by
    rw [e1, Int.sub_mul, Int.mul_sub, Int.mul_assoc]
    omega
  rw [e2]
  exact Int.dvd_sub hx (Int.dvd_mul_of_dvd_right hy)
theorem chain_size {m d r a b : Nat} (h : a * r + b * d = m) : b * (d % r) + (a + d / r * b) * r = m := by
  have e := Nat.div_add_mod d r
  have e1 : b * d = b * (r * (d / r)) + b * (d % r) := by rw [← Nat.mul_add, e]
  have e2 : (a + d / r * b) * r = a * r + b * (r * (d / r)) := by
    rw [Nat.add_mul, Nat.mul_comm (d / r) b, Nat.mul_assoc, Nat.mul_comm (d / r) r]
  rw [e2]
  omega
theorem meet_of {a p o q : Nat} {x : Int} (hp : 1 ≤ p) (hq : 1 ≤ q) (hx : (q : Int) ∣ x * p - (Nat.gcd p q : Nat)) (hg : ((o : Int) - a) % ((Nat.gcd p q : Nat) : Int) = 0) :
    ∃ f : Nat, (if (o : Int) > (a : Int) then (o : Int) else (a : Int)) + ((a : Int) + ((o : Int) - a) / ((Nat.gcd p q : Nat) : Int) * x * p - (if (o : Int) > (a : Int) then (o : Int) else (a : Int))) % ((p / Nat.gcd p q * q : Nat) : Int) = (f : Int) ∧ IsMeet a p o q f (p / Nat.gcd p q * q) := by
  have hbegin : (if (o : Int) > (a : Int) then (o : Int) else (a : Int)) = ((max a o : Nat) : Int) := by split <;> omega
  rw [hbegin]
  have he := lcm_pos hp hq
  have hpe : (p : Int) ∣ ((p / Nat.gcd p q * q : Nat) : Int) := by
    rw [lcm_form hp]
    exact Int.natCast_dvd_natCast.mpr (Nat.dvd_mul_left p _)
  have hqe : (q : Int) ∣ ((p / Nat.gcd p q * q : Nat) : Int) := Int.natCast_dvd_natCast.mpr (Nat.dvd_mul_left q _)
  have hgd : ((Nat.gcd p q : Nat) : Int) * (((o : Int) - a) / ((Nat.gcd p q : Nat) : Int)) = (o : Int) - a := by
    have z := Int.emod_add_mul_ediv ((o : Int) - a) ((Nat.gcd p q : Nat) : Int)
    omega
  generalize ((o : Int) - a) / ((Nat.gcd p q : Nat) : Int) = u at hgd ⊢
  generalize hE : p / Nat.gcd p q * q = e at he hpe hqe ⊢
  have r0 : 0 ≤ ((a : Int) + u * x * p - ((max a o : Nat) : Int)) % (e : Int) := Int.emod_nonneg _ (by omega)
  have r1 : ((a : Int) + u * x * p - ((max a o : Nat) : Int)) % (e : Int) < e := Int.emod_lt_of_pos _ (by omega)
  have r2 := Int.emod_add_mul_ediv ((a : Int) + u * x * p - ((max a o : Nat) : Int)) (e : Int)
  generalize ((a : Int) + u * x * p - ((max a o : Nat) : Int)) / (e : Int) = w at r2
  generalize ((a : Int) + u * x * p - ((max a o : Nat) : Int)) % (e : Int) = r at r0 r1 r2 ⊢
  refine ⟨(((max a o : Nat) : Int) + r).toNat, by omega, by rw [hE], by omega, by omega, ?_, ?_⟩
  · have e1 : (((((max a o : Nat) : Int) + r).toNat - a : Nat) : Int) = u * x * p - e * w := by omega
    rw [← Int.natCast_dvd_natCast, e1]
    exact Int.dvd_sub (Int.dvd_mul_left _ _) (Int.dvd_mul_of_dvd_left hpe)
  · have e1 : (((((max a o : Nat) : Int) + r).toNat - o : Nat) : Int) = u * (x * p - (Nat.gcd p q : Nat)) - e * w := by
      rw [Int.mul_sub, ← Int.mul_assoc, Int.mul_comm u ((Nat.gcd p q : Nat) : Int)]
      omega
    rw [← Int.natCast_dvd_natCast, e1]
    exact Int.dvd_sub (Int.dvd_mul_of_dvd_right hx) (Int.dvd_mul_of_dvd_left hqe)
theorem lcm_dvd {p q d : Nat} (hp : 1 ≤ p) (h1 : p ∣ d) (h2 : q ∣ d) : p / Nat.gcd p q * q ∣ d := by
  have hg : 0 < Nat.gcd p q := Nat.gcd_pos_of_pos_left q hp
  have e : p / Nat.gcd p q * q = Nat.lcm p q := by
    unfold Nat.lcm
    rw [Nat.div_mul_right_comm (Nat.gcd_dvd_left p q)]
  rw [e]
  exact Nat.lcm_dvd h1 h2
theorem meet_uniq {a p o q f e f' : Nat} (hp : 1 ≤ p) (h : IsMeet a p o q f e) (h1 : max a o ≤ f') (h2 : f' < max a o + e) (h3 : p ∣ f' - a) (h4 : q ∣ f' - o) : f' = f := by
  obtain ⟨he, b1, b2, b3, b4⟩ := h
  rcases Nat.lt_trichotomy f' f with l | l | l
  · have d1 : p ∣ f - f' := by
      have z := Nat.dvd_sub b3 h3
      rw [show f - a - (f' - a) = f - f' by omega] at z
      exact z
    have d2 : q ∣ f - f' := by
      have z := Nat.dvd_sub b4 h4
      rw [show f - o - (f' - o) = f - f' by omega] at z
      exact z
    have := Nat.le_of_dvd (by omega) (lcm_dvd hp d1 d2)
    omega
  · exact l
  · have d1 : p ∣ f' - f := by
      have z := Nat.dvd_sub h3 b3
      rw [show f' - a - (f - a) = f' - f by omega] at z
      exact z
    have d2 : q ∣ f' - f := by
      have z := Nat.dvd_sub h4 b4
      rw [show f' - o - (f - o) = f' - f by omega] at z
      exact z
    have := Nat.le_of_dvd (by omega) (lcm_dvd hp d1 d2)
    omega
theorem IsMeet.swap {a p o q f e : Nat} (hp : 1 ≤ p) (h : IsMeet a p o q f e) : IsMeet o q a p f e := by
  obtain ⟨he, b1, b2, b3, b4⟩ := h
  refine ⟨?_, by omega, by omega, b4, b3⟩
  rw [he, lcm_form hp, Nat.gcd_comm]
/-- two timers meet only where the phases differ by what their measure divides -/
theorem meet_gcd {a p o q f : Nat} (h1 : a ≤ f) (h2 : o ≤ f) (h3 : p ∣ f - a) (h4 : q ∣ f - o) : ((o : Int) - a) % ((Nat.gcd p q : Nat) : Int) = 0 := by
  have d1 : ((Nat.gcd p q : Nat) : Int) ∣ ((f - a : Nat) : Int) := Int.natCast_dvd_natCast.mpr (Nat.dvd_trans (Nat.gcd_dvd_left p q) h3)
  have d2 : ((Nat.gcd p q : Nat) : Int) ∣ ((f - o : Nat) : Int) := Int.natCast_dvd_natCast.mpr (Nat.dvd_trans (Nat.gcd_dvd_right p q) h4)
  have d3 := Int.dvd_sub d1 d2
  rw [show ((f - a : Nat) : Int) - ((f - o : Nat) : Int) = (o : Int) - a by omega] at d3
  exact Int.emod_eq_zero_of_dvd d3
theorem gcd_swap {a o p q : Nat} : ((o : Int) - a) % ((Nat.gcd p q : Nat) : Int) = 0 ↔ ((a : Int) - o) % ((Nat.gcd q p : Nat) : Int) = 0 := by
  rw [Nat.gcd_comm]
  constructor
  · intro h
    have z := Int.dvd_neg.mpr (Int.dvd_of_emod_eq_zero h)
    rw [show -((o : Int) - a) = (a : Int) - o by omega] at z
    exact Int.emod_eq_zero_of_dvd z
  · intro h
    have z := Int.dvd_neg.mpr (Int.dvd_of_emod_eq_zero h)
    rw [show -((a : Int) - o) = (o : Int) - a by omega] at z
    exact Int.emod_eq_zero_of_dvd z
/-! ### rules that the layer lacks: min(.., default=None), sorted of a dict with pairs of ints as its keys -/
theorem minOf_spec : ∀ (x : Int) (xs : List Int), PySem.W.minOf x xs ∈ x :: xs ∧ ∀ y ∈ x :: xs, PySem.W.minOf x xs ≤ y := by
  intro x xs
  unfold PySem.W.minOf
  induction xs generalizing x with
  | nil =>
    refine ⟨List.mem_cons_self .., fun y hy => ?_⟩
    rcases List.mem_cons.mp hy with e | hy
    · rw [e]
      exact Int.le_refl _
    · cases hy
  | cons z zs ih =>
    have e : (PySem.W.DatumOrd.lt z x = true) ↔ z < x := by
      show decide (z < x) = true ↔ z < x
      exact decide_eq_true_iff
    rw [List.foldl_cons]
    obtain ⟨h1, h2⟩ := ih (if PySem.W.DatumOrd.lt z x = true then z else x)
    refine ⟨?_, fun y hy => ?_⟩
    · rcases List.mem_cons.mp h1 with e1 | h1
      · rw [e1]
        split
        · exact List.mem_cons_of_mem _ (List.mem_cons_self ..)
        · exact List.mem_cons_self ..
      · exact List.mem_cons_of_mem _ (List.mem_cons_of_mem _ h1)
    · have h3 := h2 _ (List.mem_cons_self ..)
      rcases List.mem_cons.mp hy with e1 | hy
      · rw [e1]
        by_cases c : z < x
        · rw [if_pos (e.mpr c)] at h3 ⊢
          omega
        · rw [if_neg (fun q => c (e.mp q))] at h3 ⊢
          exact h3
      · rcases List.mem_cons.mp hy with e1 | hy
        · rw [e1]
          by_cases c : z < x
          · rw [if_pos (e.mpr c)] at h3 ⊢
            exact h3
          · rw [if_neg (fun q => c (e.mp q))] at h3 ⊢
            omega
        · exact h2 y (List.mem_cons_of_mem _ hy)
def rMinD (K : PySem.W.Frag) : List V → List V → Hp → VK → Prop := fun vs zs H Q => ∃ (a : Addr) (ns : List Int), vs = [V.ref a] ∧ zs = [.non] ∧ SqL K H a (ns.map V.int) ∧ (ns = [] → Q .non H) ∧ ∀ v ∈ ns, (∀ x ∈ ns, v ≤ x) → Q (.int v) H
section
variable {X : Cx} {K : PySem.W.Frag}
theorem minDef (e : X.K = K) (hc : X.calm = true) (hu : X.A.units + 64 < cLine) : CallRK X (.builtin "min") [Str.ofString "default"] (rMinD K) := by
  subst e
  intro pins s σ H vs zs us ws Q I r rz h
  obtain ⟨a, ns, rfl, rfl, hs, q0, q1⟩ := h
  obtain ⟨its, rv, hl, hz⟩ := I.list hs
  obtain ⟨w1, rfl, e1⟩ := vals1 rz
  obtain rfl : w1 = Value.none := e1
  rw [Vals.ref1 r]
  have hi := rv.ints
  refine PySem.W.min_list_datum_default (α := Int) (xs := ns) (I.ok.hd hc) hl.isList (PySem.W.HoldAll.of_ints hi) (by show X.A.units + 1 + 0 < cLine; omega) (fun en h' tk hk => ?_) (fun y ys i v h' tk en hv hh hk => ?_)
  · exact ⟨.non, H, I.kept hk, rfl, q0 en⟩
  · obtain ⟨as, hr⟩ := hh
    have hm := minOf_spec y ys
    have ev : ∃ t, v = Value.int (PySem.W.minOf y ys) t := by
      cases hr
      exact ⟨_, rfl⟩
    obtain ⟨t, rfl⟩ := ev
    subst en
    exact ⟨.int _, H, I.kept hk, ⟨_, rfl⟩, q1 _ hm.1 hm.2⟩
end
/-! ### exceptions: defs that may raise, any value as an argument -/
section
variable {P : Program} {w : World} {K : PySem.W.Frag} {mg : Str → Option Value} {base : Heap}
/-- as Has, for a def that may raise -/
def HasX (P : Program) (w : World) (K : PySem.W.Frag) (mg : Str → Option Value) (base : Heap) (k : Nat) (x : Str) (ps : List Str) (dvs : List V) (sp : Sp) : Prop :=
  ∃ (f : Addr) (fd : FuncData) (ds : List Value), FnOk P w K mg base (L2.CX P w) k f fd ps sp ∧ mg x = some (.ref f) ∧ PySem.W.keepIn K (.ref f) = true ∧ Binds K fd ps ds ∧ Vals dvs ds
def HasMX (P : Program) (w : World) (K : PySem.W.Frag) (mg : Str → Option Value) (base : Heap) (k : Nat) (C : Addr) (m : Str) (ps : List Str) (dvs : List V) (sp : Sp) : Prop :=
  ∃ (f : Addr) (fd : FuncData) (ds : List Value), FnOk P w K mg base (L2.CX P w) k f fd ps sp ∧ Meth K C m f ∧ Binds K fd ps ds ∧ Vals dvs ds
theorem Df.hasX {k : Nat} {x : Str} {st : Stmt} {ps : List Str} {sp : Sp} (D : Df K mg x st ps) (ok : ∀ f fd, Fun K x x st f fd → FnOk P w K mg base (L2.CX P w) k f fd ps sp) : HasX P w K mg base k x ps [] sp := by
  obtain ⟨f, fd, F, m, b⟩ := D
  exact ⟨f, fd, [], ok f fd F, m, F.kp, b, .nil⟩
theorem Dd.hasX {k : Nat} {x : Str} {st : Stmt} {ps : List Str} {d : V} {sp : Sp} (D : Dd K mg x st ps d) (ok : ∀ f fd, FunD K x x (defArgs st) (defBody st) (defScope st) [d] [] f fd → FnOk P w K mg base (L2.CX P w) k f fd ps sp) :
    HasX P w K mg base k x ps [d] sp ∧ HasX P w K mg base k x ps [] sp := by
  obtain ⟨f, fd, F, m, ⟨ds, r, b⟩, b0⟩ := D
  exact ⟨⟨f, fd, ds, ok f fd F, m, F.kp, b, r⟩, ⟨f, fd, [], ok f fd F, m, F.kp, b0, .nil⟩⟩
/-- what the top leaves of an error's class -/
structure EC (K : PySem.W.Frag) (mg : Str → Option Value) (x : Str) (C : Addr) : Prop where
  g : mg x = some (.ref C)
  x : PySem.W.excIn K C [.type "ValueError", .type "Exception", .type "BaseException", .type "object"] "ValueError.__new__" = true
  k : PySem.W.keepIn K (.ref C) = true
  b : PySem.W.subIn K (.ref C) (.type "BaseException") = some true
  t : PySem.W.typeIn K (.ref C) = some (.type "type")
/-- a class by its name alone -/
structure EG (mg : Str → Option Value) (x : Str) (C : Addr) : Prop where
  g : mg x = some (.ref C)
/-- of which types what is no integer may be -/
inductive NoIntT : Value → Prop where
  | non : NoIntT (.type "NoneType")
  | bool : NoIntT (.type "bool")
  | str : NoIntT (.type "str")
  | flt : NoIntT (.type "float")
  | byt : NoIntT (.type "bytes")
  | list : NoIntT (.type "list")
  | tup : NoIntT (.type "tuple")
  | dict : NoIntT (.type "dict")
  | set : NoIntT (.type "set")
/-- what is no integer: any value but an int, a bool too -/
def NoInt (K : PySem.W.Frag) (H : Hp) (x : V) : Prop := ∃ t, TyX K H x t ∧ NoIntT t
theorem NoIntT.kit {t : Value} (h : NoIntT t) : (∃ i b, PySem.W.kitOne K t (.type "int") = some i ∧ PySem.W.kitOne K t (.type "bool") = some b ∧ (i = true → b = true)) := by
  cases h <;> first
    | exact ⟨false, false, kit_ty (by decide +kernel), kit_ty (by decide +kernel), fun z => by cases z⟩
    | exact ⟨true, true, kit_ty (by decide +kernel), kit_ty (by decide +kernel), fun _ => rfl⟩
section
variable {H : Hp}
theorem NoInt.of_non : NoInt K H .non := ⟨_, .base .non, .non⟩
theorem NoInt.of_bl (b : Bool) : NoInt K H (.bl b) := ⟨_, .base (.bl b), .bool⟩
theorem NoInt.of_str (s : Str) : NoInt K H (.str s) := ⟨_, .base (.str s), .str⟩
theorem NoInt.of_lst {a : Addr} {xs : List V} (e : H a = some (.lst xs)) : NoInt K H (.ref a) := ⟨_, .base (.lst e), .list⟩
theorem NoInt.of_tup {a : Addr} {xs : List V} (e : H a = some (.tup xs)) : NoInt K H (.ref a) := ⟨_, .base (.tup e), .tup⟩
theorem NoInt.of_dK {a : Addr} {kvs : List (Key × V)} (e : H a = some (.dK kvs)) : NoInt K H (.ref a) := ⟨_, .base (.dK e), .dict⟩
end
end
section
variable {X : Cx} {K : PySem.W.Frag}
theorem op_notInK (e : X.K = K) : OpR X (compareOp .NotIn) (rIn K true) := by subst e; exact op_notIn_seq
end
/-- what an error was made of stands at a; isinstance(e, X) of it -/
def rIsEX (K : PySem.W.Frag) (cls : Value) (d : Option Addr) (a : Addr) : List V → Hp → VK → Prop := fun xs H Q => ∃ D, cls = .ref D ∧ d = none ∧ ExcC K D ∧ rIsE K D a xs H Q
theorem isiE {X : Cx} {a : Addr} {cls : Value} {d : Option Addr} {oe : Obj} {pn : List (Addr × Obj)} (hz : Zc cls d oe) (hf : ∃ vs, oe.data = .fields vs) : CallR (X.suite a ((a, oe) :: pn)) (.builtin "isinstance") (rIsEX X.K cls d a) := by
  intro pins s σ H xs us Q I r h
  obtain ⟨D, rfl, rfl, hC, h⟩ := h
  exact call_isE hC hz hf pins s σ H xs us Q I r h
section
variable {X : Cx} {CX : CXT} {k : Nat} {f C : Addr} {fd : FuncData} {ps : List Str} {sp : Sp} {E : L2.St → XK} {m : Str} {pos apos : Pos} {e o : Expr} {es : List Expr} {ta : TE} {t : TA}
/-- o.m(e, ..) that may raise, the wish told at the slots of the moment -/
def tMethS (C : Addr) (m : Str) (sp : Sp) (E : L2.St → XK) (ta : TE) (t : TA) : TE := fun σ H Q => ta σ H fun x H1 => ∃ a dx fs, x = .ref a ∧ H1 a = some (.ins C dx fs) ∧ fs.lookup m = none ∧
  t σ H1 fun vs H2 => sp (x :: vs) H2 Q (E σ)
theorem pe_methS {pl : Sem Bool} (he : PE X o ta) (c : Cls X.K C) (hm : Meth X.K C m f) (F : FnOk X.prog X.w X.K X.mg X.base CX k f fd ps sp) (hr : Room k X.A) (hb : Binds X.K fd ps []) (hx : ∀ σ, PassesAt CX X σ (E σ)) (ha : PA X (e :: es) t)
    (hst : starEach (e :: es) X.env = (false, eval e X.env) :: starEach es X.env := by rfl) (hpl : (backTo pos (starEach es X.env)).any (·.1) = false := by rfl)
    (ht : eval (.Call (.Attribute o m apos) (e :: es) [] pos) X.env = (do
      let ov ← eval o X.env
      standAt apos.atName
      let (f, first) ← holding [ov] (getMethod ov m pl)
      callWith pos f first (backTo pos (starEach (e :: es) X.env)) (backToKw pos (keywordEach [] X.env))) := by rfl) :
    PE X (.Call (.Attribute o m apos) (e :: es) [] pos) (tMethS C m sp E ta t) := by
  refine ⟨fun pins s σ H Q I h => ?_⟩
  refine PySem.W.methodCall_KW (pl := pl) (thn (he.run pins s σ H _ I h) fun u s1 ⟨x, H1, I1, rx, a, dx, fs, ex, ea, l, q⟩ => ?_) ht
  subst ex
  obtain rfl : u = Value.ref a := rx
  refine getmeth_ok I1 ea c hm l ?_
  refine PySem.W.callWith_K (first := [.ref a]) (h₀ := X.base) I.ok.mod.kin hm.kp (thn (ha.run pos pins s1 σ H1 _ I1 q) fun us s2 ⟨vs, H2, I2, r, q2⟩ => ⟨I2.kIn, ?_⟩) hst hpl
  exact run_fnS (us := .ref a :: us) (vs := .ref a :: vs) F hr hb (hx σ) I2 (.cons rfl r) q2
end
/-! ### lambdas: a def whose code object is told, tables of code objects -/
section
variable {P : Program} {w : World} {K : PySem.W.Frag} {mg : Str → Option Value} {base : Heap}
/-- the name that the lambdas of the def q bear -/
def lamQ (q : Str) : Str := (q ++ ".<locals>.") ++ "<lambda>"
/-- a def as it stands behind the top, its code object told -/
structure FunC (K : PySem.W.Frag) (x : Str) (st : Stmt) (f : Addr) (fd : FuncData) (cdv : Value) : Prop where
  at_ : ∃ (oc kV doc pm ct : Value) (od an : Option Addr) (osl : Array (Option Value)),
    fd = PySem.W.fnOf x x (defArgs st) (defBody st) (defScope st) .none kV doc pm an cdv ct ∧ K.lookup f = some ⟨oc, od, .func fd, osl⟩ ∧ PySem.W.codeIn K cdv x = true
  kp : PySem.W.keepIn K (.ref f) = true
theorem funC_mk {x : Str} {st : Stmt} {f : Addr} {oc : Value} {od an : Option Addr} {osl : Array (Option Value)} {kV doc pm cdv ct : Value} (l : K.lookup f = some ⟨oc, od, .func (PySem.W.fnOf x x (defArgs st) (defBody st) (defScope st) .none kV doc pm an cdv ct), osl⟩)
    (c : PySem.W.codeIn K cdv x = true) (k : PySem.W.keepIn K (.ref f) = true) : FunC K x st f (PySem.W.fnOf x x (defArgs st) (defBody st) (defScope st) .none kV doc pm an cdv ct) cdv := ⟨⟨oc, kV, doc, pm, ct, od, an, osl, rfl, l, c⟩, k⟩
theorem FunC.fn {x : Str} {st : Stmt} {f : Addr} {fd : FuncData} {cdv : Value} (F : FunC K x st f fd cdv) : Fun K x x st f fd := by
  obtain ⟨⟨oc, kV, doc, pm, ct, od, an, osl, e1, e2, e3⟩, kp⟩ := F
  exact ⟨⟨oc, od, kV, doc, pm, an, cdv, ct, osl, e1, e2, e3⟩, kp⟩
theorem FunC.ok {x : Str} {st : Stmt} {f : Addr} {fd : FuncData} {cdv : Value} {N ps : List Str} {k : Nat} {sp : Sp} (F : FunC K x st f fd cdv) (S : FnScope N ps (defScope st)) (len : ∀ vs H Q E, sp vs H Q E → vs.length = ps.length)
    (hb : ∀ (A : Around) (outer : List Env) (s : Shared) (H : Hp) (vs : List V) (Q : VK) (E : XK), Room k (A.deeper (envOfC x (defScope st) s.heap.objs.size f cdv)) → sp vs H Q E →
      ∃ t, PSs (cxOf CX0 P w K mg base N x (defScope st) f cdv A outer s H E).nox (defBody st) t ∧ t { nx := fun _ H' => Q .non H', rt := Q } (start N vs) H) : FnOk P w K mg base CX0 (k + 1) f fd ps sp := by
  obtain ⟨⟨oc, kV, doc, pm, ct, od, an, osl, e1, e2, e3⟩, kp⟩ := F
  subst e1
  refine fn_of e2 e3 S len fun A outer s H vs Q E hr' hs' => ?_
  obtain ⟨t, h1, h2⟩ := hb A outer s H vs Q E hr' hs'
  exact ⟨t, h1.nox, h2⟩
end
theorem extN_same {H H1 : Hp} (s : Same H H1) : LamX.ExtN H H1 := fun b o e _ => s b o e
theorem ExtN.seq {K : PySem.W.Frag} {H H1 : Hp} {a : Addr} {xs : List V} (e : LamX.ExtN H H1) (h : SqL K H a xs) : SqL K H1 a xs := by
  rcases h with (h | ⟨o, h⟩) | h
  · exact .inl (.inl (e _ _ h (fun ps z => by cases z)))
  · exact .inl (.inr ⟨o, e _ _ h (fun ps z => by cases z)⟩)
  · exact .inr h
theorem Tabs.same {T : List (Addr × Str)} {H H1 : Hp} (t : LamX.Tabs T H) (s : Same H H1) : LamX.Tabs T H1 := t.ext s
def topS (i : Nat) : Stmt := PySem.Challenge.pw_timerdeque_k36_whole_counts_of_great_ran.main.body.getD i (.Pass ⟨0, 0, 0, 0⟩)
abbrev s_is_integer : Stmt := topS 13
abbrev N_is_integer : List Str := ["given"]
theorem sc_is_integer : FnScope N_is_integer ["given"] (defScope s_is_integer) := by
  refine ⟨rfl, rfl, rfl, ?_, rfl, ?_, ?_⟩ <;> decide +kernel
abbrev s_is_word : Stmt := topS 14
abbrev N_is_word : List Str := ["given"]
theorem sc_is_word : FnScope N_is_word ["given"] (defScope s_is_word) := by
  refine ⟨rfl, rfl, rfl, ?_, rfl, ?_, ?_⟩ <;> decide +kernel
abbrev s_is_base : Stmt := topS 15
abbrev N_is_base : List Str := ["given"]
theorem sc_is_base : FnScope N_is_base ["given"] (defScope s_is_base) := by
  refine ⟨rfl, rfl, rfl, ?_, rfl, ?_, ?_⟩ <;> decide +kernel
abbrev s_is_length : Stmt := topS 16
abbrev N_is_length : List Str := ["given"]
theorem sc_is_length : FnScope N_is_length ["given"] (defScope s_is_length) := by
  refine ⟨rfl, rfl, rfl, ?_, rfl, ?_, ?_⟩ <;> decide +kernel
abbrev s_are_levels : Stmt := topS 17
abbrev N_are_levels : List Str := ["given", "word"]
theorem sc_are_levels : FnScope N_are_levels ["given"] (defScope s_are_levels) := by
  refine ⟨rfl, rfl, rfl, ?_, rfl, ?_, ?_⟩ <;> decide +kernel
abbrev s_is_tick : Stmt := topS 18
abbrev N_is_tick : List Str := ["given", "least"]
theorem sc_is_tick : FnScope N_is_tick ["given", "least"] (defScope s_is_tick) := by
  refine ⟨rfl, rfl, rfl, ?_, rfl, ?_, ?_⟩ <;> decide +kernel
abbrev s_is_period : Stmt := topS 19
abbrev N_is_period : List Str := ["given"]
theorem sc_is_period : FnScope N_is_period ["given"] (defScope s_is_period) := by
  refine ⟨rfl, rfl, rfl, ?_, rfl, ?_, ?_⟩ <;> decide +kernel
abbrev s_check_base : Stmt := topS 20
abbrev N_check_base : List Str := ["base"]
theorem sc_check_base : FnScope N_check_base ["base"] (defScope s_check_base) := by
  refine ⟨rfl, rfl, rfl, ?_, rfl, ?_, ?_⟩ <;> decide +kernel
abbrev s_check_levels : Stmt := topS 21
abbrev N_check_levels : List Str := ["levels"]
theorem sc_check_levels : FnScope N_check_levels ["levels"] (defScope s_check_levels) := by
  refine ⟨rfl, rfl, rfl, ?_, rfl, ?_, ?_⟩ <;> decide +kernel
abbrev s_check_tick : Stmt := topS 22
abbrev N_check_tick : List Str := ["tick", "least"]
theorem sc_check_tick : FnScope N_check_tick ["tick", "least"] (defScope s_check_tick) := by
  refine ⟨rfl, rfl, rfl, ?_, rfl, ?_, ?_⟩ <;> decide +kernel
abbrev s_word_at : Stmt := topS 24
abbrev N_word_at : List Str := ["levels", "level"]
theorem sc_word_at : FnScope N_word_at ["levels", "level"] (defScope s_word_at) := by
  refine ⟨rfl, rfl, rfl, ?_, rfl, ?_, ?_⟩ <;> decide +kernel
abbrev s_level_and_size : Stmt := topS 25
abbrev N_level_and_size : List Str := ["base", "now", "due", "level", "size", "above_now", "above_due"]
theorem sc_level_and_size : FnScope N_level_and_size ["base", "now", "due"] (defScope s_level_and_size) := by
  refine ⟨rfl, rfl, rfl, ?_, rfl, ?_, ?_⟩ <;> decide +kernel
abbrev s_path : Stmt := topS 26
abbrev N_path : List Str := ["base", "now", "due", "level", "size", "rows", "tick", "digit"]
theorem sc_path : FnScope N_path ["base", "now", "due"] (defScope s_path) := by
  refine ⟨rfl, rfl, rfl, ?_, rfl, ?_, ?_⟩ <;> decide +kernel
abbrev s_goes_in_front : Stmt := topS 27
abbrev N_goes_in_front : List Str := ["base", "levels", "now", "due", "lowest", "front", "level", "digit", "tick"]
theorem sc_goes_in_front : FnScope N_goes_in_front ["base", "levels", "now", "due", "lowest"] (defScope s_goes_in_front) := by
  refine ⟨rfl, rfl, rfl, ?_, rfl, ?_, ?_⟩ <;> decide +kernel
abbrev s_is_periodic : Stmt := topS 30
abbrev N_is_periodic : List Str := ["given", "phase", "period"]
theorem sc_is_periodic : FnScope N_is_periodic ["given"] (defScope s_is_periodic) := by
  refine ⟨rfl, rfl, rfl, ?_, rfl, ?_, ?_⟩ <;> decide +kernel
abbrev s_check_periodic : Stmt := topS 31
abbrev N_check_periodic : List Str := ["given"]
theorem sc_check_periodic : FnScope N_check_periodic ["given"] (defScope s_check_periodic) := by
  refine ⟨rfl, rfl, rfl, ?_, rfl, ?_, ?_⟩ <;> decide +kernel
abbrev s_check_two : Stmt := topS 32
abbrev N_check_two : List Str := ["one", "other"]
theorem sc_check_two : FnScope N_check_two ["one", "other"] (defScope s_check_two) := by
  refine ⟨rfl, rfl, rfl, ?_, rfl, ?_, ?_⟩ <;> decide +kernel
abbrev s_fires_again : Stmt := topS 33
abbrev N_fires_again : List Str := ["timer", "tick", "phase", "period"]
theorem sc_fires_again : FnScope N_fires_again ["timer", "tick"] (defScope s_fires_again) := by
  refine ⟨rfl, rfl, rfl, ?_, rfl, ?_, ?_⟩ <;> decide +kernel
abbrev s_divisor_and_factor : Stmt := topS 34
abbrev N_divisor_and_factor : List Str := ["number", "modulus", "divisor", "rest", "factor", "following", "times"]
theorem sc_divisor_and_factor : FnScope N_divisor_and_factor ["number", "modulus"] (defScope s_divisor_and_factor) := by
  refine ⟨rfl, rfl, rfl, ?_, rfl, ?_, ?_⟩ <;> decide +kernel
abbrev s_meetings : Stmt := topS 35
abbrev N_meetings : List Str := ["one", "other", "phase", "period", "other_phase", "other_period", "divisor", "factor", "apart", "tick", "every", "begin"]
theorem sc_meetings : FnScope N_meetings ["one", "other"] (defScope s_meetings) := by
  refine ⟨rfl, rfl, rfl, ?_, rfl, ?_, ?_⟩ <;> decide +kernel
abbrev s_is_ahead : Stmt := topS 36
abbrev N_is_ahead : List Str := ["base", "levels", "one", "other", "tick"]
theorem sc_is_ahead : FnScope N_is_ahead ["base", "levels", "one", "other", "tick"] (defScope s_is_ahead) := by
  refine ⟨rfl, rfl, rfl, ?_, rfl, ?_, ?_⟩ <;> decide +kernel
abbrev s_common : Stmt := topS 37
abbrev N_common : List Str := ["one", "other"]
theorem sc_common : FnScope N_common ["one", "other"] (defScope s_common) := by
  refine ⟨rfl, rfl, rfl, ?_, rfl, ?_, ?_⟩ <;> decide +kernel
abbrev s_first_of_two : Stmt := topS 38
abbrev N_first_of_two : List Str := ["base", "levels", "one", "other", "tick"]
theorem sc_first_of_two : FnScope N_first_of_two ["base", "levels", "one", "other", "tick"] (defScope s_first_of_two) := by
  refine ⟨rfl, rfl, rfl, ?_, rfl, ?_, ?_⟩ <;> decide +kernel
abbrev s_times_first : Stmt := topS 39
abbrev N_times_first : List Str := ["base", "levels", "one", "other", "first", "behind", "found", "meeting", "every", "ticks", "tick"]
theorem sc_times_first : FnScope N_times_first ["base", "levels", "one", "other", "first", "behind"] (defScope s_times_first) := by
  refine ⟨rfl, rfl, rfl, ?_, rfl, ?_, ?_⟩ <;> decide +kernel
abbrev s__law_cell_at : Stmt := topS 41
abbrev N__law_cell_at : List Str := ["_law_script", "_law_k"]
theorem sc__law_cell_at : FnScope N__law_cell_at ["_law_script", "_law_k"] (defScope s__law_cell_at) := by
  refine ⟨rfl, rfl, rfl, ?_, rfl, ?_, ?_⟩ <;> decide +kernel
abbrev s__law_mixed : Stmt := topS 42
abbrev N__law_mixed : List Str := ["_law_cell", "_law_k", "_law_low"]
theorem sc__law_mixed : FnScope N__law_mixed ["_law_cell", "_law_k"] (defScope s__law_mixed) := by
  refine ⟨rfl, rfl, rfl, ?_, rfl, ?_, ?_⟩ <;> decide +kernel
abbrev s__law_source : Stmt := topS 43
abbrev N__law_source : List Str := ["_law_script", "_law_k", "_law_cell"]
theorem sc__law_source : FnScope N__law_source ["_law_script", "_law_k"] (defScope s__law_source) := by
  refine ⟨rfl, rfl, rfl, ?_, rfl, ?_, ?_⟩ <;> decide +kernel
abbrev s__law_next : Stmt := topS 44
abbrev N__law_next : List Str := ["_law_source_here", "_law_many", "_law_found"]
theorem sc__law_next : FnScope N__law_next ["_law_source_here", "_law_many"] (defScope s__law_next) := by
  refine ⟨rfl, rfl, rfl, ?_, rfl, ?_, ?_⟩ <;> decide +kernel
abbrev s__law_base : Stmt := topS 45
abbrev N__law_base : List Str := ["_law_source_here"]
theorem sc__law_base : FnScope N__law_base ["_law_source_here"] (defScope s__law_base) := by
  refine ⟨rfl, rfl, rfl, ?_, rfl, ?_, ?_⟩ <;> decide +kernel
abbrev s__law_levels : Stmt := topS 46
abbrev N__law_levels : List Str := ["_law_source_here", "_law_many", "_law_sort", "_law_found", "_law_at"]
theorem sc__law_levels : FnScope N__law_levels ["_law_source_here"] (defScope s__law_levels) := by
  refine ⟨rfl, rfl, rfl, ?_, rfl, ?_, ?_⟩ <;> decide +kernel
abbrev s__law_word : Stmt := topS 47
abbrev N__law_word : List Str := ["_law_ask", "e", "_law_kinds"]
theorem sc__law_word : FnScope N__law_word ["_law_ask"] (defScope s__law_word) := by
  refine ⟨rfl, rfl, rfl, ?_, rfl, ?_, ?_⟩ <;> decide +kernel
abbrev s__law_pair : Stmt := topS 48
abbrev N__law_pair : List Str := ["_law_source_here", "_law_measure", "_law_most"]
theorem sc__law_pair : FnScope N__law_pair ["_law_source_here", "_law_measure"] (defScope s__law_pair) := by
  refine ⟨rfl, rfl, rfl, ?_, rfl, ?_, ?_⟩ <;> decide +kernel
abbrev s__law_from : Stmt := topS 49
abbrev N__law_from : List Str := ["_law_one", "_law_two", "_law_begin", "_law_every", "_law_least"]
theorem sc__law_from : FnScope N__law_from ["_law_one", "_law_two"] (defScope s__law_from) := by
  refine ⟨rfl, rfl, rfl, ?_, rfl, ?_, ?_⟩ <;> decide +kernel
abbrev s__law_range_right : Stmt := topS 50
abbrev N__law_range_right : List Str := ["_law_source_here", "_law_wheel", "_law_one", "_law_two", "_law_most", "_law_base_here", "_law_levels_here", "_law_begin", "_law_every", "_law_start", "_law_many", "_law_last", "_law_mine", "_law_at", "_law_parts", "_law_due"]
theorem sc__law_range_right : FnScope N__law_range_right ["_law_source_here", "_law_wheel", "_law_one", "_law_two", "_law_most"] (defScope s__law_range_right) := by
  refine ⟨rfl, rfl, rfl, ?_, rfl, ?_, ?_⟩ <;> decide +kernel
abbrev s__law_bound_right : Stmt := topS 51
abbrev N__law_bound_right : List Str := ["_law_wheel", "_law_one", "_law_two", "_law_every", "_law_start", "_law_both", "_law_base_here", "_law_begin", "_law_last", "_law_levels_here"]
theorem sc__law_bound_right : FnScope N__law_bound_right ["_law_wheel", "_law_one", "_law_two"] (defScope s__law_bound_right) := by
  refine ⟨rfl, rfl, rfl, ?_, rfl, ?_, ?_⟩ <;> decide +kernel
abbrev s_law : Stmt := topS 52
abbrev N_law : List Str := ["_law_script", "_law_k", "_law_source_here", "_law_wheel", "_law_measure", "_law_one", "_law_two", "_law_time"]
theorem sc_law : FnScope N_law ["_law_script"] (defScope s_law) := by
  refine ⟨rfl, rfl, rfl, ?_, rfl, ?_, ?_⟩ <;> decide +kernel
/-- what the top leaves of built-in names -/
structure Tx (K : PySem.W.Frag) (mg : Str → Option Value) : Prop where
  b_isinstance : mg "isinstance" = none
  b_int : mg "int" = none
  b_bool : mg "bool" = none
  b_str : mg "str" = none
  b_all : mg "all" = none
  b_list : mg "list" = none
  b_len : mg "len" = none
  b_min : mg "min" = none
  b_tuple : mg "tuple" = none
  b_max : mg "max" = none
  b_range : mg "range" = none
  b_ValueError : mg "ValueError" = none
  b_sum : mg "sum" = none
/-! ### the program: what an integer is, bases, ticks -/
def slotInt (σ : L2.St) (i : Nat) : Nat := match σ[i]? with
  | some (some (.int z)) => z.toNat
  | _ => 0
theorem cast_div (a b : Nat) : (a : Int) / (b : Int) = ((a / b : Nat) : Int) := rfl
theorem cast_mod (a b : Nat) : (a : Int) % (b : Int) = ((a % b : Nat) : Int) := rfl
theorem cast_mul (a b : Nat) : (a : Int) * (b : Int) = ((a * b : Nat) : Int) := (Int.natCast_mul a b).symm
theorem cast_add (a b : Nat) : (a : Int) + (b : Int) = ((a + b : Nat) : Int) := rfl
theorem natAbs_cast (a : Nat) : ((a : Nat) : Int).natAbs = a := rfl
theorem divp_s {i j : Int} (b : Nat) (hj : 0 < j) (hi : i.natAbs < 2 ^ b) (h : b ≤ 3000 := by decide) : CDivP i j := by
  refine divp_ok hj ?_
  have := PyProof.Rows.intBits_le hi
  omega
section
variable {P : Program} {w : World} {K : PySem.W.Frag} {mg : Str → Option Value} {base : Heap}
def spIsInt : Sp := fun vs H Q _ => ∃ n : Int, vs = [.int n] ∧ Q (.bl true) H
theorem ok_is_integer {f : Addr} {fd : FuncData} (F : Fun K "is_integer" "is_integer" s_is_integer f fd) (T : Tx K mg) : FnOk P w K mg base CX0 1 f fd ["given"] spIsInt := by
  refine F.ok sc_is_integer (fun vs H Q E h => ?_) (fun cdv A outer s H vs Q E hr h => ?_)
  · obtain ⟨n, rfl, _⟩ := h
    rfl
  · obtain ⟨n, rfl, q⟩ := h
    refine ⟨_, (pss_one (ps_ret (pe_and (pe_callB (isiK (K := K) rfl) (by rfl) T.b_isinstance (by decide +kernel) (pa_cons (pv 0) (pa_cons (pe_bltn (v := .ty "int") (u := .type "int") (by rfl) T.b_int (by decide +kernel) rfl) pa_nil))) (pe_one (pe_not (pe_callB (isiK (K := K) rfl) (by rfl) T.b_isinstance (by decide +kernel) (pa_cons (pv 0) (pa_cons (pe_bltn (v := .ty "bool") (u := .type "bool") (by rfl) T.b_bool (by decide +kernel) rfl) pa_nil)))))))), ?_⟩
    refine ⟨.int n, rfl, .int n, _, _, _, true, rfl, .ty "int", .base (.int n), kit_ty (by decide +kernel), true, rfl, iteT ?_⟩
    exact ⟨.int n, rfl, .int n, _, _, _, false, rfl, .ty "bool", .base (.int n), kit_ty (by decide +kernel), false, rfl, q⟩
end
/-! a tick, of an integer -/
section
variable {P : Program} {w : World} {K : PySem.W.Frag} {mg : Str → Option Value} {base : Heap}
def spIsTick : Sp := fun vs H Q _ => ∃ n l : Int, vs = [.int n, .int l] ∧ l ≤ n ∧ Q (.bl true) H
theorem ok_is_tick {f : Addr} {fd : FuncData} (F : FunD K "is_tick" "is_tick" (defArgs s_is_tick) (defBody s_is_tick) (defScope s_is_tick) [.int 0] [] f fd) (T : Tx K mg) (h1 : Has P w K mg base 1 "is_integer" ["given"] [] spIsInt) : FnOk P w K mg base CX0 2 f fd ["given", "least"] spIsTick := by
  obtain ⟨f_is_integer, fd_is_integer, ds_is_integer, G_is_integer, m_is_integer, k_is_integer, b_is_integer, v_is_integer⟩ := h1
  refine F.ok sc_is_tick (fun vs H Q E h => ?_) (fun cdv A outer s H vs Q E hr h => ?_)
  · obtain ⟨n, l, rfl, _⟩ := h
    rfl
  · obtain ⟨n, l, rfl, l1, q⟩ := h
    refine ⟨_, PSs.nox (pss_one (ps_ret (pe_and (pe_call G_is_integer hr (by rfl) m_is_integer k_is_integer b_is_integer v_is_integer pass0 (pa_cons (pv 0) pa_nil)) (pe_one (pe_cmpR op_ge (pv 0) (pv 1) (nomark _)))))), ?_⟩
    refine ⟨.int n, rfl, n, rfl, true, rfl, iteT ?_⟩
    refine ⟨.int n, rfl, .int l, rfl, n, l, rfl, rfl, ?_⟩
    have e : V.bl (decide (n ≥ l)) = V.bl true := dT l1
    show Q (V.bl (decide (n ≥ l))) H
    rw [e]
    exact q
end
/-! ### bases and ticks -/
section
variable {P : Program} {w : World} {K : PySem.W.Frag} {mg : Str → Option Value} {base : Heap}
def spIsBase : Sp := fun vs H Q _ => ∃ n : Int, vs = [.int n] ∧ 2 ≤ n ∧ n ≤ 64 ∧ Q (.bl true) H
theorem ok_is_base {f : Addr} {fd : FuncData} (F : Fun K "is_base" "is_base" s_is_base f fd) (h1 : Has P w K mg base 1 "is_integer" ["given"] [] spIsInt) : FnOk P w K mg base CX0 2 f fd ["given"] spIsBase := by
  obtain ⟨f_is_integer, fd_is_integer, ds_is_integer, G_is_integer, m_is_integer, k_is_integer, b_is_integer, v_is_integer⟩ := h1
  refine F.ok sc_is_base (fun vs H Q E h => ?_) (fun cdv A outer s H vs Q E hr h => ?_)
  · obtain ⟨n, rfl, _⟩ := h
    rfl
  · obtain ⟨n, rfl, l1, l2, q⟩ := h
    refine ⟨_, (pss_one (ps_ret (pe_and (pe_call G_is_integer hr (by rfl) m_is_integer k_is_integer b_is_integer v_is_integer pass0 (pa_cons (pv 0) pa_nil)) (pe_one (pe_chain op_le op_le pe_int (pv 0) pe_int))))), ?_⟩
    refine ⟨.int n, rfl, n, rfl, true, rfl, iteT ?_⟩
    refine ⟨.int n, rfl, 2, n, rfl, rfl, true, congrArg V.bl (decide_eq_true l1), iteT ?_⟩
    refine ⟨n, 64, rfl, rfl, ?_⟩
    have e : V.bl (decide (n ≤ 64)) = V.bl true := dT l2
    show Q (V.bl (decide (n ≤ 64))) H
    rw [e]
    exact q
def spCheckBase : Sp := fun vs H Q _ => ∃ n : Int, vs = [.int n] ∧ 2 ≤ n ∧ n ≤ 64 ∧ Q .non H
theorem ok_check_base {f : Addr} {fd : FuncData} (F : Fun K "check_base" "check_base" s_check_base f fd) (h1 : Has P w K mg base 2 "is_base" ["given"] [] spIsBase) : FnOk P w K mg base CX0 3 f fd ["base"] spCheckBase := by
  obtain ⟨f_is_base, fd_is_base, ds_is_base, G_is_base, m_is_base, k_is_base, b_is_base, v_is_base⟩ := h1
  refine F.ok sc_check_base (fun vs H Q E h => ?_) (fun cdv A outer s H vs Q E hr h => ?_)
  · obtain ⟨n, rfl, _⟩ := h
    rfl
  · obtain ⟨n, rfl, l1, l2, q⟩ := h
    refine ⟨_, (pss_one (ps_if (pt_not (pt_val (pe_call G_is_base hr (by rfl) m_is_base k_is_base b_is_base v_is_base pass0 (pa_cons (pv 0) pa_nil))))
        (pss_one ps_never)
        pss_nil)), ?_⟩
    exact ⟨.int n, rfl, n, rfl, l1, l2, true, rfl, iteF q⟩
def spCheckTick : Sp := fun vs H Q _ => ∃ n l : Int, vs = [.int n, .int l] ∧ l ≤ n ∧ Q .non H
theorem ok_check_tick {f : Addr} {fd : FuncData} (F : FunD K "check_tick" "check_tick" (defArgs s_check_tick) (defBody s_check_tick) (defScope s_check_tick) [.int 0] [] f fd) (h1 : Has P w K mg base 2 "is_tick" ["given", "least"] [] spIsTick) : FnOk P w K mg base CX0 3 f fd ["tick", "least"] spCheckTick := by
  obtain ⟨f_is_tick, fd_is_tick, ds_is_tick, G_is_tick, m_is_tick, k_is_tick, b_is_tick, v_is_tick⟩ := h1
  refine F.ok sc_check_tick (fun vs H Q E h => ?_) (fun cdv A outer s H vs Q E hr h => ?_)
  · obtain ⟨n, l, rfl, _⟩ := h
    rfl
  · obtain ⟨n, l, rfl, l1, q⟩ := h
    refine ⟨_, PSs.nox (pss_one (ps_if (pt_not (pt_val (pe_call G_is_tick hr (by rfl) m_is_tick k_is_tick b_is_tick v_is_tick pass0 (pa_cons (pv 0) (pa_cons (pv 1) pa_nil)))))
        (pss_one ps_never)
        pss_nil)), ?_⟩
    exact ⟨.int n, rfl, .int l, rfl, n, l, rfl, l1, true, rfl, iteF q⟩
end
/-! ### the program: level_and_size, path -/
section
variable {P : Program} {w : World} {K : PySem.W.Frag} {mg : Str → Option Value} {base : Heap}
/-! the level -/
def spLevel : Sp := fun vs H Q _ => ∃ b n d : Nat, vs = [.int b, .int n, .int d] ∧ 2 ≤ b ∧ b ≤ 64 ∧ n < d ∧ d < 2 ^ 250 ∧ ∀ k, IsLev b n d k → ∀ H' p, Same H H' → H p = none → H' p = some (.tup [.int (k : Nat), .int ((b ^ k : Nat) : Int)]) → Q (.ref p) H'
theorem ok_level_and_size {f : Addr} {fd : FuncData} (F : Fun K "level_and_size" "level_and_size" s_level_and_size f fd) : FnOk P w K mg base CX0 1 f fd ["base", "now", "due"] spLevel := by
  refine F.ok sc_level_and_size (fun vs H Q E h => ?_) (fun cdv A outer s H vs Q E hr h => ?_)
  · obtain ⟨b, n, d, rfl, _⟩ := h
    rfl
  · obtain ⟨b, n, d, rfl, hb, hb64, hnd, hd, q⟩ := h
    have cb : ∀ x : Nat, NDiv x b := fun x => ndiv 7 (by omega) (by omega)
    refine ⟨_, (pss_cons (ps_asg (pe_tup (pa_cons pe_int (pa_cons pe_int pa_nil))) (pg_tupK (K := K) (n := 2) rfl rfl (pgs_cons (pg_name (i := 3) sc_level_and_size.nd rfl (.inl rfl)) (pgs_cons (pg_name (i := 4) sc_level_and_size.nd rfl (.inl rfl)) pgs_nil))))
      (pss_cons (ps_par (i := 5) (j := 6) (by rfl) sc_level_and_size.nd rfl rfl (by decide) rfl rfl (pa_cons (pe_op op_divN (pv 1) (pv 0)) (pa_cons (pe_op op_divN (pv 2) (pv 0)) pa_nil)) (by rfl))
      (pss_cons (ps_while PassesOwn.never (pt_cmpR op_ne (pv 5) (pv 6) (nomark _))
        (pss_cons (ps_par (i := 5) (j := 6) (by rfl) sc_level_and_size.nd rfl rfl (by decide) rfl rfl (pa_cons (pe_op op_divN (pv 5) (pv 0)) (pa_cons (pe_op op_divN (pv 6) (pv 0)) pa_nil)) (by rfl))
        (pss_one (ps_par (i := 3) (j := 4) (by rfl) sc_level_and_size.nd rfl rfl (by decide) rfl rfl (pa_cons (pe_op op_addN (pv 3) pe_int) (pa_cons (pe_op op_mulN (pv 4) (pv 0)) pa_nil)) (by rfl)))))
      (pss_one (ps_ret (pe_tup (pa_cons (pv 3) (pa_cons (pv 4) pa_nil)))))))), ?_⟩
    refine ⟨by simp [sizeLine_eq], fun t hT => ⟨t, _, rfl, .inl (.inl upd_same), rfl, _, _, rfl, _, _, rfl, rfl, ?_⟩⟩
    refine ⟨_, rfl, _, rfl, _, _, rfl, rfl, cb _, _, rfl, _, rfl, _, _, rfl, rfl, cb _, _, _, rfl, ?_⟩
    refine while_by (fun σ H' => ∃ k : Nat, σ = [some (.int (b : Int)), some (.int (n : Int)), some (.int (d : Int)), some (.int (k : Int)), some (.int ((b ^ k : Nat) : Int)), some (.int ((n / b ^ (k + 1) : Nat) : Int)), some (.int ((d / b ^ (k + 1) : Nat) : Int))] ∧ Same H H' ∧ ∀ j, j < k → n / b ^ (j + 1) ≠ d / b ^ (j + 1))
      (fun σ _ => slotInt σ 6) ⟨0, ?_, same_upd hT, fun j hj => absurd hj (Nat.not_lt_zero j)⟩ ?_ ?_
    · rw [Nat.zero_add, Nat.pow_one]
      rfl
    · rintro σ H' ⟨k, rfl, sm, hk⟩
      by_cases hne : n / b ^ (k + 1) = d / b ^ (k + 1)
      · refine ⟨_, rfl, _, rfl, rfl, false, ?_, iteF ?_⟩
        · rw [hne, decide_eq_true rfl]
          rfl
        · refine ⟨_, rfl, _, rfl, by simp [sizeLine_eq], fun p hp => ?_⟩
          exact q k ⟨hne, hk⟩ _ p (sm.trans (same_upd hp)) (sm.free hp) upd_same
      · have h2 : n / b ^ (k + 1) ≤ d / b ^ (k + 1) := Nat.div_le_div_right (Nat.le_of_lt hnd)
        have hpos : 0 < d / b ^ (k + 1) := pos_of h2 hne
        refine ⟨_, rfl, _, rfl, rfl, true, ?_, iteT ?_⟩
        · rw [int_ne hne]
          rfl
        · refine ⟨_, rfl, _, rfl, _, _, rfl, rfl, cb _, _, rfl, _, rfl, _, _, rfl, rfl, cb _, _, _, rfl, ?_⟩
          refine ⟨_, rfl, k, 1, rfl, rfl, trivial, _, rfl, _, rfl, _, _, rfl, rfl, nmul_r (by omega), _, _, rfl, ?_⟩
          have hlt : d / b ^ (k + 1) / b < d / b ^ (k + 1) := Nat.div_lt_self hpos (by omega)
          refine ⟨⟨k + 1, ?_, sm, fun j hj => ?_⟩, ?_⟩
          · rw [div_succ n b (k + 1), div_succ d b (k + 1), Nat.pow_succ b k]
            rfl
          · by_cases e : j = k
            · rw [e]
              exact hne
            · exact hk j (by omega)
          · show (((d / b ^ (k + 1) / b : Nat) : Int)).toNat < (((d / b ^ (k + 1) : Nat) : Int)).toNat
            rw [Int.toNat_natCast, Int.toNat_natCast]
            exact hlt
    · rintro σ H' Q1 Q2 h ⟨x, hx, y, hy, hs, k, e, z⟩
      exact ⟨x, hx, y, hy, hs, k, e, h _ _ z⟩
/-! the stations -/
def rowV (r : Row3) : List V := [.int (r.1 : Nat), .int (r.2.1 : Nat), .int (r.2.2 : Nat)]
/-- at the places ts stand the rows rs, each a tuple of three -/
def RowsAt (H : Hp) : List Addr → List Row3 → Prop
  | [], [] => True
  | t :: ts, r :: rs => H t = some (.tup (rowV r)) ∧ RowsAt H ts rs
  | _, _ => False
theorem RowsAt.same {H H' : Hp} (s : Same H H') : ∀ {ts : List Addr} {rs : List Row3}, RowsAt H ts rs → RowsAt H' ts rs
  | [], [], h => h
  | _ :: _, _ :: _, h => ⟨s _ _ h.1, h.2.same s⟩
  | [], _ :: _, h => h
  | _ :: _, [], h => h
theorem RowsAt.app {H : Hp} {t : Addr} {r : Row3} : ∀ {ts : List Addr} {rs : List Row3}, RowsAt H ts rs → H t = some (.tup (rowV r)) → RowsAt H (ts ++ [t]) (rs ++ [r])
  | [], [], _, h => ⟨h, trivial⟩
  | _ :: _, _ :: _, h, h2 => ⟨h.1, h.2.app h2⟩
  | [], _ :: _, h, _ => h.elim
  | _ :: _, [], h, _ => h.elim
theorem RowsAt.len {H : Hp} : ∀ {ts : List Addr} {rs : List Row3}, RowsAt H ts rs → ts.length = rs.length
  | [], [], _ => rfl
  | _ :: _, _ :: _, h => congrArg Nat.succ h.2.len
  | [], _ :: _, h => h.elim
  | _ :: _, [], h => h.elim
theorem RowsAt.upd {H : Hp} {p : Addr} {xs : List V} {o : HO} (hp : H p = some (.lst xs)) : ∀ {ts : List Addr} {rs : List Row3}, RowsAt H ts rs → RowsAt (upd H p o) ts rs
  | [], [], h => h
  | t :: _, _ :: _, h => ⟨by rw [upd_ne (ne_of h.1 hp (by intro z; cases z))]; exact h.1, h.2.upd hp⟩
  | [], _ :: _, h => h
  | _ :: _, [], h => h
theorem RowsAt.get {H : Hp} : ∀ {ts : List Addr} {rs : List Row3} {i : Nat} {t : Addr}, RowsAt H ts rs → ts[i]? = some t → ∃ r, rs[i]? = some r ∧ H t = some (.tup (rowV r))
  | t :: _, r :: _, 0, _, h, e => ⟨r, rfl, by cases Option.some.inj e; exact h.1⟩
  | _ :: _, _ :: _, i + 1, _, h, e => h.2.get (i := i) e
  | [], _, _, _, _, e => by simp at e
  | _ :: _, [], _, _, h, _ => h.elim
def spPath : Sp := fun vs H Q _ => ∃ b n d : Nat, vs = [.int b, .int n, .int d] ∧ 2 ≤ b ∧ b ≤ 64 ∧ n < d ∧ d < 2 ^ 250 ∧ ∀ k, IsLev b n d k → ∀ H' p ts, Same H H' → H p = none → H' p = some (.lst (ts.map V.ref)) → RowsAt H' ts (rowsOf b n d k) → Q (.ref p) H'
theorem ok_path {f : Addr} {fd : FuncData} (F : Fun K "path" "path" s_path f fd) (h1 : Has P w K mg base 1 "level_and_size" ["base", "now", "due"] [] spLevel) : FnOk P w K mg base CX0 2 f fd ["base", "now", "due"] spPath := by
  obtain ⟨f_level_and_size, fd_level_and_size, ds_level_and_size, G_level_and_size, m_level_and_size, k_level_and_size, b_level_and_size, v_level_and_size⟩ := h1
  refine F.ok sc_path (fun vs H Q E h => ?_) (fun cdv A outer s H vs Q E hr h => ?_)
  · obtain ⟨b, n, d, rfl, _⟩ := h
    rfl
  · obtain ⟨b, n, d, rfl, hb, hb64, hnd, hd, q⟩ := h
    have cb : ∀ x : Nat, NDiv x b := fun x => ndiv 7 (by omega) (by omega)
    have hb0 : 0 < b := by omega
    refine ⟨_, (pss_cons (ps_asg (pe_call G_level_and_size hr (by rfl) m_level_and_size k_level_and_size b_level_and_size v_level_and_size pass0 (pa_cons (pv 0) (pa_cons (pv 1) (pa_cons (pv 2) pa_nil)))) (pg_tupK (K := K) (n := 2) rfl rfl (pgs_cons (pg_name (i := 3) sc_path.nd rfl (.inl rfl)) (pgs_cons (pg_name (i := 4) sc_path.nd rfl (.inl rfl)) pgs_nil))))
      (pss_cons (ps_set (i := 5) sc_path.nd rfl (.inl rfl) (pe_lst (pa_cons (pe_tup (pa_cons (pv 3) (pa_cons (pe_op op_remN (pe_op op_divN (pv 2) (pv 4)) (pv 0)) (pa_cons (pv 1) pa_nil)))) pa_nil)))
      (pss_cons (ps_while PassesOwn.never (pt_cmpR op_gt (pv 3) pe_int (nomark _))
        (pss_cons (ps_set (i := 6) sc_path.nd rfl (.inl rfl) (pe_op op_mulN (pe_op op_divN (pv 2) (pv 4)) (pv 4)))
        (pss_cons (ps_par (i := 3) (j := 4) (by rfl) sc_path.nd rfl rfl (by decide) rfl rfl (pa_cons (pe_op op_subN (pv 3) pe_int) (pa_cons (pe_op op_divN (pv 4) (pv 0)) pa_nil)) (by rfl))
        (pss_cons (ps_set (i := 7) sc_path.nd rfl (.inl rfl) (pe_op op_remN (pe_op op_divN (pv 2) (pv 4)) (pv 0)))
        (pss_one (ps_if (pt_cmpR op_ne (pv 7) pe_int (nomark _))
          (pss_one (ps_expr (pe_bm PySem.F.plainAttrs_list PySem.F.slot_list_append PySem.F.type_list_append mt_append (pv 5) (pa_cons (pe_tup (pa_cons (pv 3) (pa_cons (pv 7) (pa_cons (pv 6) pa_nil)))) pa_nil))))
          pss_nil))))))
      (pss_one (ps_ret (pv 5)))))), ?_⟩
    refine ⟨_, rfl, _, rfl, _, rfl, b, n, d, rfl, hb, hb64, hnd, hd, fun k hk H0 t0 s0 ht0 eT0 => ?_⟩
    have hkd : ∀ j, j ≤ k → b ^ j ≤ d := fun j hj => Nat.le_trans (Nat.pow_le_pow_right (by omega) hj) (hk.size hb hnd)
    have hk250 : k < 250 := lev_small hk hb hnd hd
    have cs : ∀ j, j ≤ k → ∀ x : Nat, NDiv x (b ^ j) := fun j hj x => ndiv 250 (pow_pos' hb j) (Nat.lt_of_le_of_lt (hkd j hj) hd)
    -- level, size = ..
    refine ⟨t0, _, rfl, .inl (.inl eT0), rfl, _, _, rfl, _, _, rfl, rfl, ?_⟩
    -- rows = [(level, due // size % base, now)]
    refine ⟨_, rfl, _, rfl, _, rfl, _, _, rfl, rfl, cs k (Nat.le_refl k) _, _, rfl, _, _, rfl, rfl, hb0, _, rfl, by simp [sizeLine_eq], fun t1 ht1 => ?_⟩
    have s1 := s0.trans (same_upd (o := .tup (rowV (k, d / b ^ k % b, n))) ht1)
    refine ⟨by simp [sizeLine_eq], fun p hp => ?_⟩
    have s2 := s1.trans (same_upd (o := .lst [.ref t1]) hp)
    have np1 : t1 ≠ p := fun e => by
      rw [← e, upd_same] at hp
      cases hp
    have hpH : H p = none := s1.free hp
    refine while_by (fun σ H' => ∃ (j : Nat) (ts : List Addr) (done : List Row3) (y6 y7 : Option V), σ = [some (.int (b : Int)), some (.int (n : Int)), some (.int (d : Int)), some (.int (j : Int)), some (.int ((b ^ j : Nat) : Int)), some (.ref p), y6, y7] ∧ j ≤ k ∧ ts.length + j ≤ k + 1 ∧ Same H H' ∧ H' p = some (.lst (ts.map V.ref)) ∧ RowsAt H' ts ((k, d / b ^ k % b, n) :: done) ∧ tailOf b d k = done ++ tailOf b d j)
      (fun σ _ => slotInt σ 3) ⟨k, [t1], [], none, none, rfl, Nat.le_refl k, by simp; omega, s2, upd_same, ⟨?_, trivial⟩, rfl⟩ ?_ ?_
    · rw [upd_ne np1, upd_same]
      rfl
    · rintro σ H' ⟨j, ts, done, y6, y7, rfl, hjk, hlen, sm, eL, R, et⟩
      cases j with
      | zero =>
        refine ⟨_, rfl, ((0 : Nat) : Int), 0, rfl, rfl, false, rfl, iteF ?_⟩
        refine ⟨_, rfl, q k hk H' p ts sm hpH eL ?_⟩
        have e : done = tailOf b d k := by
          rw [et]
          exact (List.append_nil done).symm
        rw [e] at R
        exact R
      | succ j =>
        have hj0 : (0 : Int) < ((j + 1 : Nat) : Int) := by omega
        refine ⟨_, rfl, _, _, rfl, rfl, true, congrArg V.bl (decide_eq_true hj0), iteT ?_⟩
        -- tick = due // size * size
        refine ⟨_, rfl, _, rfl, _, _, rfl, rfl, cs (j + 1) hjk _, _, rfl, _, _, rfl, rfl, nmul_w 250 250 (Nat.lt_of_le_of_lt (Nat.div_le_self d _) hd) (Nat.lt_of_le_of_lt (hkd (j + 1) hjk) hd), ?_⟩
        -- level, size = level - 1, size // base
        refine ⟨_, rfl, j + 1, 1, rfl, rfl, Nat.le_add_left 1 j, _, rfl, _, rfl, b ^ (j + 1), b, rfl, rfl, cb _, .int (j : Nat), .int ((b ^ j : Nat) : Int), ?_, ?_⟩
        · show [V.int ((j + 1 - 1 : Nat) : Int), V.int ((b ^ (j + 1) / b : Nat) : Int)] = _
          rw [Nat.pow_succ, Nat.mul_div_cancel _ hb0]
          rfl
        -- digit = due // size % base
        refine ⟨_, rfl, _, rfl, d, b ^ j, rfl, rfl, cs j (by omega) _, _, rfl, _, _, rfl, rfl, hb0, ?_⟩
        have lt : slotInt [some (.int (b : Int)), some (.int (n : Int)), some (.int (d : Int)), some (.int (j : Int)), some (.int ((b ^ j : Nat) : Int)), some (.ref p), some (.int ((d / b ^ (j + 1) * b ^ (j + 1) : Nat) : Int)), some (.int ((d / b ^ j % b : Nat) : Int))] 3 < ((j + 1 : Nat) : Int).toNat := by
          show ((j : Int)).toNat < _
          omega
        by_cases h0 : d / b ^ j % b = 0
        · refine ⟨_, rfl, rfl, false, nF (vE h0), iteF ?_⟩
          · refine ⟨⟨j, ts, done, _, _, rfl, by omega, by omega, sm, eL, R, ?_⟩, lt⟩
            rw [et]
            show done ++ tailOf b d (j + 1) = done ++ tailOf b d j
            have : tailOf b d (j + 1) = tailOf b d j := if_neg (fun z => z h0)
            rw [this]
        · refine ⟨_, rfl, rfl, true, nT (vN (b := 0) h0), iteT ?_⟩
          · -- rows.append((level, digit, tick))
            refine ⟨_, rfl, .inl ⟨rfl, _, .inl (.inl eL)⟩, _, rfl, _, rfl, _, rfl, by simp [sizeLine_eq], fun t2 ht2 => ?_⟩
            have s3 := same_upd (o := .tup (rowV (j, d / b ^ j % b, d / b ^ (j + 1) * b ^ (j + 1)))) ht2
            have npt : t2 ≠ p := fun e => by
              rw [e, eL] at ht2
              cases ht2
            have eL' := s3 _ _ eL
            refine ⟨p, _, _, rfl, rfl, eL', ?_, ?_⟩
            · rw [List.length_map]
              exact sizeLine_ge (by omega)
            · refine ⟨⟨j, ts ++ [t2], done ++ [(j, d / b ^ j % b, d / b ^ (j + 1) * b ^ (j + 1))], _, _, rfl, by omega, ?_, fun c o e => ?_, ?_, ?_, ?_⟩, lt⟩
              · rw [List.length_append, List.length_singleton]
                omega
              · rw [upd_ne (ne_of_none e hpH)]
                exact s3 _ _ (sm _ _ e)
              · rw [upd_same, List.map_append]
                rfl
              · refine RowsAt.upd eL' ?_
                exact RowsAt.app (r := (j, d / b ^ j % b, d / b ^ (j + 1) * b ^ (j + 1))) (rs := (k, d / b ^ k % b, n) :: done) (R.same s3) upd_same
              · rw [et, List.append_assoc]
                show done ++ tailOf b d (j + 1) = done ++ ((j, d / b ^ j % b, d / b ^ (j + 1) * b ^ (j + 1)) :: tailOf b d j)
                have : tailOf b d (j + 1) = (j, d / b ^ j % b, d / b ^ (j + 1) * b ^ (j + 1)) :: tailOf b d j := if_pos h0
                rw [this]
    · rintro σ H' Q1 Q2 h ⟨x, hx, i, j, e1, e2, k, e, z⟩
      exact ⟨x, hx, i, j, e1, e2, k, e, h _ _ z⟩
end
theorem RowsAt.item {H : Hp} {ts : List Addr} {rs : List Row3} (R : RowsAt H ts rs) {i : Nat} {x : V} (hx : (ts.map V.ref)[i]? = some x) : ∃ ti r, x = V.ref ti ∧ ts[i]? = some ti ∧ rs[i]? = some r ∧ H ti = some (.tup (rowV r)) := by
  rw [List.getElem?_map] at hx
  cases e : ts[i]? with
  | none =>
    rw [e] at hx
    cases hx
  | some ti =>
    rw [e] at hx
    obtain ⟨r, hr, er⟩ := R.get e
    exact ⟨ti, r, (Option.some.inj hx).symm, rfl, hr, er⟩
/-! ### words of levels, sides -/
def lvV (b : Bool) : V := if b then .str "stack" else .str "queue"
def sdV (b : Bool) : V := if b then .str "front" else .str "back"
theorem lv_ne : ¬ (V.str "queue" = V.str "stack") := by decide
theorem lv_dec (b : Bool) : decide (lvV b = .str "stack") = b := by
  cases b
  · exact decide_eq_false lv_ne
  · exact decide_eq_true rfl
def wordAt (ws : List Bool) (k : Nat) : Bool := ws.getD (min k (ws.length - 1)) false
theorem word_get {ws : List Bool} (h : ws ≠ []) (k : Nat) : (ws.map lvV)[min k (ws.length - 1)]? = some (lvV (wordAt ws k)) := by
  have hl : min k (ws.length - 1) < ws.length := by
    have : 0 < ws.length := List.length_pos_iff.mpr h
    omega
  rw [List.getElem?_map, List.getElem?_eq_getElem hl]
  unfold wordAt
  rw [List.getD_eq_getElem?_getD, List.getElem?_eq_getElem hl]
  rfl
/-- whether an odd number of the rows, at levels from lo on, have the word stack -/
def frontOf (ws : List Bool) (lo : Nat) (rs : List Row3) : Bool := decide (rs.countP (fun r => decide (lo ≤ r.1) && wordAt ws r.1) % 2 = 1)
theorem odd_succ (c : Nat) : decide ((c + 1) % 2 = 1) = !decide (c % 2 = 1) := by
  by_cases h : c % 2 = 1
  · rw [decide_eq_true h, decide_eq_false (by omega)]
    rfl
  · rw [decide_eq_false h, decide_eq_true (by omega)]
    rfl
theorem front_snoc (ws : List Bool) (lo : Nat) (rs : List Row3) (r : Row3) : frontOf ws lo (rs ++ [r]) = if (decide (lo ≤ r.1) && wordAt ws r.1) = true then !frontOf ws lo rs else frontOf ws lo rs := by
  unfold frontOf
  rw [List.countP_append, List.countP_singleton]
  split
  · exact odd_succ _
  · rw [Nat.add_zero]
section
variable {P : Program} {w : World} {K : PySem.W.Frag} {mg : Str → Option Value} {base : Heap}
def spWordAt (K : PySem.W.Frag) : Sp := fun vs H Q _ => ∃ (q : Addr) (ws : List Bool) (k : Nat), vs = [.ref q, .int (k : Nat)] ∧ SqL K H q (ws.map lvV) ∧ ws ≠ [] ∧ Q (lvV (wordAt ws k)) H
theorem ok_word_at {f : Addr} {fd : FuncData} (F : Fun K "word_at" "word_at" s_word_at f fd) (T : Tx K mg) : FnOk P w K mg base CX0 1 f fd ["levels", "level"] (spWordAt K) := by
  refine F.ok sc_word_at (fun vs H Q E h => ?_) (fun cdv A outer s H vs Q E hr h => ?_)
  · obtain ⟨q, ws, k, rfl, _⟩ := h
    rfl
  · obtain ⟨q, ws, k, rfl, hL, hne, c⟩ := h
    have hp : 0 < ws.length := List.length_pos_iff.mpr hne
    have hpm : 1 ≤ (ws.map lvV).length := by
      rw [List.length_map]
      exact hp
    refine ⟨_, (pss_one (ps_ret (pe_ix (ix_listK (K := K) rfl) (pv 0) (pe_callB (call_min2 rfl) (by rfl) T.b_min (by decide +kernel) (pa_cons (pv 1) (pa_cons (pe_op op_subN (pe_callB (lenK (K := K) rfl) (by rfl) T.b_len PySem.boot_len (pa_cons (pv 0) pa_nil)) pe_int) pa_nil))) (fun _ _ => rfl)))), ?_⟩
    have g := word_get hne k
    refine ⟨.ref q, rfl, _, rfl, .ref q, rfl, q, _, rfl, .inl hL, (ws.map lvV).length, 1, rfl, rfl, hpm, k, _, rfl, q, _, ((min k (ws.length - 1) : Nat) : Int), _, rfl, congrArg V.int ?_, hL, atI_nat g, c⟩
    dsimp only
    rw [List.length_map]
    split <;> omega
def WordsAt (K : PySem.W.Frag) (mg : Str → Option Value) : Prop := ∃ a, mg "WORDS" = some (.ref a) ∧ ∀ H, SqT K H a [.str "stack", .str "queue"]
def MostAt (mg : Str → Option Value) : Prop := ∃ t, mg "MOST_LEVELS" = some (.int 60 t)
def spIsWord : Sp := fun vs H Q _ => ∃ b : Bool, vs = [lvV b] ∧ Q (.bl true) H
theorem ok_is_word {f : Addr} {fd : FuncData} (F : Fun K "is_word" "is_word" s_is_word f fd) (T : Tx K mg) (hW : WordsAt K mg) : FnOk P w K mg base CX0 1 f fd ["given"] spIsWord := by
  obtain ⟨a_WORDS, g_WORDS, sW⟩ := hW
  refine F.ok sc_is_word (fun vs H Q E h => ?_) (fun cdv A outer s H vs Q E hr h => ?_)
  · obtain ⟨b, rfl, _⟩ := h
    rfl
  · obtain ⟨b, rfl, c⟩ := h
    refine ⟨_, (pss_one (ps_ret (pe_and (pe_callB (isiK (K := K) rfl) (by rfl) T.b_isinstance (by decide +kernel) (pa_cons (pv 0) (pa_cons (pe_bltn (v := .ty "str") (u := .type "str") (by rfl) T.b_str (by decide +kernel) rfl) pa_nil))) (pe_one (pe_cmpR op_in_seq (pv 0) (pe_glob (v := .ref a_WORDS) rfl g_WORDS rfl) (by rfl)))))), ?_⟩
    obtain ⟨x, ex, hx⟩ : ∃ x : Str, lvV b = .str x ∧ (if false then !inV (V.str x) [.str "stack", .str "queue"] else inV (V.str x) [.str "stack", .str "queue"]) = true := by
      cases b
      · exact ⟨_, rfl, by decide⟩
      · exact ⟨_, rfl, by decide⟩
    rw [ex]
    refine ⟨.str x, rfl, _, _, _, _, true, rfl, .ty "str", .base (.str x), kit_ty (by decide +kernel), true, rfl, iteT ?_⟩
    refine ⟨.str x, rfl, a_WORDS, _, rfl, .inr (sW _), rfl, rfl, ?_⟩
    rw [hx]
    exact c
def spIsLength : Sp := fun vs H Q _ => ∃ n : Int, vs = [.int n] ∧ 1 ≤ n ∧ n ≤ 60 ∧ Q (.bl true) H
theorem ok_is_length {f : Addr} {fd : FuncData} (F : Fun K "is_length" "is_length" s_is_length f fd) (hM : MostAt mg) (h1 : Has P w K mg base 1 "is_integer" ["given"] [] spIsInt) : FnOk P w K mg base CX0 2 f fd ["given"] spIsLength := by
  obtain ⟨tM, g_MOST_LEVELS⟩ := hM
  obtain ⟨f_is_integer, fd_is_integer, ds_is_integer, G_is_integer, m_is_integer, k_is_integer, b_is_integer, v_is_integer⟩ := h1
  refine F.ok sc_is_length (fun vs H Q E h => ?_) (fun cdv A outer s H vs Q E hr h => ?_)
  · obtain ⟨n, rfl, _⟩ := h
    rfl
  · obtain ⟨n, rfl, l1, l2, q⟩ := h
    refine ⟨_, (pss_one (ps_ret (pe_and (pe_call G_is_integer hr (by rfl) m_is_integer k_is_integer b_is_integer v_is_integer pass0 (pa_cons (pv 0) pa_nil)) (pe_one (pe_chain op_le op_le pe_int (pv 0) (pe_glob (v := .int 60) rfl g_MOST_LEVELS ⟨_, rfl⟩)))))), ?_⟩
    refine ⟨.int n, rfl, n, rfl, true, rfl, iteT ?_⟩
    refine ⟨.int n, rfl, 1, n, rfl, rfl, true, congrArg V.bl (decide_eq_true l1), iteT ?_⟩
    refine ⟨n, 60, rfl, rfl, ?_⟩
    have e : V.bl (decide (n ≤ 60)) = V.bl true := dT l2
    show Q (V.bl (decide (n ≤ 60))) H
    rw [e]
    exact q
def spAreLevels (K : PySem.W.Frag) : Sp := fun vs H Q _ => ∃ (q : Addr) (ws : List Bool), vs = [.ref q] ∧ SqL K H q (ws.map lvV) ∧ ws ≠ [] ∧ ws.length ≤ 60 ∧ ∀ H', Same H H' → Q (.bl true) H'
theorem ok_are_levels {f : Addr} {fd : FuncData} (F : Fun K "are_levels" "are_levels" s_are_levels f fd) (T : Tx K mg) (h0 : Has P w K mg base 2 "is_length" ["given"] [] spIsLength) (h1 : Has P w K mg base 1 "is_word" ["given"] [] spIsWord) : FnOk P w K mg base CX0 3 f fd ["given"] (spAreLevels K) := by
  obtain ⟨f_is_length, fd_is_length, ds_is_length, G_is_length, m_is_length, k_is_length, b_is_length, v_is_length⟩ := h0
  obtain ⟨f_is_word, fd_is_word, ds_is_word, G_is_word, m_is_word, k_is_word, b_is_word, v_is_word⟩ := h1
  refine F.ok sc_are_levels (fun vs H Q E h => ?_) (fun cdv A outer s H vs Q E hr h => ?_)
  · obtain ⟨q, ws, rfl, _⟩ := h
    rfl
  · obtain ⟨q, ws, rfl, hL, hne, h60, c⟩ := h
    have hp : 0 < ws.length := List.length_pos_iff.mpr hne
    refine ⟨_, (pss_cons (ps_if (PW.pt (pw_or (pt_not (pt_val (pe_callB (isiK (K := K) rfl) (by rfl) T.b_isinstance (by decide +kernel) (pa_cons (pv 0) (pa_cons (pe_bltn (v := .ty "list") (u := .type "list") (by rfl) T.b_list (by decide +kernel) rfl) pa_nil))))) (pw_or1 (pt_not (pt_val (pe_call G_is_length hr (by rfl) m_is_length k_is_length b_is_length v_is_length pass0 (pa_cons (pe_callB (lenK (K := K) rfl) (by rfl) T.b_len PySem.boot_len (pa_cons (pv 0) pa_nil)) pa_nil)))))))
        (pss_one (ps_ret pe_bl))
        pss_nil)
      (pss_one (ps_ret (pe_callB (allK (K := K) rfl rfl) (by rfl) T.b_all (by decide +kernel) (pa_cons (pe_lc (own := [("word", 1)]) (g := gName 1) (tt := tYes) rfl sc_are_levels.nd (pi_list (pv 0)) (blkOk_by (own := [("word", 1)]) (N := N_are_levels) (sc := defScope s_are_levels) (by decide +kernel)) (fun _ _ _ _ _ => (pg_name (i := 1) sc_are_levels.nd rfl (.inl rfl))) (fun _ _ _ _ _ => pts_nil) (fun _ _ _ _ _ => (pe_call G_is_word (hr.mono (by decide)) (by rfl) m_is_word k_is_word b_is_word v_is_word pass0 (pa_cons (pv 1) pa_nil)))) pa_nil))))), ?_⟩
    refine ⟨.ref q, rfl, _, _, _, _, true, rfl, .ty "list", tyx_list hL, kit_ty (by decide +kernel), true, rfl, iteF ?_⟩
    refine ⟨.ref q, rfl, q, _, rfl, .inl hL, _, rfl, ?_, ?_, true, rfl, iteF ?_⟩
    · rw [List.length_map]
      omega
    · rw [List.length_map]
      omega
    refine ⟨.ref q, rfl, q, rfl, ⟨_, hL⟩, fun D hD => lc_list (K := K) (a := q) (xs := ws.map lvV) (fun i H' => Same H H' ∧ H' D = some (.lst ((List.replicate i true).map V.bl)))
      ⟨same_upd hD, upd_same⟩ (fun i H' _ ⟨sm, _⟩ => sm.seq hL) ?_ ?_⟩
    · rintro i x H' hx ⟨sm, eD⟩
      obtain ⟨b, rfl⟩ : ∃ b, x = lvV b := by
        rw [List.getElem?_map] at hx
        cases e : ws[i]? with
        | none =>
          rw [e] at hx
          cases hx
        | some b =>
          rw [e] at hx
          exact ⟨b, (Option.some.inj hx).symm⟩
      have hi : i < (ws.map lvV).length := (List.getElem?_eq_some_iff.mp hx).1
      rw [List.length_map] at hi
      refine ⟨rfl, yesT (iteT ?_)⟩
      refine ⟨_, rfl, b, rfl, _, eD, ?_, fun c o e => ?_, ?_⟩
      · rw [List.length_map, List.length_replicate]
        exact sizeLine_ge (by omega)
      · rw [upd_ne (ne_of_none e hD)]
        exact sm _ _ e
      · rw [upd_same, List.replicate_succ', List.map_append]
        rfl
    · rintro H1 ⟨s1, eD⟩
      refine ⟨D, _, rfl, SqL.of eD, ?_⟩
      have ea : (List.replicate (ws.map lvV).length true).all id = true := by
        rw [List.all_replicate]
        simp
      rw [ea]
      exact c H1 s1
def spCheckLevels (K : PySem.W.Frag) : Sp := fun vs H Q _ => ∃ (q : Addr) (ws : List Bool), vs = [.ref q] ∧ SqL K H q (ws.map lvV) ∧ ws ≠ [] ∧ ws.length ≤ 60 ∧ ∀ H', Same H H' → Q .non H'
theorem ok_check_levels {f : Addr} {fd : FuncData} (F : Fun K "check_levels" "check_levels" s_check_levels f fd) (h1 : Has P w K mg base 3 "are_levels" ["given"] [] (spAreLevels K)) : FnOk P w K mg base CX0 4 f fd ["levels"] (spCheckLevels K) := by
  obtain ⟨f_are_levels, fd_are_levels, ds_are_levels, G_are_levels, m_are_levels, k_are_levels, b_are_levels, v_are_levels⟩ := h1
  refine F.ok sc_check_levels (fun vs H Q E h => ?_) (fun cdv A outer s H vs Q E hr h => ?_)
  · obtain ⟨q, ws, rfl, _⟩ := h
    rfl
  · obtain ⟨q, ws, rfl, hL, hne, h60, c⟩ := h
    refine ⟨_, (pss_one (ps_if (pt_not (pt_val (pe_call G_are_levels hr (by rfl) m_are_levels k_are_levels b_are_levels v_are_levels pass0 (pa_cons (pv 0) pa_nil))))
        (pss_one ps_never)
        pss_nil)), ?_⟩
    exact ⟨_, rfl, q, ws, rfl, hL, hne, h60, fun H1 s1 => ⟨true, rfl, iteF (c H1 s1)⟩⟩
end
section
variable {P : Program} {w : World} {K : PySem.W.Frag} {mg : Str → Option Value} {base : Heap}
def spFront (K : PySem.W.Frag) : Sp := fun vs H Q _ => ∃ (b n d lo : Nat) (q : Addr) (ws : List Bool), vs = [.int (b : Nat), .ref q, .int (n : Nat), .int (d : Nat), .int (lo : Nat)] ∧ 2 ≤ b ∧ b ≤ 64 ∧ n < d ∧ d < 2 ^ 250 ∧ SqL K H q (ws.map lvV) ∧ ws ≠ [] ∧
  ∀ k, IsLev b n d k → ∀ H', Same H H' → Q (.bl (frontOf ws lo (rowsOf b n d k))) H'
theorem ok_goes_in_front {f : Addr} {fd : FuncData} (F : Fun K "goes_in_front" "goes_in_front" s_goes_in_front f fd) (h1 : Has P w K mg base 2 "path" ["base", "now", "due"] [] spPath) (h2 : Has P w K mg base 1 "word_at" ["levels", "level"] [] (spWordAt K)) :
    FnOk P w K mg base CX0 3 f fd ["base", "levels", "now", "due", "lowest"] (spFront K) := by
  obtain ⟨f_path, fd_path, ds_path, G_path, m_path, k_path, b_path, v_path⟩ := h1
  obtain ⟨f_word_at, fd_word_at, ds_word_at, G_word_at, m_word_at, k_word_at, b_word_at, v_word_at⟩ := h2
  refine F.ok sc_goes_in_front (fun vs H Q E h => ?_) (fun cdv A outer s H vs Q E hr h => ?_)
  · obtain ⟨b, n, d, lo, q, ws, rfl, _⟩ := h
    rfl
  · obtain ⟨b, n, d, lo, q, ws, rfl, hb, hb64, hnd, hd, hL, hne, c⟩ := h
    refine ⟨_, (pss_cons (ps_set (i := 5) sc_goes_in_front.nd rfl (.inl rfl) pe_bl)
      (pss_cons (ps_for PassesOwn.never rfl (pi_list (pe_call G_path hr (by rfl) m_path k_path b_path v_path pass0 (pa_cons (pv 0) (pa_cons (pv 2) (pa_cons (pv 3) pa_nil))))) (pg_tupK (K := K) (n := 3) rfl rfl (pgs_cons (pg_name (i := 6) sc_goes_in_front.nd rfl (.inl rfl)) (pgs_cons (pg_name (i := 7) sc_goes_in_front.nd rfl (.inl rfl)) (pgs_cons (pg_name (i := 8) sc_goes_in_front.nd rfl (.inl rfl)) pgs_nil))))
        (pss_one (ps_if (PW.pt (pw_and (pt_cmpR op_ge (pv 6) (pv 4) (nomark _)) (pw_and1 (pt_cmpR op_eq (pe_call G_word_at (hr.mono (by decide)) (by rfl) m_word_at k_word_at b_word_at v_word_at pass0 (pa_cons (pv 1) (pa_cons (pv 6) pa_nil))) pe_str (nomark _)))))
          (pss_one (ps_set (i := 5) sc_goes_in_front.nd rfl (.inl rfl) (pe_not (pv 5))))
          pss_nil)))
      (pss_one (ps_ret (pv 5))))), ?_⟩
    refine ⟨_, rfl, _, rfl, _, rfl, b, n, d, rfl, hb, hb64, hnd, hd, fun k hk H1 p ts s1 hp0 hp R => ?_⟩
    refine ⟨p, rfl, ⟨_, SqL.of hp⟩, for_list (K := K) (a := p) (xs := ts.map V.ref) (fun i σ H' => ∃ y6 y7 y8, σ = [some (.int (b : Nat)), some (.ref q), some (.int (n : Nat)), some (.int (d : Nat)), some (.int (lo : Nat)), some (.bl (frontOf ws lo ((rowsOf b n d k).take i))), y6, y7, y8] ∧ H' = H1)
      ⟨none, none, none, rfl, rfl⟩ (fun i σ H' _ ⟨_, _, _, _, e⟩ => by rw [e]; exact SqL.of hp) ?_ ?_⟩
    · rintro i x σ H' hx ⟨y6, y7, y8, rfl, rfl⟩
      obtain ⟨ti, r, rfl, hti, hr, er⟩ := R.item hx
      have hstep : frontOf ws lo ((rowsOf b n d k).take (i + 1)) = if (decide (lo ≤ r.1) && wordAt ws r.1) = true then !frontOf ws lo ((rowsOf b n d k).take i) else frontOf ws lo ((rowsOf b n d k).take i) := by
        rw [List.take_add_one, hr]
        exact front_snoc ws lo _ r
      refine ⟨ti, _, rfl, .inl (.inl er), rfl, _, _, rfl, _, _, rfl, _, _, rfl, rfl, ?_⟩
      have hL1 := s1.seq hL
      by_cases hlo : lo ≤ r.1
      · refine ⟨_, rfl, _, rfl, _, _, rfl, rfl, true, dT (by omega), iteT ?_⟩
        refine ⟨_, rfl, _, rfl, q, ws, r.1, rfl, hL1, hne, ?_, wordAt ws r.1, congrArg V.bl (lv_dec _), ?_⟩
        · cases wordAt ws r.1 <;> rfl
        cases hw : wordAt ws r.1 with
        | true =>
          refine iteT ⟨_, rfl, _, rfl, ⟨some (.int (r.1 : Nat)), some (.int (r.2.1 : Nat)), some (.int (r.2.2 : Nat)), ?_, rfl⟩⟩
          rw [hstep, hw, decide_eq_true hlo]
          rfl
        | false =>
          refine iteF ⟨some (.int (r.1 : Nat)), some (.int (r.2.1 : Nat)), some (.int (r.2.2 : Nat)), ?_, rfl⟩
          rw [hstep, hw, decide_eq_true hlo]
          rfl
      · refine ⟨_, rfl, _, rfl, _, _, rfl, rfl, false, dF (by omega), iteF (iteF ⟨some (.int (r.1 : Nat)), some (.int (r.2.1 : Nat)), some (.int (r.2.2 : Nat)), ?_, rfl⟩)⟩
        rw [hstep, decide_eq_false hlo]
        rfl
    · rintro σ H' ⟨y6, y7, y8, rfl, rfl⟩
      have e : (rowsOf b n d k).take (ts.map V.ref).length = rowsOf b n d k := by
        refine List.take_of_length_le ?_
        rw [List.length_map]
        exact Nat.le_of_eq R.len.symm
      rw [e]
      exact ⟨_, rfl, c k hk _ s1⟩
end
/-! ### sides by counting digits: the mathematics -/
/-- of the indexes below j, how many have a digit other than 0 of d and the word stack -/
def cntW (ws : List Bool) (b d : Nat) : Nat → Nat
  | 0 => 0
  | k + 1 => cntW ws b d k + if d / b ^ k % b ≠ 0 ∧ wordAt ws k = true then 1 else 0
theorem tail_cnt (ws : List Bool) (b d : Nat) : ∀ k, (tailOf b d k).countP (fun r => decide (0 ≤ r.1) && wordAt ws r.1) = cntW ws b d k
  | 0 => rfl
  | k + 1 => by
    have ih := tail_cnt ws b d k
    unfold tailOf cntW
    by_cases h : d / b ^ k % b ≠ 0
    · rw [if_pos h, List.countP_cons, ih, decide_eq_true (Nat.zero_le _), Bool.true_and]
      cases hw : wordAt ws k with
      | true => rw [if_pos rfl, if_pos (show d / b ^ k % b ≠ 0 ∧ true = true from ⟨h, rfl⟩)]
      | false => rw [if_neg (by simp), if_neg (by simp)]
    · rw [if_neg h, ih, if_neg (fun z => h z.1), Nat.add_zero]
theorem front_cnt {ws : List Bool} {b n d k : Nat} (h : IsLev b n d k) (hnd : n < d) : frontOf ws 0 (rowsOf b n d k) = decide (cntW ws b d (k + 1) % 2 = 1) := by
  have hd := h.digit hnd
  have h0 : d / b ^ k % b ≠ 0 := by omega
  unfold frontOf
  have e : (rowsOf b n d k).countP (fun r => decide (0 ≤ r.1) && wordAt ws r.1) = cntW ws b d (k + 1) := by
    unfold rowsOf cntW
    rw [List.countP_cons, tail_cnt, decide_eq_true (Nat.zero_le _), Bool.true_and]
    cases hw : wordAt ws k with
    | true => rw [if_pos rfl, if_pos (show d / b ^ k % b ≠ 0 ∧ true = true from ⟨h0, rfl⟩)]
    | false => rw [if_neg (by simp), if_neg (by simp)]
  rw [e]
/-- which of two periodic timers goes ahead, where both fire again -/
def IsAhead (b : Nat) (ws : List Bool) (p1 p2 d : Nat) (v : Bool) : Prop :=
  (p1 < p2 → ∀ k, IsLev b (d - p1) d k → v = frontOf ws 0 (rowsOf b (d - p1) d k)) ∧ (¬ p1 < p2 → ∀ k, IsLev b (d - p2) d k → v = !frontOf ws 0 (rowsOf b (d - p2) d k))
/-! ### how often one timer goes first: the mathematics -/
/-- whether a timer set at n and due at d goes in front -/
noncomputable def frB (ws : List Bool) (b n d : Nat) : Bool := @decide (∃ k, IsLev b n d k ∧ frontOf ws 0 (rowsOf b n d k) = true) (Classical.propDecidable _)
theorem frB_eq {ws : List Bool} {b n d k : Nat} (hk : IsLev b n d k) : frB ws b n d = frontOf ws 0 (rowsOf b n d k) := by
  unfold frB
  cases h : frontOf ws 0 (rowsOf b n d k) with
  | true => exact @decide_eq_true _ (Classical.propDecidable _) ⟨k, hk, h⟩
  | false =>
    refine @decide_eq_false _ (Classical.propDecidable _) fun ⟨k', hk', h'⟩ => ?_
    rw [hk'.uniq hk, h] at h'
    cases h'
noncomputable def ahB (ws : List Bool) (b p q t : Nat) : Bool := if p < q then frB ws b (t - p) t else !frB ws b (t - q) t
theorem IsAhead.eq {b p q t : Nat} {ws : List Bool} {v : Bool} (h : IsAhead b ws p q t v) (hb : 2 ≤ b) (hp : 1 ≤ p) (hq : 1 ≤ q) (hpt : p ≤ t) (hqt : q ≤ t) : v = ahB ws b p q t := by
  unfold ahB
  by_cases c : p < q
  · obtain ⟨k, hk⟩ := lev_any (n := t - p) (d := t) hb (by omega)
    rw [if_pos c, h.1 c k hk, frB_eq hk]
  · obtain ⟨k, hk⟩ := lev_any (n := t - q) (d := t) hb (by omega)
    rw [if_neg c, h.2 c k hk, frB_eq hk]
theorem ahB_swap {ws : List Bool} {b p q t : Nat} (h : p ≠ q) : ahB ws b q p t = !ahB ws b p q t := by
  unfold ahB
  by_cases c : p < q
  · rw [if_pos c, if_neg (by omega)]
  · rw [if_neg c, if_pos (by omega), Bool.not_not]
def fireB (a p t : Nat) : Bool := decide (a < t ∧ (t - a) % p = 0)
theorem fire_ge {a p t : Nat} (hp : 1 ≤ p) : (a + p ≤ t ∧ (t - a) % p = 0) ↔ (a < t ∧ (t - a) % p = 0) := by
  constructor
  · rintro ⟨h1, h2⟩
    exact ⟨by omega, h2⟩
  · rintro ⟨h1, h2⟩
    have := Nat.le_of_dvd (by omega) (Nat.dvd_of_mod_eq_zero h2)
    exact ⟨by omega, h2⟩
def bothB (a p o q t : Nat) : Bool := fireB a p t && fireB o q t
theorem bothB_iff {a p o q t : Nat} : bothB a p o q t = true ↔ (a < t ∧ (t - a) % p = 0) ∧ (o < t ∧ (t - o) % q = 0) := by
  unfold bothB fireB
  rw [Bool.and_eq_true, decide_eq_true_iff, decide_eq_true_iff]
/-- how many of n numbers from lo on have a property -/
def cntP (P : Nat → Bool) (lo : Nat) : Nat → Nat
  | 0 => 0
  | n + 1 => cntP P lo n + if P (lo + n) = true then 1 else 0
theorem cntP_zero {P : Nat → Bool} {lo : Nat} : ∀ n, (∀ t, lo ≤ t → t < lo + n → P t = false) → cntP P lo n = 0
  | 0, _ => rfl
  | n + 1, h => by
    unfold cntP
    rw [cntP_zero n (fun t h1 h2 => h t h1 (by omega)), h (lo + n) (by omega) (by omega)]
    rfl
theorem cntP_add (P : Nat → Bool) (lo m : Nat) : ∀ n, cntP P lo (m + n) = cntP P lo m + cntP P (lo + m) n
  | 0 => rfl
  | n + 1 => by
    show cntP P lo (m + n) + (if P (lo + (m + n)) = true then 1 else 0) = cntP P lo m + (cntP P (lo + m) n + if P (lo + m + n) = true then 1 else 0)
    rw [cntP_add P lo m n, show lo + (m + n) = lo + m + n by omega]
    omega
theorem cntP_congr {P R : Nat → Bool} {lo : Nat} : ∀ n, (∀ t, lo ≤ t → t < lo + n → P t = R t) → cntP P lo n = cntP R lo n
  | 0, _ => rfl
  | n + 1, h => by
    unfold cntP
    rw [cntP_congr n (fun t h1 h2 => h t h1 (by omega)), h (lo + n) (by omega) (by omega)]
/-- of n numbers from m on, e apart -/
def cntW2 (P : Nat → Bool) (m e : Nat) : Nat → Nat
  | 0 => 0
  | n + 1 => cntW2 P m e n + if P (m + n * e) = true then 1 else 0
theorem cntW2_windows {P : Nat → Bool} {m e : Nat} (he : 1 ≤ e) (h : ∀ t, P t = true → m ≤ t → e ∣ t - m) : ∀ n, cntP P m (n * e) = cntW2 P m e n
  | 0 => by
    rw [Nat.zero_mul]
    rfl
  | n + 1 => by
    have ih := cntW2_windows he h n
    have e1 : (n + 1) * e = n * e + (1 + (e - 1)) := by
      rw [Nat.succ_mul]
      omega
    rw [e1, cntP_add, ih, cntP_add]
    have z : cntP P (m + n * e + 1) (e - 1) = 0 := by
      refine cntP_zero _ fun t h1 h2 => ?_
      cases hp : P t with
      | false => rfl
      | true =>
        obtain ⟨k, hk⟩ := h t hp (by omega)
        have a1 : n * e < e * k := by omega
        have a2 : e * k < (n + 1) * e := by
          rw [Nat.succ_mul]
          omega
        rw [Nat.mul_comm e k] at a1 a2
        have b1 := Nat.lt_of_mul_lt_mul_right a1
        have b2 := Nat.lt_of_mul_lt_mul_right a2
        omega
    rw [z]
    show cntW2 P m e n + (0 + (if P (m + n * e + 0) = true then 1 else 0) + 0) = cntW2 P m e n + if P (m + n * e) = true then 1 else 0
    rw [Nat.add_zero, Nat.add_zero, Nat.zero_add]
def meetM (f e x : Nat) : Nat := f + (x - f + (e - 1)) / e * e
def meetN (m e y : Nat) : Nat := (y - m + (e - 1)) / e
theorem up_ge {x e : Nat} (he : 1 ≤ e) : x ≤ (x + (e - 1)) / e * e := by
  have h1 := Nat.div_add_mod (x + (e - 1)) e
  have h2 := Nat.mod_lt (x + (e - 1)) (show 0 < e by omega)
  rw [Nat.mul_comm] at h1
  omega
theorem up_lt {x e k : Nat} (he : 1 ≤ e) (hk : k < (x + (e - 1)) / e) : k * e < x := by
  have h1 : (k + 1) * e ≤ x + (e - 1) := by
    have := (Nat.le_div_iff_mul_le (show 0 < e by omega)).mp hk
    exact this
  rw [Nat.succ_mul] at h1
  omega
theorem meetM_ge {f e x : Nat} (he : 1 ≤ e) : x ≤ meetM f e x := by
  unfold meetM
  have := up_ge (x := x - f) he
  omega
theorem meetM_le {f e x t : Nat} (he : 1 ≤ e) (h1 : x ≤ t) (h2 : f ≤ t) (h3 : e ∣ t - f) : meetM f e x ≤ t := by
  obtain ⟨k, hk⟩ := h3
  unfold meetM
  rcases Nat.lt_or_ge k ((x - f + (e - 1)) / e) with l | l
  · have := up_lt he l
    rw [Nat.mul_comm] at this
    omega
  · have z : (x - f + (e - 1)) / e * e ≤ k * e := Nat.mul_le_mul_right e l
    rw [Nat.mul_comm k e] at z
    omega
theorem meet_dvd {f e x t : Nat} (h1 : meetM f e x ≤ t) (h3 : e ∣ t - f) : e ∣ t - meetM f e x := by
  unfold meetM at h1 ⊢
  have z : t - (f + (x - f + (e - 1)) / e * e) = (t - f) - (x - f + (e - 1)) / e * e := by omega
  rw [z]
  exact Nat.dvd_sub h3 (Nat.dvd_mul_left e _)
theorem meetM_dvd {f e x k : Nat} : e ∣ meetM f e x + k * e - f := by
  unfold meetM
  have z : f + (x - f + (e - 1)) / e * e + k * e - f = (x - f + (e - 1)) / e * e + k * e := by omega
  rw [z]
  exact Nat.dvd_add (Nat.dvd_mul_left e _) (Nat.dvd_mul_left e _)
/-- a range counted by the ticks at which both fire -/
theorem cnt_range {P : Nat → Bool} {f e x y : Nat} (he : 1 ≤ e) (hxy : x ≤ y) (h : ∀ t, P t = true → f ≤ t ∧ e ∣ t - f) : cntP P x (y - x) = cntW2 P (meetM f e x) e (meetN (meetM f e x) e y) := by
  have hx := meetM_ge (f := f) (x := x) he
  have hle : ∀ t, P t = true → x ≤ t → meetM f e x ≤ t := fun t hp ht => meetM_le he ht (h t hp).1 (h t hp).2
  have hdv : ∀ t, P t = true → meetM f e x ≤ t → e ∣ t - meetM f e x := fun t hp ht => meet_dvd ht (h t hp).2
  rw [← cntW2_windows he hdv]
  have hge : ∀ k, k < meetN (meetM f e x) e y → meetM f e x + k * e < y := fun k hk => by
    have := up_lt he hk
    omega
  have hup : y ≤ meetM f e x + meetN (meetM f e x) e y * e := by
    have := up_ge (x := y - meetM f e x) he
    unfold meetN
    omega
  generalize meetM f e x = m at *
  generalize meetN m e y = n at *
  have e1 : cntP P x (m - x + n * e) = cntP P m (n * e) := by
    rw [cntP_add, cntP_zero (m - x), Nat.zero_add, show x + (m - x) = m by omega]
    intro t h1 h2
    cases hp : P t with
    | false => rfl
    | true =>
      have := hle t hp h1
      omega
  have e2 : cntP P x (m - x + n * e) = cntP P x (y - x) := by
    rw [show m - x + n * e = (y - x) + (m + n * e - y) by omega, cntP_add, cntP_zero (m + n * e - y), Nat.add_zero]
    intro t h1 h2
    cases hp : P t with
    | false => rfl
    | true =>
      have h3 := hle t hp (by omega)
      obtain ⟨k, hk⟩ := hdv t hp h3
      rw [Nat.mul_comm] at hk
      have h4 : k * e < n * e := by omega
      have h5 := hge k (Nat.lt_of_mul_lt_mul_right h4)
      omega
  rw [← e2, e1]
/-- the ticks of a progression that lie behind a tick -/
def tickL (m e M : Nat) : Nat → List Nat
  | 0 => []
  | n + 1 => tickL m e M n ++ if M < m + n * e then [m + n * e] else []
theorem tickL_len (m e M : Nat) : ∀ n, (tickL m e M n).length ≤ n
  | 0 => Nat.le_refl _
  | n + 1 => by
    have ih := tickL_len m e M n
    unfold tickL
    rw [List.length_append]
    split
    · rw [List.length_singleton]
      omega
    · rw [List.length_nil]
      omega
theorem tickL_cnt {P A : Nat → Bool} {m e M : Nat} : ∀ n, (∀ k, k < n → P (m + k * e) = (decide (M < m + k * e) && A (m + k * e))) → (tickL m e M n).countP A = cntW2 P m e n
  | 0, _ => rfl
  | n + 1, h => by
    have ih := tickL_cnt n (fun k hk => h k (by omega))
    unfold tickL cntW2
    rw [List.countP_append, ih, h n (by omega)]
    by_cases c : M < m + n * e
    · rw [if_pos c, decide_eq_true c, Bool.true_and, List.countP_singleton]
    · rw [if_neg c, decide_eq_false c, Bool.false_and, List.countP_nil]
      rfl
theorem tickL_mem {m e M t : Nat} : ∀ {n}, t ∈ tickL m e M n → ∃ k, k < n ∧ t = m + k * e ∧ M < t
  | 0, h => by cases h
  | n + 1, h => by
    rcases List.mem_append.mp h with h | h
    · obtain ⟨k, h1, h2⟩ := tickL_mem h
      exact ⟨k, by omega, h2⟩
    · by_cases c : M < m + n * e
      · rw [if_pos c] at h
        have := List.mem_singleton.mp h
        exact ⟨n, by omega, this, by omega⟩
      · rw [if_neg c] at h
        cases h
/-! ### a period, of an integer -/
section
variable {P : Program} {w : World} {K : PySem.W.Frag} {mg : Str → Option Value} {base : Heap}
def spIsPeriod : Sp := fun vs H Q _ => ∃ n : Int, vs = [.int n] ∧ 1 ≤ n ∧ Q (.bl true) H
theorem ok_is_period {f : Addr} {fd : FuncData} (F : Fun K "is_period" "is_period" s_is_period f fd) (h1 : Has P w K mg base 1 "is_integer" ["given"] [] spIsInt) : FnOk P w K mg base CX0 2 f fd ["given"] spIsPeriod := by
  obtain ⟨f_is_integer, fd_is_integer, ds_is_integer, G_is_integer, m_is_integer, k_is_integer, b_is_integer, v_is_integer⟩ := h1
  refine F.ok sc_is_period (fun vs H Q E h => ?_) (fun cdv A outer s H vs Q E hr h => ?_)
  · obtain ⟨n, rfl, _⟩ := h
    rfl
  · obtain ⟨n, rfl, l1, q⟩ := h
    refine ⟨_, (pss_one (ps_ret (pe_and (pe_call G_is_integer hr (by rfl) m_is_integer k_is_integer b_is_integer v_is_integer pass0 (pa_cons (pv 0) pa_nil)) (pe_one (pe_cmpR op_ge (pv 0) pe_int (nomark _)))))), ?_⟩
    refine ⟨.int n, rfl, n, rfl, true, rfl, iteT ?_⟩
    refine ⟨.int n, rfl, n, 1, rfl, rfl, ?_⟩
    have e : V.bl (decide (n ≥ 1)) = V.bl true := dT l1
    show Q (V.bl (decide (n ≥ 1))) H
    rw [e]
    exact q
end
/-! ### the program: periodic timers, which of two is ahead -/
section
variable {P : Program} {w : World} {K : PySem.W.Frag} {mg : Str → Option Value} {base : Heap}
theorem tyx_tup {K : PySem.W.Frag} {H : Hp} {a : Addr} {xs : List V} (h : H a = some (.tup xs)) : TyX K H (.ref a) (.type "tuple") := .base (.tup h)
def spPeriodic : Sp := fun vs H Q _ => ∃ (t : Addr) (a p : Nat), vs = [.ref t] ∧ H t = some (.tup [.int (a : Nat), .int (p : Nat)]) ∧ 1 ≤ p ∧ Q (.bl true) H
theorem ok_is_periodic {f : Addr} {fd : FuncData} (F : Fun K "is_periodic" "is_periodic" s_is_periodic f fd) (T : Tx K mg) (h1 : Has P w K mg base 2 "is_tick" ["given", "least"] [.int 0] spIsTick) (h2 : Has P w K mg base 2 "is_period" ["given"] [] spIsPeriod) : FnOk P w K mg base CX0 3 f fd ["given"] spPeriodic := by
  obtain ⟨f_is_tick1, fd_is_tick1, ds_is_tick1, G_is_tick1, m_is_tick1, k_is_tick1, b_is_tick1, v_is_tick1⟩ := h1
  obtain ⟨f_is_period, fd_is_period, ds_is_period, G_is_period, m_is_period, k_is_period, b_is_period, v_is_period⟩ := h2
  refine F.ok sc_is_periodic (fun vs H Q E h => ?_) (fun cdv A outer s H vs Q E hr h => ?_)
  · obtain ⟨t, a, p, rfl, _⟩ := h
    rfl
  · obtain ⟨t, a, p, rfl, ht, hp, q⟩ := h
    refine ⟨_, (pss_cons (ps_if (PW.pt (pw_or (pt_not (pt_val (pe_callB (isiK (K := K) rfl) (by rfl) T.b_isinstance (by decide +kernel) (pa_cons (pv 0) (pa_cons (pe_bltn (v := .ty "tuple") (u := .type "tuple") (by rfl) T.b_tuple (by decide +kernel) rfl) pa_nil))))) (pw_or1 (pt_cmpR op_ne (pe_callB (lenK (K := K) rfl) (by rfl) T.b_len PySem.boot_len (pa_cons (pv 0) pa_nil)) pe_int (nomark _)))))
        (pss_one (ps_ret pe_bl))
        pss_nil)
      (pss_cons (ps_asg (pv 0) (pg_tupK (K := K) (n := 2) rfl rfl (pgs_cons (pg_name (i := 1) sc_is_periodic.nd rfl (.inl rfl)) (pgs_cons (pg_name (i := 2) sc_is_periodic.nd rfl (.inl rfl)) pgs_nil))))
      (pss_one (ps_ret (pe_and (pe_call G_is_tick1 hr (by rfl) m_is_tick1 k_is_tick1 b_is_tick1 v_is_tick1 pass0 (pa_cons (pv 1) pa_nil)) (pe_one (pe_call G_is_period hr (by rfl) m_is_period k_is_period b_is_period v_is_period pass0 (pa_cons (pv 2) pa_nil)))))))), ?_⟩
    refine ⟨.ref t, rfl, _, _, _, _, true, rfl, .ty "tuple", tyx_tup ht, kit_ty (by decide +kernel), true, rfl, iteF ?_⟩
    refine ⟨.ref t, rfl, t, _, rfl, .inr (.inl (.inl ht)), rfl, false, nF rfl, iteF ?_⟩
    refine ⟨.ref t, rfl, t, _, rfl, .inl (.inl ht), rfl, _, _, rfl, _, _, rfl, rfl, ?_⟩
    refine ⟨_, rfl, (a : Nat), 0, rfl, by omega, true, rfl, iteT ?_⟩
    exact ⟨_, rfl, (p : Nat), rfl, by omega, q⟩
def spCheckPeriodic : Sp := fun vs H Q _ => ∃ (t : Addr) (a p : Nat), vs = [.ref t] ∧ H t = some (.tup [.int (a : Nat), .int (p : Nat)]) ∧ 1 ≤ p ∧ Q .non H
theorem ok_check_periodic {f : Addr} {fd : FuncData} (F : Fun K "check_periodic" "check_periodic" s_check_periodic f fd) (h1 : Has P w K mg base 3 "is_periodic" ["given"] [] spPeriodic) : FnOk P w K mg base CX0 4 f fd ["given"] spCheckPeriodic := by
  obtain ⟨f_is_periodic, fd_is_periodic, ds_is_periodic, G_is_periodic, m_is_periodic, k_is_periodic, b_is_periodic, v_is_periodic⟩ := h1
  refine F.ok sc_check_periodic (fun vs H Q E h => ?_) (fun cdv A outer s H vs Q E hr h => ?_)
  · obtain ⟨t, a, p, rfl, _⟩ := h
    rfl
  · obtain ⟨t, a, p, rfl, ht, hp, q⟩ := h
    refine ⟨_, (pss_one (ps_if (pt_not (pt_val (pe_call G_is_periodic hr (by rfl) m_is_periodic k_is_periodic b_is_periodic v_is_periodic pass0 (pa_cons (pv 0) pa_nil))))
        (pss_one ps_never)
        pss_nil)), ?_⟩
    exact ⟨_, rfl, t, a, p, rfl, ht, hp, true, rfl, iteF q⟩
end
/-! ### the program: which of two periodic timers is ahead -/
section
variable {P : Program} {w : World} {K : PySem.W.Frag} {mg : Str → Option Value} {base : Heap}
def spCheckTwo : Sp := fun vs H Q _ => ∃ (t1 t2 : Addr) (a1 p1 a2 p2 : Nat), vs = [.ref t1, .ref t2] ∧ H t1 = some (.tup [.int (a1 : Nat), .int (p1 : Nat)]) ∧ H t2 = some (.tup [.int (a2 : Nat), .int (p2 : Nat)]) ∧ 1 ≤ p1 ∧ 1 ≤ p2 ∧ p1 ≠ p2 ∧ Q .non H
theorem ok_check_two {f : Addr} {fd : FuncData} (F : Fun K "check_two" "check_two" s_check_two f fd) (h1 : Has P w K mg base 4 "check_periodic" ["given"] [] spCheckPeriodic) : FnOk P w K mg base CX0 5 f fd ["one", "other"] spCheckTwo := by
  obtain ⟨f_check_periodic, fd_check_periodic, ds_check_periodic, G_check_periodic, m_check_periodic, k_check_periodic, b_check_periodic, v_check_periodic⟩ := h1
  refine F.ok sc_check_two (fun vs H Q E h => ?_) (fun cdv A outer s H vs Q E hr h => ?_)
  · obtain ⟨t1, t2, a1, p1, a2, p2, rfl, _⟩ := h
    rfl
  · obtain ⟨t1, t2, a1, p1, a2, p2, rfl, e1, e2, hp1, hp2, hne, q⟩ := h
    refine ⟨_, (pss_cons (ps_expr (pe_call G_check_periodic hr (by rfl) m_check_periodic k_check_periodic b_check_periodic v_check_periodic pass0 (pa_cons (pv 0) pa_nil)))
      (pss_cons (ps_expr (pe_call G_check_periodic hr (by rfl) m_check_periodic k_check_periodic b_check_periodic v_check_periodic pass0 (pa_cons (pv 1) pa_nil)))
      (pss_one (ps_if (pt_cmpR op_eq (pe_ix (ix_tupK (K := K) rfl) (pv 0) pe_int (fun _ _ => rfl)) (pe_ix (ix_tupK (K := K) rfl) (pv 1) pe_int (fun _ _ => rfl)) (nomark _))
        (pss_one ps_never)
        pss_nil)))), ?_⟩
    refine ⟨_, rfl, t1, a1, p1, rfl, e1, hp1, ?_⟩
    refine ⟨_, rfl, t2, a2, p2, rfl, e2, hp2, ?_⟩
    refine ⟨.ref t1, rfl, t1, _, 1, _, rfl, rfl, .inl (.inl e1), atI_nat (j := 1) rfl, .ref t2, rfl, t2, _, 1, _, rfl, rfl, .inl (.inl e2), atI_nat (j := 1) rfl, rfl, false, dF (vN hne), iteF ?_⟩
    exact q
def spAhead (K : PySem.W.Frag) : Sp := fun vs H Q _ => ∃ (b d a1 p1 a2 p2 : Nat) (q t1 t2 : Addr) (ws : List Bool), vs = [.int (b : Nat), .ref q, .ref t1, .ref t2, .int (d : Nat)] ∧ 2 ≤ b ∧ b ≤ 64 ∧ d < 2 ^ 250 ∧ SqL K H q (ws.map lvV) ∧ ws ≠ [] ∧
  H t1 = some (.tup [.int (a1 : Nat), .int (p1 : Nat)]) ∧ H t2 = some (.tup [.int (a2 : Nat), .int (p2 : Nat)]) ∧ 1 ≤ p1 ∧ 1 ≤ p2 ∧ p1 ≤ d ∧ p2 ≤ d ∧ ∀ v H', IsAhead b ws p1 p2 d v → Same H H' → Q (.bl v) H'
theorem ok_is_ahead {f : Addr} {fd : FuncData} (F : Fun K "is_ahead" "is_ahead" s_is_ahead f fd) (h1 : Has P w K mg base 3 "goes_in_front" ["base", "levels", "now", "due", "lowest"] [] (spFront K)) :
    FnOk P w K mg base CX0 4 f fd ["base", "levels", "one", "other", "tick"] (spAhead K) := by
  obtain ⟨f_goes_in_front, fd_goes_in_front, ds_goes_in_front, G_goes_in_front, m_goes_in_front, k_goes_in_front, b_goes_in_front, v_goes_in_front⟩ := h1
  refine F.ok sc_is_ahead (fun vs H Q E h => ?_) (fun cdv A outer s H vs Q E hr h => ?_)
  · obtain ⟨b, d, a1, p1, a2, p2, q, t1, t2, ws, rfl, _⟩ := h
    rfl
  · obtain ⟨b, d, a1, p1, a2, p2, q, t1, t2, ws, rfl, hb, hb64, hd, hL, hne, e1, e2, hp1, hp2, hd1, hd2, c⟩ := h
    refine ⟨_, (pss_cons (ps_if (pt_cmpR op_lt (pe_ix (ix_tupK (K := K) rfl) (pv 2) pe_int (fun _ _ => rfl)) (pe_ix (ix_tupK (K := K) rfl) (pv 3) pe_int (fun _ _ => rfl)) (nomark _))
        (pss_one (ps_ret (pe_call G_goes_in_front hr (by rfl) m_goes_in_front k_goes_in_front b_goes_in_front v_goes_in_front pass0 (pa_cons (pv 0) (pa_cons (pv 1) (pa_cons (pe_op op_subN (pv 4) (pe_ix (ix_tupK (K := K) rfl) (pv 2) pe_int (fun _ _ => rfl))) (pa_cons (pv 4) (pa_cons pe_int pa_nil))))))))
        pss_nil)
      (pss_one (ps_ret (pe_not (pe_call G_goes_in_front hr (by rfl) m_goes_in_front k_goes_in_front b_goes_in_front v_goes_in_front pass0 (pa_cons (pv 0) (pa_cons (pv 1) (pa_cons (pe_op op_subN (pv 4) (pe_ix (ix_tupK (K := K) rfl) (pv 3) pe_int (fun _ _ => rfl))) (pa_cons (pv 4) (pa_cons pe_int pa_nil)))))))))), ?_⟩
    refine ⟨.ref t1, rfl, t1, _, 1, _, rfl, rfl, .inl (.inl e1), atI_nat (j := 1) rfl, .ref t2, rfl, t2, _, 1, _, rfl, rfl, .inl (.inl e2), atI_nat (j := 1) rfl, _, _, rfl, rfl, decide (p1 < p2), ?_, ?_⟩
    · by_cases h : p1 < p2
      · rw [decide_eq_true h]
        exact dT (by omega)
      · rw [decide_eq_false h]
        exact dF (by omega)
    by_cases h : p1 < p2
    · rw [decide_eq_true h]
      refine iteT ⟨_, rfl, _, rfl, _, rfl, .ref t1, rfl, t1, _, 1, _, rfl, rfl, .inl (.inl e1), atI_nat (j := 1) rfl, d, p1, rfl, rfl, hd1, _, rfl, b, d - p1, d, 0, q, ws, rfl, hb, hb64, by omega, hd, hL, hne, fun k hk H1 s1 => ?_⟩
      exact c _ H1 ⟨fun _ k' hk' => by rw [hk'.uniq hk], fun z => absurd h z⟩ s1
    · rw [decide_eq_false h]
      refine iteF ⟨_, rfl, _, rfl, _, rfl, .ref t2, rfl, t2, _, 1, _, rfl, rfl, .inl (.inl e2), atI_nat (j := 1) rfl, d, p2, rfl, rfl, hd2, _, rfl, b, d - p2, d, 0, q, ws, rfl, hb, hb64, by omega, hd, hL, hne, fun k hk H1 s1 => ?_⟩
      refine ⟨_, rfl, ?_⟩
      exact c _ H1 ⟨fun z => absurd z h, fun _ k' hk' => by rw [hk'.uniq hk]⟩ s1
theorem per_le {a p d : Nat} (hp : 1 ≤ p) (h : a < d) (hm : (d - a) % p = 0) : p ≤ d := by
  have e := Nat.div_add_mod (d - a) p
  rw [hm, Nat.add_zero] at e
  have h1 : 0 < (d - a) / p := by
    rcases Nat.eq_zero_or_pos ((d - a) / p) with z | z
    · rw [z, Nat.mul_zero] at e
      omega
    · exact z
  have h2 : p * 1 ≤ p * ((d - a) / p) := Nat.mul_le_mul_left p h1
  omega
end
/-! ### the program: firing again, which of two goes first -/
section
variable {P : Program} {w : World} {K : PySem.W.Frag} {mg : Str → Option Value} {base : Heap}
def spFires : Sp := fun vs H Q _ => ∃ (t : Addr) (a p d : Nat), vs = [.ref t, .int (d : Nat)] ∧ H t = some (.tup [.int (a : Nat), .int (p : Nat)]) ∧ 1 ≤ p ∧ Q (.bl (decide (a < d ∧ (d - a) % p = 0))) H
theorem ok_fires_again {f : Addr} {fd : FuncData} (F : Fun K "fires_again" "fires_again" s_fires_again f fd) : FnOk P w K mg base CX0 1 f fd ["timer", "tick"] spFires := by
  refine F.ok sc_fires_again (fun vs H Q E h => ?_) (fun cdv A outer s H vs Q E hr h => ?_)
  · obtain ⟨t, a, p, d, rfl, _⟩ := h
    rfl
  · obtain ⟨t, a, p, d, rfl, ht, hp, q⟩ := h
    refine ⟨_, (pss_cons (ps_asg (pv 0) (pg_tupK (K := K) (n := 2) rfl rfl (pgs_cons (pg_name (i := 2) sc_fires_again.nd rfl (.inl rfl)) (pgs_cons (pg_name (i := 3) sc_fires_again.nd rfl (.inl rfl)) pgs_nil))))
      (pss_one (ps_ret (pe_and (pe_cmpR op_gt (pv 1) (pv 2) (nomark _)) (pe_one (pe_cmpR op_eq (pe_op op_remN (pe_op op_subN (pv 1) (pv 2)) (pv 3)) pe_int (nomark _))))))), ?_⟩
    refine ⟨.ref t, rfl, t, _, rfl, .inl (.inl ht), rfl, _, _, rfl, _, _, rfl, rfl, ?_⟩
    by_cases h : a < d
    · refine ⟨_, rfl, _, rfl, _, _, rfl, rfl, true, dT (by omega), iteT ?_⟩
      refine ⟨_, rfl, _, rfl, d, a, rfl, rfl, Nat.le_of_lt h, _, rfl, d - a, p, rfl, rfl, hp, rfl, ?_⟩
      have e : decide (V.int (((d - a) % p : Nat) : Int) = V.int 0) = decide (a < d ∧ (d - a) % p = 0) := by
        by_cases z : (d - a) % p = 0
        · rw [decide_eq_true (show a < d ∧ (d - a) % p = 0 from ⟨h, z⟩), z]
          rfl
        · rw [decide_eq_false (show ¬ (a < d ∧ (d - a) % p = 0) from fun y => z y.2)]
          exact decide_eq_false (vN (b := 0) z)
      show Q (.bl (decide (V.int (((d - a) % p : Nat) : Int) = V.int 0))) H
      rw [e]
      exact q
    · refine ⟨_, rfl, _, rfl, _, _, rfl, rfl, false, dF (by omega), iteF ?_⟩
      rw [decide_eq_false (show ¬ (a < d ∧ (d - a) % p = 0) from fun y => h y.1)] at q
      exact q
def spFirst (K : PySem.W.Frag) : Sp := fun vs H Q _ => ∃ (b d a1 p1 a2 p2 : Nat) (q t1 t2 : Addr) (ws : List Bool), vs = [.int (b : Nat), .ref q, .ref t1, .ref t2, .int (d : Nat)] ∧ 2 ≤ b ∧ b ≤ 64 ∧ d < 2 ^ 250 ∧ SqL K H q (ws.map lvV) ∧ ws ≠ [] ∧ ws.length ≤ 60 ∧
  H t1 = some (.tup [.int (a1 : Nat), .int (p1 : Nat)]) ∧ H t2 = some (.tup [.int (a2 : Nat), .int (p2 : Nat)]) ∧ 1 ≤ p1 ∧ 1 ≤ p2 ∧ p1 ≠ p2 ∧ (a1 < d ∧ (d - a1) % p1 = 0) ∧ (a2 < d ∧ (d - a2) % p2 = 0) ∧ ∀ v H', IsAhead b ws p1 p2 d v → Same H H' → Q (.int (if v then 0 else 1)) H'
theorem ok_first_of_two {f : Addr} {fd : FuncData} (F : Fun K "first_of_two" "first_of_two" s_first_of_two f fd) (h1 : Has P w K mg base 3 "check_base" ["base"] [] spCheckBase) (h4 : Has P w K mg base 4 "check_levels" ["levels"] [] (spCheckLevels K))
    (h2 : Has P w K mg base 3 "check_tick" ["tick", "least"] [.int 0] spCheckTick) (h3 : Has P w K mg base 5 "check_two" ["one", "other"] [] spCheckTwo) (h5 : Has P w K mg base 1 "fires_again" ["timer", "tick"] [] spFires)
    (h6 : Has P w K mg base 4 "is_ahead" ["base", "levels", "one", "other", "tick"] [] (spAhead K)) : FnOk P w K mg base CX0 6 f fd ["base", "levels", "one", "other", "tick"] (spFirst K) := by
  obtain ⟨f_check_base, fd_check_base, ds_check_base, G_check_base, m_check_base, k_check_base, b_check_base, v_check_base⟩ := h1
  obtain ⟨f_check_tick1, fd_check_tick1, ds_check_tick1, G_check_tick1, m_check_tick1, k_check_tick1, b_check_tick1, v_check_tick1⟩ := h2
  obtain ⟨f_check_two, fd_check_two, ds_check_two, G_check_two, m_check_two, k_check_two, b_check_two, v_check_two⟩ := h3
  obtain ⟨f_check_levels, fd_check_levels, ds_check_levels, G_check_levels, m_check_levels, k_check_levels, b_check_levels, v_check_levels⟩ := h4
  obtain ⟨f_fires_again, fd_fires_again, ds_fires_again, G_fires_again, m_fires_again, k_fires_again, b_fires_again, v_fires_again⟩ := h5
  obtain ⟨f_is_ahead, fd_is_ahead, ds_is_ahead, G_is_ahead, m_is_ahead, k_is_ahead, b_is_ahead, v_is_ahead⟩ := h6
  refine F.ok sc_first_of_two (fun vs H Q E h => ?_) (fun cdv A outer s H vs Q E hr h => ?_)
  · obtain ⟨b, d, a1, p1, a2, p2, q, t1, t2, ws, rfl, _⟩ := h
    rfl
  · obtain ⟨b, d, a1, p1, a2, p2, q, t1, t2, ws, rfl, hb, hb64, hd, hL, hne, h60, e1, e2, hp1, hp2, hpp, hf1, hf2, c⟩ := h
    refine ⟨_, (pss_cons (ps_expr (pe_call G_check_base (hr.mono (by decide)) (by rfl) m_check_base k_check_base b_check_base v_check_base pass0 (pa_cons (pv 0) pa_nil)))
      (pss_cons (ps_expr (pe_call G_check_levels (hr.mono (by decide)) (by rfl) m_check_levels k_check_levels b_check_levels v_check_levels pass0 (pa_cons (pv 1) pa_nil)))
      (pss_cons (ps_expr (pe_call G_check_two hr (by rfl) m_check_two k_check_two b_check_two v_check_two pass0 (pa_cons (pv 2) (pa_cons (pv 3) pa_nil))))
      (pss_cons (ps_expr (pe_call G_check_tick1 (hr.mono (by decide)) (by rfl) m_check_tick1 k_check_tick1 b_check_tick1 v_check_tick1 pass0 (pa_cons (pv 4) pa_nil)))
      (pss_cons (ps_if (PW.pt (pw_or (pt_not (pt_val (pe_call G_fires_again (hr.mono (by decide)) (by rfl) m_fires_again k_fires_again b_fires_again v_fires_again pass0 (pa_cons (pv 2) (pa_cons (pv 4) pa_nil))))) (pw_or1 (pt_not (pt_val (pe_call G_fires_again (hr.mono (by decide)) (by rfl) m_fires_again k_fires_again b_fires_again v_fires_again pass0 (pa_cons (pv 3) (pa_cons (pv 4) pa_nil))))))))
        (pss_one ps_never)
        pss_nil)
      (pss_cons (ps_if (pt_val (pe_call G_is_ahead (hr.mono (by decide)) (by rfl) m_is_ahead k_is_ahead b_is_ahead v_is_ahead pass0 (pa_cons (pv 0) (pa_cons (pv 1) (pa_cons (pv 2) (pa_cons (pv 3) (pa_cons (pv 4) pa_nil)))))))
        (pss_one (ps_ret pe_int))
        pss_nil)
      (pss_one (ps_ret pe_int)))))))), ?_⟩
    refine ⟨_, rfl, b, rfl, by omega, by omega, ?_⟩
    refine ⟨_, rfl, q, ws, rfl, hL, hne, h60, fun H1 s1 => ?_⟩
    refine ⟨_, rfl, _, rfl, t1, t2, a1, p1, a2, p2, rfl, s1 _ _ e1, s1 _ _ e2, hp1, hp2, hpp, ?_⟩
    refine ⟨_, rfl, d, 0, rfl, by omega, ?_⟩
    refine ⟨_, rfl, _, rfl, t1, a1, p1, d, rfl, s1 _ _ e1, hp1, _, congrArg V.bl (decide_eq_true hf1), iteF ?_⟩
    refine ⟨_, rfl, _, rfl, t2, a2, p2, d, rfl, s1 _ _ e2, hp2, _, congrArg V.bl (decide_eq_true hf2), iteF ?_⟩
    refine ⟨_, rfl, _, rfl, _, rfl, _, rfl, _, rfl, b, d, a1, p1, a2, p2, q, t1, t2, ws, rfl, hb, hb64, hd, s1.seq hL, hne, s1 _ _ e1, s1 _ _ e2, hp1, hp2, per_le hp1 hf1.1 hf1.2, per_le hp2 hf2.1 hf2.2, fun v H2 hv s2 => ⟨v, rfl, ?_⟩⟩
    have z := c v H2 hv (s1.trans s2)
    cases v with
    | true => exact iteT z
    | false => exact iteF z
end
/-! ### the program: where two periodic timers meet -/
section
variable {P : Program} {w : World} {K : PySem.W.Frag} {mg : Str → Option Value} {base : Heap}
def spDivFac : Sp := fun vs H Q _ => ∃ n m : Nat, vs = [.int (n : Nat), .int (m : Nat)] ∧ 1 ≤ n ∧ 1 ≤ m ∧ n < 2 ^ 210 ∧ m < 2 ^ 210 ∧ ∀ x : Int, (m : Int) ∣ x * n - (Nat.gcd n m : Nat) → x.natAbs ≤ m → ∀ H' t, Same H H' → H t = none → H' t = some (.tup [.int (Nat.gcd n m : Nat), .int x]) → Q (.ref t) H'
theorem ok_divisor_and_factor {f : Addr} {fd : FuncData} (F : Fun K "divisor_and_factor" "divisor_and_factor" s_divisor_and_factor f fd) : FnOk P w K mg base CX0 1 f fd ["number", "modulus"] spDivFac := by
  refine F.ok sc_divisor_and_factor (fun vs H Q E h => ?_) (fun cdv A outer s H vs Q E hr h => ?_)
  · obtain ⟨n, m, rfl, _⟩ := h
    rfl
  · obtain ⟨n, m, rfl, hn, hm, hn2, hm2, q⟩ := h
    refine ⟨_, (pss_cons (ps_par (i := 2) (j := 3) (by rfl) sc_divisor_and_factor.nd rfl rfl (by decide) rfl rfl (pa_cons (pv 0) (pa_cons (pv 1) pa_nil)) (by rfl))
      (pss_cons (ps_asg (pe_tup (pa_cons pe_int (pa_cons pe_int pa_nil))) (pg_tupK (K := K) (n := 2) rfl rfl (pgs_cons (pg_name (i := 4) sc_divisor_and_factor.nd rfl (.inl rfl)) (pgs_cons (pg_name (i := 5) sc_divisor_and_factor.nd rfl (.inl rfl)) pgs_nil))))
      (pss_cons (ps_while PassesOwn.never (pt_cmpR op_ne (pv 3) pe_int (nomark _))
        (pss_cons (ps_set (i := 6) sc_divisor_and_factor.nd rfl (.inl rfl) (pe_op op_fdivW (pv 2) (pv 3)))
        (pss_cons (ps_par (i := 2) (j := 3) (by rfl) sc_divisor_and_factor.nd rfl rfl (by decide) rfl rfl (pa_cons (pv 3) (pa_cons (pe_op op_sub (pv 2) (pe_op op_mulA (pv 6) (pv 3))) pa_nil)) (by rfl))
        (pss_one (ps_par (i := 4) (j := 5) (by rfl) sc_divisor_and_factor.nd rfl rfl (by decide) rfl rfl (pa_cons (pv 5) (pa_cons (pe_op op_sub (pv 4) (pe_op op_mulA (pv 6) (pv 5))) pa_nil)) (by rfl))))))
      (pss_one (ps_ret (pe_tup (pa_cons (pv 2) (pa_cons (pv 4) pa_nil)))))))), ?_⟩
    refine ⟨_, rfl, _, rfl, _, _, rfl, by simp [sizeLine_eq], fun t0 ht0 => ⟨t0, _, rfl, .inl (.inl upd_same), rfl, _, _, rfl, _, _, rfl, rfl, ?_⟩⟩
    refine while_by (fun σ H' => ∃ (d r a b : Nat) (x y : Int) (y6 : Option V), σ = [some (.int (n : Nat)), some (.int (m : Nat)), some (.int (d : Nat)), some (.int (r : Nat)), some (.int x), some (.int y), y6] ∧ Same H H' ∧ ((x = (a : Int) ∧ y = -(b : Int)) ∨ (x = -(a : Int) ∧ y = (b : Int))) ∧
        1 ≤ d ∧ d < 2 ^ 210 ∧ r < 2 ^ 210 ∧ Nat.gcd d r = Nat.gcd n m ∧ a * r + b * d = m ∧ a ≤ m ∧ (m : Int) ∣ x * n - d ∧ (m : Int) ∣ y * n - r)
      (fun σ _ => slotInt σ 3) ⟨n, m, 1, 0, 1, 0, none, rfl, same_upd ht0, .inl ⟨rfl, rfl⟩, hn, hn2, hm2, rfl, by omega, hm, ⟨0, by omega⟩, ⟨-1, by omega⟩⟩ ?_ ?_
    · rintro σ H' ⟨d, r, a, b, x, y, y6, rfl, sm, hxy, hd, hd2, hr2, hgcd, hsz, ham, hx, hy⟩
      by_cases h0 : r = 0
      · refine ⟨_, rfl, rfl, false, nF (vE h0), iteF ?_⟩
        subst h0
        rw [Nat.gcd_zero_right] at hgcd
        subst hgcd
        refine ⟨_, rfl, _, rfl, by simp [sizeLine_eq], fun t ht => ?_⟩
        exact q x hx (by rcases hxy with z | z <;> omega) _ t (sm.trans (same_upd ht)) (sm.free ht) upd_same
      · refine ⟨_, rfl, rfl, true, nT (vN (b := 0) h0), iteT ?_⟩
        have hb : b ≤ m := by
          have z : b * 1 ≤ b * d := Nat.mul_le_mul_left b hd
          omega
        have hq : d / r ≤ d := Nat.div_le_self d r
        have hmod : d % r < r := Nat.mod_lt d (by omega)
        refine ⟨_, rfl, _, rfl, (d : Nat), (r : Nat), rfl, rfl, (ndiv (a := d) 210 (by omega : 0 < r) hr2 |> fun z => wide_div (b := 9000) (Int.natCast_pos.mpr z.1) z.2 (by decide) (Nat.le_refl _)), ?_⟩
        have e1 : (d : Int) - ((d / r : Nat) : Int) * (r : Int) = ((d % r : Nat) : Int) := by
          have z := Nat.div_add_mod d r
          have z2 : ((r * (d / r) + d % r : Nat) : Int) = (d : Int) := congrArg Int.ofNat z
          rw [Int.natCast_add, Int.natCast_mul, Int.mul_comm] at z2
          omega
        refine ⟨_, rfl, _, rfl, _, rfl, _, rfl, ((d / r : Nat) : Int), (r : Nat), rfl, rfl, mul_w 210 210 (by rw [natAbs_cast]; omega) (by rw [natAbs_cast]; exact hr2), (d : Nat), _, rfl, rfl, .int (r : Nat), .int ((d % r : Nat) : Int), congrArg (fun z : Int => [V.int (r : Nat), V.int z]) e1, ?_⟩
        refine ⟨_, rfl, _, rfl, _, rfl, _, rfl, ((d / r : Nat) : Int), y, rfl, rfl, mul_w 210 210 (by rw [natAbs_cast]; omega) (by rcases hxy with z | z <;> omega), x, _, rfl, rfl, .int y, .int (x - ((d / r : Nat) : Int) * y), rfl, ?_⟩
        refine ⟨⟨r, d % r, b, a + d / r * b, y, x - ((d / r : Nat) : Int) * y, _, rfl, sm, ?_, by omega, hr2, by omega, ?_, chain_size hsz, hb, hy, chain_step hx hy⟩, ?_⟩
        · rcases hxy with ⟨z1, z2⟩ | ⟨z1, z2⟩
          · refine .inr ⟨z2, ?_⟩
            rw [z1, z2, Int.mul_neg, Int.natCast_add, Int.natCast_mul]
            omega
          · refine .inl ⟨z2, ?_⟩
            rw [z1, z2, Int.natCast_add, Int.natCast_mul]
            omega
        · rw [Nat.gcd_comm, ← Nat.gcd_rec, Nat.gcd_comm]
          exact hgcd
        · show (((d % r : Nat) : Int)).toNat < ((r : Int)).toNat
          rw [Int.toNat_natCast, Int.toNat_natCast]
          exact hmod
    · rintro σ H' Q1 Q2 h ⟨x, hx, hs, k, e, z⟩
      exact ⟨x, hx, hs, k, e, h _ _ z⟩
/-- what common() tells of two timers -/
def MeetV (H : Hp) (v : V) (a p o q : Nat) : Prop :=
  (¬ ((o : Int) - a) % ((Nat.gcd p q : Nat) : Int) = 0 ∧ v = .non) ∨ (((o : Int) - a) % ((Nat.gcd p q : Nat) : Int) = 0 ∧ ∃ (t : Addr) (f e : Nat), v = .ref t ∧ H t = some (.tup [.int (f : Nat), .int (e : Nat)]) ∧ IsMeet a p o q f e)
def spMeet : Sp := fun vs H Q _ => ∃ (t1 t2 : Addr) (a p o q : Nat), vs = [.ref t1, .ref t2] ∧ H t1 = some (.tup [.int (a : Nat), .int (p : Nat)]) ∧ H t2 = some (.tup [.int (o : Nat), .int (q : Nat)]) ∧ 1 ≤ p ∧ 1 ≤ q ∧ p < 2 ^ 210 ∧ q < 2 ^ 210 ∧ a < 2 ^ 210 ∧ o < 2 ^ 210 ∧
  ∀ v H', Same H H' → MeetV H' v a p o q → (∀ t, v = .ref t → H t = none) → Q v H'
theorem ok_meetings {f : Addr} {fd : FuncData} (F : Fun K "meetings" "meetings" s_meetings f fd) (T : Tx K mg) (h1 : Has P w K mg base 1 "divisor_and_factor" ["number", "modulus"] [] spDivFac) : FnOk P w K mg base CX0 2 f fd ["one", "other"] spMeet := by
  obtain ⟨f_divisor_and_factor, fd_divisor_and_factor, ds_divisor_and_factor, G_divisor_and_factor, m_divisor_and_factor, k_divisor_and_factor, b_divisor_and_factor, v_divisor_and_factor⟩ := h1
  refine F.ok sc_meetings (fun vs H Q E h => ?_) (fun cdv A outer s H vs Q E hr h => ?_)
  · obtain ⟨t1, t2, a, p, o, q, rfl, _⟩ := h
    rfl
  · obtain ⟨t1, t2, a, p, o, q, rfl, e1, e2, hp, hq, hp2, hq2, ha2, ho2, c⟩ := h
    have hg : 0 < Nat.gcd p q := Nat.gcd_pos_of_pos_left q hp
    have hg2 : Nat.gcd p q < 2 ^ 210 := Nat.lt_of_le_of_lt (Nat.le_of_dvd (by omega) (Nat.gcd_dvd_left p q)) hp2
    have cg : ∀ i : Int, CDivW i ((Nat.gcd p q : Nat) : Int) := fun i => wide_div (b := 210) (Int.natCast_pos.mpr hg) hg2 (by decide) (by decide)
    refine ⟨_, (pss_cons (ps_asg (pv 0) (pg_tupK (K := K) (n := 2) rfl rfl (pgs_cons (pg_name (i := 2) sc_meetings.nd rfl (.inl rfl)) (pgs_cons (pg_name (i := 3) sc_meetings.nd rfl (.inl rfl)) pgs_nil))))
      (pss_cons (ps_asg (pv 1) (pg_tupK (K := K) (n := 2) rfl rfl (pgs_cons (pg_name (i := 4) sc_meetings.nd rfl (.inl rfl)) (pgs_cons (pg_name (i := 5) sc_meetings.nd rfl (.inl rfl)) pgs_nil))))
      (pss_cons (ps_asg (pe_call G_divisor_and_factor hr (by rfl) m_divisor_and_factor k_divisor_and_factor b_divisor_and_factor v_divisor_and_factor pass0 (pa_cons (pv 3) (pa_cons (pv 5) pa_nil))) (pg_tupK (K := K) (n := 2) rfl rfl (pgs_cons (pg_name (i := 6) sc_meetings.nd rfl (.inl rfl)) (pgs_cons (pg_name (i := 7) sc_meetings.nd rfl (.inl rfl)) pgs_nil))))
      (pss_cons (ps_set (i := 8) sc_meetings.nd rfl (.inl rfl) (pe_op op_sub (pv 4) (pv 2)))
      (pss_cons (ps_if (pt_cmpR op_ne (pe_op op_mod (pv 8) (pv 6)) pe_int (nomark _))
        (pss_one (ps_ret pe_non))
        pss_nil)
      (pss_cons (ps_set (i := 9) sc_meetings.nd rfl (.inl rfl) (pe_op op_add (pv 2) (pe_op op_mulA (pe_op op_mulA (pe_op op_fdivW (pv 8) (pv 6)) (pv 7)) (pv 3))))
      (pss_cons (ps_set (i := 10) sc_meetings.nd rfl (.inl rfl) (pe_op op_mulA (pe_op op_fdivW (pv 3) (pv 6)) (pv 5)))
      (pss_cons (ps_set (i := 11) sc_meetings.nd rfl (.inl rfl) (pe_callB (call_max2 rfl) (by rfl) T.b_max (by decide +kernel) (pa_cons (pv 2) (pa_cons (pv 4) pa_nil))))
      (pss_one (ps_ret (pe_tup (pa_cons (pe_op op_add (pv 11) (pe_op op_mod (pe_op op_sub (pv 9) (pv 11)) (pv 10))) (pa_cons (pv 10) pa_nil))))))))))))), ?_⟩
    refine ⟨.ref t1, rfl, t1, _, rfl, .inl (.inl e1), rfl, _, _, rfl, _, _, rfl, rfl, ?_⟩
    refine ⟨.ref t2, rfl, t2, _, rfl, .inl (.inl e2), rfl, _, _, rfl, _, _, rfl, rfl, ?_⟩
    refine ⟨_, rfl, _, rfl, p, q, rfl, hp, hq, hp2, hq2, fun x hx hxm H1 t3 s1 ht3 e3 => ?_⟩
    refine ⟨t3, _, rfl, .inl (.inl e3), rfl, _, _, rfl, _, _, rfl, rfl, ?_⟩
    -- apart
    refine ⟨_, rfl, _, rfl, (o : Nat), (a : Nat), rfl, rfl, ?_⟩
    by_cases hgd : ((o : Int) - a) % ((Nat.gcd p q : Nat) : Int) = 0
    · refine ⟨_, rfl, _, rfl, (o : Int) - a, ((Nat.gcd p q : Nat) : Int), rfl, rfl, Int.natCast_pos.mpr hg, rfl, false, nF (congrArg V.int hgd), iteF ?_⟩
      have hu : (((o : Int) - a) / ((Nat.gcd p q : Nat) : Int)).natAbs < 2 ^ 211 := by
        have z := Int.natAbs_ediv_le_natAbs ((o : Int) - a) ((Nat.gcd p q : Nat) : Int)
        omega
      have hux : (((o : Int) - a) / ((Nat.gcd p q : Nat) : Int) * x).natAbs < 2 ^ 421 := by
        have z := wide_lt (j := x) hu (show x.natAbs < 2 ^ 210 by omega)
        exact z
      have hpg : p / Nat.gcd p q ≤ p := Nat.div_le_self _ _
      refine ⟨_, rfl, _, rfl, _, rfl, (o : Int) - a, ((Nat.gcd p q : Nat) : Int), rfl, rfl, cg _, _, rfl, ((o : Int) - a) / ((Nat.gcd p q : Nat) : Int), x, rfl, rfl, mul_w 211 210 hu (by omega), _, rfl, _, (p : Nat), rfl, rfl, mul_w 421 210 hux (by rw [natAbs_cast]; exact hp2), (a : Nat), _, rfl, rfl, ?_⟩
      refine ⟨_, rfl, _, rfl, (p : Nat), ((Nat.gcd p q : Nat) : Int), rfl, rfl, cg _, _, rfl, ((p / Nat.gcd p q : Nat) : Int), (q : Nat), rfl, rfl, mul_w 210 210 (by rw [natAbs_cast]; omega) (by rw [natAbs_cast]; exact hq2), ?_⟩
      obtain ⟨fst, ef, hm⟩ := meet_of hp hq hx hgd
      have he := lcm_pos hp hq
      have ee : ((p / Nat.gcd p q : Nat) : Int) * (q : Int) = ((p / Nat.gcd p q * q : Nat) : Int) := (Int.natCast_mul _ _).symm
      refine ⟨_, rfl, _, rfl, (a : Nat), (o : Nat), rfl, ?_⟩
      refine ⟨_, rfl, _, rfl, _, rfl, _, _, rfl, rfl, _, rfl, _, ((p / Nat.gcd p q * q : Nat) : Int), rfl, congrArg V.int ee, Int.natCast_pos.mpr he, _, _, rfl, rfl, _, rfl, by simp [sizeLine_eq], fun t ht => ?_⟩
      refine c (.ref t) _ (s1.trans (same_upd ht)) (.inr ⟨hgd, t, fst, p / Nat.gcd p q * q, rfl, ?_, hm⟩) (fun t' e => by cases e; exact s1.free ht)
      rw [upd_same]
      have e8 : (a : Int) + ((o : Int) - a) / ((Nat.gcd p q : Nat) : Int) * x * p = (a : Int) + ((o : Int) - a) / ((Nat.gcd p q : Nat) : Int) * x * (p : Nat) := rfl
      exact congrArg some (congrArg HO.tup (by
        rw [← ef, ← ee]
        ))
    · refine ⟨_, rfl, _, rfl, (o : Int) - a, ((Nat.gcd p q : Nat) : Int), rfl, rfl, Int.natCast_pos.mpr hg, rfl, true, nT (vI hgd), iteT ?_⟩
      exact c .non H1 s1 (.inl ⟨hgd, rfl⟩) (fun t e => by cases e)
end
/-! ### the program: common -/
section
variable {P : Program} {w : World} {K : PySem.W.Frag} {mg : Str → Option Value} {base : Heap}
theorem ok_common {f : Addr} {fd : FuncData} (F : Fun K "common" "common" s_common f fd) (h1 : Has P w K mg base 4 "check_periodic" ["given"] [] spCheckPeriodic) (h2 : Has P w K mg base 2 "meetings" ["one", "other"] [] spMeet) : FnOk P w K mg base CX0 5 f fd ["one", "other"] spMeet := by
  obtain ⟨f_check_periodic, fd_check_periodic, ds_check_periodic, G_check_periodic, m_check_periodic, k_check_periodic, b_check_periodic, v_check_periodic⟩ := h1
  obtain ⟨f_meetings, fd_meetings, ds_meetings, G_meetings, m_meetings, k_meetings, b_meetings, v_meetings⟩ := h2
  refine F.ok sc_common (fun vs H Q E h => ?_) (fun cdv A outer s H vs Q E hr h => ?_)
  · obtain ⟨t1, t2, a, p, o, q, rfl, _⟩ := h
    rfl
  · obtain ⟨t1, t2, a, p, o, q, rfl, e1, e2, hp, hq, c⟩ := h
    refine ⟨_, (pss_cons (ps_expr (pe_call G_check_periodic hr (by rfl) m_check_periodic k_check_periodic b_check_periodic v_check_periodic pass0 (pa_cons (pv 0) pa_nil)))
      (pss_cons (ps_expr (pe_call G_check_periodic hr (by rfl) m_check_periodic k_check_periodic b_check_periodic v_check_periodic pass0 (pa_cons (pv 1) pa_nil)))
      (pss_one (ps_ret (pe_call G_meetings (hr.mono (by decide)) (by rfl) m_meetings k_meetings b_meetings v_meetings pass0 (pa_cons (pv 0) (pa_cons (pv 1) pa_nil))))))), ?_⟩
    refine ⟨_, rfl, t1, a, p, rfl, e1, hp, ?_⟩
    refine ⟨_, rfl, t2, o, q, rfl, e2, hq, ?_⟩
    exact ⟨_, rfl, _, rfl, t1, t2, a, p, o, q, rfl, e1, e2, hp, hq, c⟩
end
/-! ### the program: how often one timer goes first -/
theorem rangeSize_meet {m e y : Nat} (he : 1 ≤ e) : Builtin.Range.rangeSize (m : Int) (y : Int) (e : Int) = (meetN m e y : Nat) := by
  unfold Builtin.Range.rangeSize meetN
  rw [if_pos (by omega : (e : Int) > 0)]
  by_cases c : m < y
  · rw [if_pos (by omega : (m : Int) < (y : Int))]
    have e1 : (y - m + (e - 1)) / e = (y - m - 1) / e + 1 := by
      rw [show y - m + (e - 1) = (y - m - 1) + e by omega, Nat.add_div_right _ (by omega : 0 < e)]
    rw [e1, show (y : Int) - (m : Int) - 1 = ((y - m - 1 : Nat) : Int) by omega]
    rfl
  · rw [if_neg (by omega : ¬ (m : Int) < (y : Int)), show y - m = 0 by omega, Nat.zero_add, Nat.div_eq_of_lt (by omega)]
    rfl
theorem up_int {x f e : Nat} (he : 1 ≤ e) : (if (x : Int) - (f : Int) + (e : Int) - 1 > 0 then (x : Int) - (f : Int) + (e : Int) - 1 else 0) / (e : Int) = (((x - f + (e - 1)) / e : Nat) : Int) := by
  by_cases c : f ≤ x
  · have z : (if (x : Int) - (f : Int) + (e : Int) - 1 > 0 then (x : Int) - (f : Int) + (e : Int) - 1 else 0) = ((x - f + (e - 1) : Nat) : Int) := by split <;> omega
    rw [z]
    rfl
  · have z : ∃ r : Nat, r < e ∧ (if (x : Int) - (f : Int) + (e : Int) - 1 > 0 then (x : Int) - (f : Int) + (e : Int) - 1 else 0) = (r : Int) := by
      split
      · exact ⟨((x : Int) - (f : Int) + (e : Int) - 1).toNat, by omega, by omega⟩
      · exact ⟨0, by omega, rfl⟩
    obtain ⟨r, hr, z⟩ := z
    rw [z, show x - f = 0 by omega, Nat.zero_add, Nat.div_eq_of_lt (by omega : e - 1 < e)]
    show ((r / e : Nat) : Int) = _
    rw [Nat.div_eq_of_lt hr]
section
variable {P : Program} {w : World} {K : PySem.W.Frag} {mg : Str → Option Value} {base : Heap}
def MostM (mg : Str → Option Value) : Prop := ∃ t, mg "MOST_MEETINGS" = some (.int 2000 t)
def spTimes (K : PySem.W.Frag) : Sp := fun vs H Q _ => ∃ (b a p o q x y : Nat) (ql t1 t2 : Addr) (ws : List Bool), vs = [.int (b : Nat), .ref ql, .ref t1, .ref t2, .int (x : Nat), .int (y : Nat)] ∧ 2 ≤ b ∧ b ≤ 64 ∧ SqL K H ql (ws.map lvV) ∧ ws ≠ [] ∧ ws.length ≤ 60 ∧
  H t1 = some (.tup [.int (a : Nat), .int (p : Nat)]) ∧ H t2 = some (.tup [.int (o : Nat), .int (q : Nat)]) ∧ (1 ≤ p ∧ p < 2 ^ 200) ∧ (1 ≤ q ∧ q < 2 ^ 200) ∧ p ≠ q ∧ a < 2 ^ 200 ∧ o < 2 ^ 200 ∧ x ≤ y ∧ y < 2 ^ 240 ∧
  (∀ f e, IsMeet a p o q f e → meetN (meetM f e x) e y ≤ 2000) ∧ ∀ H', Same H H' → Q (.int (cntP (fun t => bothB a p o q t && ahB ws b p q t) x (y - x) : Nat)) H'
theorem ok_times_first {f : Addr} {fd : FuncData} (F : Fun K "times_first" "times_first" s_times_first f fd) (T : Tx K mg) (hM : MostM mg) (h1 : Has P w K mg base 3 "check_base" ["base"] [] spCheckBase) (h4 : Has P w K mg base 4 "check_levels" ["levels"] [] (spCheckLevels K))
    (h2 : Has P w K mg base 3 "check_tick" ["tick", "least"] [.int 0] spCheckTick) (h7 : Has P w K mg base 3 "check_tick" ["tick", "least"] [] spCheckTick) (h3 : Has P w K mg base 5 "check_two" ["one", "other"] [] spCheckTwo)
    (h5 : Has P w K mg base 2 "meetings" ["one", "other"] [] spMeet) (h6 : Has P w K mg base 4 "is_ahead" ["base", "levels", "one", "other", "tick"] [] (spAhead K)) :
    FnOk P w K mg base CX0 6 f fd ["base", "levels", "one", "other", "first", "behind"] (spTimes K) := by
  obtain ⟨tM, g_MOST_MEETINGS⟩ := hM
  obtain ⟨f_check_base, fd_check_base, ds_check_base, G_check_base, m_check_base, k_check_base, b_check_base, v_check_base⟩ := h1
  obtain ⟨f_check_tick1, fd_check_tick1, ds_check_tick1, G_check_tick1, m_check_tick1, k_check_tick1, b_check_tick1, v_check_tick1⟩ := h2
  obtain ⟨f_check_tick, fd_check_tick, ds_check_tick, G_check_tick, m_check_tick, k_check_tick, b_check_tick, v_check_tick⟩ := h7
  obtain ⟨f_check_two, fd_check_two, ds_check_two, G_check_two, m_check_two, k_check_two, b_check_two, v_check_two⟩ := h3
  obtain ⟨f_check_levels, fd_check_levels, ds_check_levels, G_check_levels, m_check_levels, k_check_levels, b_check_levels, v_check_levels⟩ := h4
  obtain ⟨f_meetings, fd_meetings, ds_meetings, G_meetings, m_meetings, k_meetings, b_meetings, v_meetings⟩ := h5
  obtain ⟨f_is_ahead, fd_is_ahead, ds_is_ahead, G_is_ahead, m_is_ahead, k_is_ahead, b_is_ahead, v_is_ahead⟩ := h6
  refine F.ok sc_times_first (fun vs H Q E h => ?_) (fun cdv A outer s H vs Q E hr h => ?_)
  · obtain ⟨b, a, p, o, q, x, y, ql, t1, t2, ws, rfl, _⟩ := h
    rfl
  · obtain ⟨b, a, p, o, q, x, y, ql, t1, t2, ws, rfl, hb, hb64, hL, hne, h60, e1, e2, ⟨hp, hp2⟩, ⟨hq, hq2⟩, hpq, ha2, ho2, hxy, hy2, hmany, c⟩ := h
    refine ⟨_, (pss_cons (ps_expr (pe_call G_check_base (hr.mono (by decide)) (by rfl) m_check_base k_check_base b_check_base v_check_base pass0 (pa_cons (pv 0) pa_nil)))
      (pss_cons (ps_expr (pe_call G_check_levels (hr.mono (by decide)) (by rfl) m_check_levels k_check_levels b_check_levels v_check_levels pass0 (pa_cons (pv 1) pa_nil)))
      (pss_cons (ps_expr (pe_call G_check_two hr (by rfl) m_check_two k_check_two b_check_two v_check_two pass0 (pa_cons (pv 2) (pa_cons (pv 3) pa_nil))))
      (pss_cons (ps_expr (pe_call G_check_tick1 (hr.mono (by decide)) (by rfl) m_check_tick1 k_check_tick1 b_check_tick1 v_check_tick1 pass0 (pa_cons (pv 4) pa_nil)))
      (pss_cons (ps_expr (pe_call G_check_tick (hr.mono (by decide)) (by rfl) m_check_tick k_check_tick b_check_tick v_check_tick pass0 (pa_cons (pv 5) (pa_cons (pv 4) pa_nil))))
      (pss_cons (ps_set (i := 6) sc_times_first.nd rfl (.inl rfl) (pe_call G_meetings (hr.mono (by decide)) (by rfl) m_meetings k_meetings b_meetings v_meetings pass0 (pa_cons (pv 2) (pa_cons (pv 3) pa_nil))))
      (pss_cons (ps_if (pt_cmpR op_isN (pv 6) pe_non (nomark _))
        (pss_one (ps_ret pe_int))
        pss_nil)
      (pss_cons (ps_asg (pv 6) (pg_tupK (K := K) (n := 2) rfl rfl (pgs_cons (pg_name (i := 7) sc_times_first.nd rfl (.inl rfl)) (pgs_cons (pg_name (i := 8) sc_times_first.nd rfl (.inl rfl)) pgs_nil))))
      (pss_cons (ps_aug (i := 7) sc_times_first.nd rfl (.inl rfl) (pe_op op_mulA (pe_op op_fdivW (pe_callB (call_max2 rfl) (by rfl) T.b_max (by decide +kernel) (pa_cons pe_int (pa_cons (pe_op op_sub (pe_op op_add (pe_op op_sub (pv 4) (pv 7)) (pv 8)) pe_int) pa_nil))) (pv 8)) (pv 8)) ip_add)
      (pss_cons (ps_if (pt_cmpR op_gt (pe_op op_fdivW (pe_callB (call_max2 rfl) (by rfl) T.b_max (by decide +kernel) (pa_cons pe_int (pa_cons (pe_op op_sub (pe_op op_add (pe_op op_sub (pv 5) (pv 7)) (pv 8)) pe_int) pa_nil))) (pv 8)) (pe_glob (v := .int 2000) rfl g_MOST_MEETINGS ⟨_, rfl⟩) (nomark _))
        (pss_one ps_never)
        pss_nil)
      (pss_cons (ps_setLc (i := 9) (own := [("tick", 10)]) (g := gName 10)  rfl sc_times_first.nd rfl rfl (sw_true rfl rfl rfl (by decide +kernel)) (pi_wide3 (by rfl) T.b_range (pa_cons (pv 7) (pa_cons (pv 5) (pa_cons (pv 8) pa_nil)))) (blkOk_by (own := [("tick", 10)]) (N := N_times_first) (sc := defScope s_times_first) (by decide +kernel)) (fun _ _ _ _ _ => (pg_name (i := 10) sc_times_first.nd rfl (.inl rfl))) (fun _ _ _ _ _ => (pts_one (pt_cmpR op_gt (pv 10) (pe_callB (call_max2 rfl) (by rfl) T.b_max (by decide +kernel) (pa_cons (pe_ix (ix_tupK (K := K) rfl) (pv 2) pe_int (fun _ _ => rfl)) (pa_cons (pe_ix (ix_tupK (K := K) rfl) (pv 3) pe_int (fun _ _ => rfl)) pa_nil))) (nomark _)))) (fun _ _ _ _ _ => (pv 10)))
      (pss_one (ps_ret (pe_callB (lenK (K := K) rfl) (by rfl) T.b_len PySem.boot_len (pa_cons (pe_lc (own := [("tick", 10)]) (g := gName 10)  rfl sc_times_first.nd (pi_list (pv 9)) (blkOk_by (own := [("tick", 10)]) (N := N_times_first) (sc := defScope s_times_first) (by decide +kernel)) (fun _ _ _ _ _ => (pg_name (i := 10) sc_times_first.nd rfl (.inl rfl))) (fun _ _ _ _ _ => (pts_one (pt_val (pe_call G_is_ahead (hr.mono (by decide)) (by rfl) m_is_ahead k_is_ahead b_is_ahead v_is_ahead pass0 (pa_cons (pv 0) (pa_cons (pv 1) (pa_cons (pv 2) (pa_cons (pv 3) (pa_cons (pv 10) pa_nil))))))))) (fun _ _ _ _ _ => (pv 10))) pa_nil))))))))))))))), ?_⟩
    refine ⟨_, rfl, b, rfl, by omega, by omega, ?_⟩
    refine ⟨_, rfl, ql, ws, rfl, hL, hne, h60, fun H1 s1 => ?_⟩
    refine ⟨_, rfl, _, rfl, t1, t2, a, p, o, q, rfl, s1 _ _ e1, s1 _ _ e2, hp, hq, hpq, ?_⟩
    refine ⟨_, rfl, x, 0, rfl, by omega, ?_⟩
    refine ⟨_, rfl, _, rfl, y, x, rfl, by omega, ?_⟩
    refine ⟨_, rfl, _, rfl, t1, t2, a, p, o, q, rfl, s1 _ _ e1, s1 _ _ e2, hp, hq, by omega, by omega, by omega, by omega, fun v H2 s2 hv _ => ?_⟩
    have s02 := s1.trans s2
    rcases hv with ⟨hn, rfl⟩ | ⟨hg, tm, f, e, rfl, em, hm⟩
    · refine ⟨_, rfl, rfl, true, rfl, iteT ?_⟩
      have z : cntP (fun t => bothB a p o q t && ahB ws b p q t) x (y - x) = 0 := by
        refine cntP_zero _ fun t h1 h2 => ?_
        cases hB : bothB a p o q t with
        | false => rfl
        | true =>
          obtain ⟨⟨b1, b2⟩, b3, b4⟩ := bothB_iff.mp hB
          exact absurd (meet_gcd (Nat.le_of_lt b1) (Nat.le_of_lt b3) (Nat.dvd_of_mod_eq_zero b2) (Nat.dvd_of_mod_eq_zero b4)) hn
      have z2 := c H2 s02
      rw [z] at z2
      exact z2
    · refine ⟨_, rfl, rfl, false, rfl, iteF ?_⟩
      have hmeet := hm
      obtain ⟨he, c1, c2, c3, c4⟩ := hm
      have he1 : 1 ≤ e := by
        rw [he]
        exact lcm_pos hp hq
      have he2 : e < 2 ^ 400 := by
        have z : p / Nat.gcd p q * q < 2 ^ 400 := by
          have z1 := Nat.mul_lt_mul'' (Nat.lt_of_le_of_lt (Nat.div_le_self p (Nat.gcd p q)) hp2) hq2
          rw [← Nat.pow_add] at z1
          exact z1
        rw [he]
        exact z
      have hf2 : f < 2 ^ 401 := by omega
      have hN := hmany f e hmeet
      have hx2 : x < 2 ^ 240 := by omega
      refine ⟨.ref tm, rfl, tm, _, rfl, .inl (.inl em), rfl, _, _, rfl, _, _, rfl, rfl, ?_⟩
      -- the first meeting that counts
      have cw : ∀ i : Int, CDivW i (e : Int) := fun i => wide_div (b := 400) (Int.natCast_pos.mpr he1) he2 (by decide) (by decide)
      have hk1 : (x - f + (e - 1)) / e < 2 ^ 402 := Nat.lt_of_le_of_lt (Nat.div_le_self _ _) (by omega)
      refine ⟨_, rfl, _, rfl, _, rfl, (x : Nat), (f : Nat), rfl, rfl, _, rfl, _, (e : Nat), rfl, rfl, _, 1, rfl, rfl, 0, _, rfl, _, rfl, _, (e : Nat), rfl, rfl, cw _, _, rfl, (((x - f + (e - 1)) / e : Nat) : Int), (e : Nat), congrArg V.int (up_int he1), rfl, mul_w 402 402 (by rw [natAbs_cast]; exact hk1) (by rw [natAbs_cast]; omega), (f : Nat), (((x - f + (e - 1)) / e * e : Nat) : Int), rfl, congrArg V.int (cast_mul _ _), ?_⟩
      -- not too many
      have hMM : meetM f e x = f + (x - f + (e - 1)) / e * e := rfl
      refine ⟨_, rfl, _, rfl, (y : Nat), ((meetM f e x : Nat) : Int), rfl, rfl, _, rfl, _, (e : Nat), rfl, rfl, _, 1, rfl, rfl, 0, _, rfl, _, rfl, _, (e : Nat), rfl, rfl, cw _, ((meetN (meetM f e x) e y : Nat) : Int), 2000, congrArg V.int (up_int he1), rfl, false, dF (by omega), iteF ?_⟩
      -- the ticks
      have hdvs : CDivP ((y : Int) - ((meetM f e x : Nat) : Int)) (e : Int) := by
        refine divp_s 3000 (Int.natCast_pos.mpr he1) ?_
        have hmm : meetM f e x < 2 ^ 900 := by
          have z := Nat.mul_lt_mul'' hk1 he2
          rw [← Nat.pow_add] at z
          rw [hMM]
          exact Nat.lt_of_lt_of_le (Nat.add_lt_add hf2 z) (by decide)
        have hbig : (2 : Nat) ^ 240 + 2 ^ 900 < 2 ^ 3000 := by decide
        have hab : ((y : Int) - ((meetM f e x : Nat) : Int)).natAbs ≤ y + meetM f e x := by omega
        generalize (2 : Nat) ^ 3000 = B at hbig ⊢
        generalize (2 : Nat) ^ 900 = B9 at hbig hmm
        omega
      refine ⟨_, rfl, _, rfl, _, rfl, ((meetM f e x : Nat) : Int), (y : Nat), (e : Nat), meetN (meetM f e x) e y, rfl, hdvs, rangeSize_meet he1, fun D hD => lc_step (lo := ((meetM f e x : Nat) : Int)) (c := (e : Nat)) (n := meetN (meetM f e x) e y) (fun i H' => Same H2 H' ∧ H' D = some (.lst ((tickL (meetM f e x) e (max a o) i).map fun t : Nat => V.int (t : Nat))))
        ⟨same_upd hD, upd_same⟩ ?_ ?_⟩
      · rintro i H' hi ⟨sm, eD⟩
        have e1' := sm _ _ (s02 _ _ e1)
        have e2' := sm _ _ (s02 _ _ e2)
        have etk : ((meetM f e x : Nat) : Int) + (i : Int) * (e : Int) = ((meetM f e x + i * e : Nat) : Int) := by
          rw [Int.natCast_add, Int.natCast_mul]
        have hmax : (if (o : Int) > (a : Int) then (o : Int) else (a : Int)) = ((max a o : Nat) : Int) := by split <;> omega
        refine ⟨rfl, _, rfl, .ref t1, rfl, t1, _, 0, _, rfl, rfl, .inl (.inl e1'), atI_nat (j := 0) rfl, .ref t2, rfl, t2, _, 0, _, rfl, rfl, .inl (.inl e2'), atI_nat (j := 0) rfl, (a : Nat), (o : Nat), rfl, ((meetM f e x + i * e : Nat) : Int), ((max a o : Nat) : Int), congrArg V.int etk, congrArg V.int hmax, ?_⟩
        by_cases hc : max a o < meetM f e x + i * e
        · refine ⟨true, dT (by omega), iteT ⟨_, rfl, _, eD, ?_, fun c o e => ?_, ?_⟩⟩
          · rw [List.length_map]
            have := tickL_len (meetM f e x) e (max a o) i
            exact sizeLine_ge (by omega)
          · rw [upd_ne (ne_of_none e hD)]
            exact sm _ _ e
          · rw [upd_same, etk]
            show _ = some (HO.lst ((tickL (meetM f e x) e (max a o) i ++ if max a o < meetM f e x + i * e then [meetM f e x + i * e] else []).map fun t : Nat => V.int (t : Nat)))
            rw [if_pos hc, List.map_append]
            rfl
        · refine ⟨false, dF (by omega), iteF ⟨sm, ?_⟩⟩
          show _ = some (HO.lst ((tickL (meetM f e x) e (max a o) i ++ if max a o < meetM f e x + i * e then [meetM f e x + i * e] else []).map fun t : Nat => V.int (t : Nat)))
          rw [if_neg hc, List.append_nil]
          exact eD
      rintro H3 ⟨s3, eD⟩
      have hlen := tickL_len (meetM f e x) e (max a o) (meetN (meetM f e x) e y)
      have hcnt : (tickL (meetM f e x) e (max a o) (meetN (meetM f e x) e y)).countP (fun t => ahB ws b p q t) = cntP (fun t => bothB a p o q t && ahB ws b p q t) x (y - x) := by
        rw [cnt_range (f := f) he1 hxy (fun t ht => ?_)]
        · refine tickL_cnt _ fun k hk => ?_
          have hd := meetM_dvd (f := f) (e := e) (x := x) (k := k)
          have hfm : f ≤ meetM f e x + k * e := by
            unfold meetM
            omega
          have hpe : p ∣ e := by
            rw [he, lcm_form hp]
            exact Nat.dvd_mul_left p _
          have hqe : q ∣ e := by
            rw [he]
            exact Nat.dvd_mul_left q _
          generalize meetM f e x + k * e = t at hd hfm ⊢
          have d1 : p ∣ t - a := by
            have z := Nat.dvd_add (Nat.dvd_trans hpe hd) c3
            rw [show t - f + (f - a) = t - a by omega] at z
            exact z
          have d2 : q ∣ t - o := by
            have z := Nat.dvd_add (Nat.dvd_trans hqe hd) c4
            rw [show t - f + (f - o) = t - o by omega] at z
            exact z
          have eb : bothB a p o q t = decide (max a o < t) := by
            rw [Bool.eq_iff_iff, bothB_iff, decide_eq_true_iff]
            constructor
            · rintro ⟨⟨z1, _⟩, z2, _⟩
              omega
            · intro z
              exact ⟨⟨by omega, Nat.mod_eq_zero_of_dvd d1⟩, by omega, Nat.mod_eq_zero_of_dvd d2⟩
          rw [eb]
        · rw [Bool.and_eq_true] at ht
          obtain ⟨⟨b1, b2⟩, b3, b4⟩ := bothB_iff.mp ht.1
          have h1 := Nat.dvd_of_mod_eq_zero b2
          have h2 := Nat.dvd_of_mod_eq_zero b4
          have hft : f ≤ t := by
            rcases Nat.lt_or_ge t f with l | l
            · have := meet_uniq hp hmeet (by omega) (by omega) h1 h2
              omega
            · exact l
          refine ⟨hft, ?_⟩
          rw [he]
          refine lcm_dvd hp ?_ ?_
          · have z := Nat.dvd_sub h1 c3
            rw [show t - a - (f - a) = t - f by omega] at z
            exact z
          · have z := Nat.dvd_sub h2 c4
            rw [show t - o - (f - o) = t - f by omega] at z
            exact z
      have hmem : ∀ t, t ∈ tickL (meetM f e x) e (max a o) (meetN (meetM f e x) e y) → t < y ∧ p ≤ t ∧ q ≤ t := by
        intro t ht
        obtain ⟨k, h1, h2, h3⟩ := tickL_mem ht
        have h4 : t < y := by
          have := up_lt he1 h1
          omega
        have hd := meetM_dvd (f := f) (e := e) (x := x) (k := k)
        have hfm : f ≤ meetM f e x + k * e := by
          unfold meetM
          omega
        rw [← h2] at hd hfm
        have hpe : p ∣ e := by
          rw [he, lcm_form hp]
          exact Nat.dvd_mul_left p _
        have hqe : q ∣ e := by
          rw [he]
          exact Nat.dvd_mul_left q _
        have d1 : p ∣ t - a := by
          have z := Nat.dvd_add (Nat.dvd_trans hpe hd) c3
          rw [show t - f + (f - a) = t - a by omega] at z
          exact z
        have d2 : q ∣ t - o := by
          have z := Nat.dvd_add (Nat.dvd_trans hqe hd) c4
          rw [show t - f + (f - o) = t - o by omega] at z
          exact z
        have l1 := Nat.le_of_dvd (by omega) d1
        have l2 := Nat.le_of_dvd (by omega) d2
        omega
      generalize tickL (meetM f e x) e (max a o) (meetN (meetM f e x) e y) = ts at eD hlen hcnt hmem
      have s03 := s02.trans s3
      refine ⟨_, rfl, D, rfl, ⟨_, SqL.of eD⟩, fun D2 hD2 => lc_list (K := K) (a := D) (xs := ts.map fun t : Nat => V.int (t : Nat)) (fun i H' => Same H3 H' ∧ ∃ zs : List V, zs.length = (ts.take i).countP (fun t => ahB ws b p q t) ∧ H' D2 = some (.lst zs))
        ⟨same_upd hD2, [], rfl, upd_same⟩ (fun i H' _ ⟨sm, _⟩ => SqL.of (sm _ _ eD)) ?_ ?_⟩
      · rintro i z H' hz ⟨sm, zs, hzs, eZ⟩
        rw [List.getElem?_map] at hz
        obtain ⟨t, ht, rfl⟩ : ∃ t, ts[i]? = some t ∧ z = V.int (t : Nat) := by
          cases ez : ts[i]? with
          | none =>
            rw [ez] at hz
            cases hz
          | some t =>
            rw [ez] at hz
            exact ⟨t, rfl, (Option.some.inj hz).symm⟩
        obtain ⟨t3, t4, t5⟩ := hmem t (List.mem_of_getElem? ht)
        have hstep : (ts.take (i + 1)).countP (fun t => ahB ws b p q t) = (ts.take i).countP (fun t => ahB ws b p q t) + if ahB ws b p q t = true then 1 else 0 := by
          rw [List.take_add_one, ht]
          show List.countP _ (List.take i ts ++ [t]) = _
          rw [List.countP_append, List.countP_singleton]
        have hzl : zs.length ≤ 2000 := by
          have z := List.countP_le_length (p := fun t => ahB ws b p q t) (l := ts.take i)
          rw [List.length_take] at z
          omega
        refine ⟨rfl, _, rfl, _, rfl, _, rfl, _, rfl, _, rfl, b, t, a, p, o, q, ql, t1, t2, ws, rfl, hb, hb64, by omega, (s03.trans sm).seq hL, hne, sm _ _ (s3 _ _ (s02 _ _ e1)), sm _ _ (s3 _ _ (s02 _ _ e2)), hp, hq, t4, t5, fun v H4 hv s4 => ⟨v, rfl, ?_⟩⟩
        have ev := hv.eq hb hp hq t4 t5
        cases v with
        | true =>
          refine iteT ⟨_, rfl, _, s4 _ _ eZ, sizeLine_ge (by omega), fun c o e' => ?_, zs ++ [.int (t : Nat)], ?_, upd_same⟩
          · rw [upd_ne (ne_of_none e' hD2)]
            exact s4 _ _ (sm _ _ e')
          · rw [hstep, ← ev, if_pos rfl, List.length_append, hzs]
            rfl
        | false =>
          refine iteF ⟨sm.trans s4, zs, ?_, s4 _ _ eZ⟩
          rw [hstep, ← ev, if_neg (by decide), hzs]
          rfl
      · rintro H4 ⟨s4, zs, hzs, eZ⟩
        rw [List.length_map, List.take_length, hcnt] at hzs
        refine ⟨D2, zs, rfl, .inl (SqL.of eZ), ?_⟩
        rw [hzs]
        exact c H4 (s03.trans s4)
end
/-! ### law k36: common ticks of a range, counted -/
theorem both_sub {a p o q f e t : Nat} (hp : 1 ≤ p) (hq : 1 ≤ q) (h : IsMeet a p o q f e) (hb : bothB a p o q t = true) : f ≤ t ∧ e ∣ t - f ∧ a + p ≤ t ∧ o + q ≤ t := by
  obtain ⟨⟨b1, b2⟩, b3, b4⟩ := bothB_iff.mp hb
  have d1 := Nat.dvd_of_mod_eq_zero b2
  have d2 := Nat.dvd_of_mod_eq_zero b4
  have g1 := ((fire_ge hp).mpr ⟨b1, b2⟩).1
  have g2 := ((fire_ge hq).mpr ⟨b3, b4⟩).1
  have hf : f ≤ t := by
    rcases Nat.lt_or_ge t f with l | l
    · have h2 := h
      obtain ⟨_, c1, c2, _⟩ := h2
      have := meet_uniq hp h (by omega) (by omega) d1 d2
      omega
    · exact l
  obtain ⟨he, c1, c2, c3, c4⟩ := h
  refine ⟨hf, ?_, g1, g2⟩
  rw [he]
  refine lcm_dvd hp ?_ ?_
  · have z := Nat.dvd_sub d1 c3
    rw [show t - a - (f - a) = t - f by omega] at z
    exact z
  · have z := Nat.dvd_sub d2 c4
    rw [show t - o - (f - o) = t - f by omega] at z
    exact z
theorem both_of {a p o q f e t : Nat} (hp : 1 ≤ p) (hq : 1 ≤ q) (h : IsMeet a p o q f e) (h1 : f ≤ t) (h2 : e ∣ t - f) (h3 : a + p ≤ t) (h4 : o + q ≤ t) : bothB a p o q t = true := by
  obtain ⟨he, c1, c2, c3, c4⟩ := h
  have hpe : p ∣ e := by
    rw [he, lcm_form hp]
    exact Nat.dvd_mul_left p _
  have hqe : q ∣ e := by
    rw [he]
    exact Nat.dvd_mul_left q _
  have d1 : p ∣ t - a := by
    have z := Nat.dvd_add (Nat.dvd_trans hpe h2) c3
    rw [show t - f + (f - a) = t - a by omega] at z
    exact z
  have d2 : q ∣ t - o := by
    have z := Nat.dvd_add (Nat.dvd_trans hqe h2) c4
    rw [show t - f + (f - o) = t - o by omega] at z
    exact z
  exact bothB_iff.mpr ⟨⟨by omega, Nat.mod_eq_zero_of_dvd d1⟩, by omega, Nat.mod_eq_zero_of_dvd d2⟩
/-- g is the first common tick at which both fired before -/
def IsFrom (a p o q f e g : Nat) : Prop := f ≤ g ∧ e ∣ g - f ∧ max (a + p) (o + q) ≤ g ∧ g < max (a + p) (o + q) + e
theorem both_at {a p o q f e g t : Nat} (hp : 1 ≤ p) (hq : 1 ≤ q) (h : IsMeet a p o q f e) (hg : IsFrom a p o q f e g) : bothB a p o q t = true ↔ g ≤ t ∧ e ∣ t - g := by
  obtain ⟨g1, g2, g3, g4⟩ := hg
  constructor
  · intro hb
    obtain ⟨b1, b2, b3, b4⟩ := both_sub hp hq h hb
    rcases Nat.lt_or_ge t g with l | l
    · have z := Nat.dvd_sub g2 b2
      rw [show g - f - (t - f) = g - t by omega] at z
      have := Nat.le_of_dvd (by omega) z
      omega
    · refine ⟨l, ?_⟩
      have z := Nat.dvd_sub b2 g2
      rw [show t - f - (g - f) = t - g by omega] at z
      exact z
  · rintro ⟨l, d⟩
    refine both_of hp hq h (by omega) ?_ (by omega) (by omega)
    have z := Nat.dvd_add d g2
    rw [show t - g + (g - f) = t - f by omega] at z
    exact z
theorem cntW2_all {P : Nat → Bool} {m e : Nat} : ∀ n, (∀ k, k < n → P (m + k * e) = true) → cntW2 P m e n = n
  | 0, _ => rfl
  | n + 1, h => by
    unfold cntW2
    rw [cntW2_all n (fun k hk => h k (by omega)), if_pos (h n (by omega))]
section
variable {P : Nat → Bool} {g e : Nat} (he : 1 ≤ e) (h : ∀ t, P t = true ↔ g ≤ t ∧ e ∣ t - g)
include he h
theorem at_all (k : Nat) : P (g + k * e) = true := (h _).mpr ⟨by omega, by rw [Nat.add_sub_cancel_left]; exact Nat.dvd_mul_left e k⟩
theorem cnt_from (k n : Nat) : cntP P (g + k * e) (n * e) = n := by
  rw [cntW2_windows he (fun t ht hm => ?_), cntW2_all n (fun i _ => ?_)]
  · have z := at_all he h (k + i)
    rw [Nat.add_mul] at z
    rw [Nat.add_assoc]
    exact z
  · have z := Nat.dvd_sub ((h t).mp ht).2 (Nat.dvd_mul_left e k)
    rw [show t - g - k * e = t - (g + k * e) by omega] at z
    exact z
theorem cnt_from1 (k n : Nat) : cntP P (g + k * e) (n * e + 1) = n + 1 := by
  rw [cntP_add, cnt_from he h, show g + k * e + n * e = g + (k + n) * e by rw [Nat.add_mul]; omega]
  show n + (0 + if P (g + (k + n) * e + 0) = true then 1 else 0) = n + 1
  rw [Nat.add_zero, if_pos (at_all he h _), Nat.zero_add]
theorem cnt_between (k : Nat) : cntP P (g + k * e + 1) (e - 1) = 0 := by
  have z := cnt_from he h k 1
  rw [Nat.one_mul, show e = 1 + (e - 1) by omega, cntP_add, ← show e = 1 + (e - 1) by omega] at z
  have y : cntP P (g + k * e) 1 = 1 := by
    show 0 + (if P (g + k * e + 0) = true then 1 else 0) = 1
    rw [Nat.add_zero, if_pos (at_all he h k)]
  omega
theorem cnt_before {n : Nat} (hn : n ≤ g) : cntP P 0 n = 0 := cntP_zero n fun t _ ht => by
  cases hp : P t with
  | false => rfl
  | true =>
    have := ((h t).mp hp).1
    omega
end
theorem cntP_split (P A : Nat → Bool) (lo : Nat) : ∀ n, cntP (fun t => P t && A t) lo n + cntP (fun t => P t && !A t) lo n = cntP P lo n
  | 0 => rfl
  | n + 1 => by
    have ih := cntP_split P A lo n
    have z : (if (P (lo + n) && A (lo + n)) = true then 1 else 0) + (if (P (lo + n) && !A (lo + n)) = true then 1 else 0) = if P (lo + n) = true then 1 else 0 := by
      cases P (lo + n) <;> cases A (lo + n) <;> rfl
    show cntP (fun t => P t && A t) lo n + (if (P (lo + n) && A (lo + n)) = true then 1 else 0) + (cntP (fun t => P t && !A t) lo n + (if (P (lo + n) && !A (lo + n)) = true then 1 else 0)) = cntP P lo n + if P (lo + n) = true then 1 else 0
    omega
theorem cntP_le {P R : Nat → Bool} {lo : Nat} (n : Nat) (h : cntP R lo n = 0) : cntP (fun t => R t && P t) lo n = 0 := by
  have z := cntP_split R P lo n
  omega
/-- one of the two by turns -/
theorem cnt_swap {ws : List Bool} {b a p o q : Nat} (hpq : p ≠ q) (lo n : Nat) : cntP (fun t => bothB o q a p t && ahB ws b q p t) lo n = cntP (fun t => bothB a p o q t && !ahB ws b p q t) lo n := by
  refine cntP_congr n fun t _ _ => ?_
  rw [ahB_swap hpq]
  unfold bothB
  rw [Bool.and_comm (fireB o q t)]
/-- the first common tick is what it is -/
theorem meet_same {a p o q f e f' e' : Nat} (hp : 1 ≤ p) (h : IsMeet a p o q f e) (h' : IsMeet a p o q f' e') : f' = f ∧ e' = e := by
  have h2 := h
  obtain ⟨he, _⟩ := h2
  obtain ⟨he', c1, c2, c3, c4⟩ := h'
  have ee : e' = e := by rw [he, he']
  subst ee
  exact ⟨meet_uniq hp h c1 c2 c3 c4, rfl⟩
theorem meetN_few {f e x y n : Nat} (he : 1 ≤ e) (h : y ≤ x + n * e) : meetN (meetM f e x) e y ≤ n := by
  have h1 := meetM_ge (f := f) (x := x) he
  unfold meetN
  have h2 : y - meetM f e x + (e - 1) < (n + 1) * e := by
    rw [Nat.succ_mul]
    omega
  have := (Nat.div_lt_iff_lt_mul (show 0 < e by omega)).mpr h2
  omega
theorem meetM_zero {f e : Nat} (he : 1 ≤ e) : meetM f e 0 = f := by
  unfold meetM
  rw [Nat.zero_sub, Nat.zero_add, Nat.div_eq_of_lt (by omega), Nat.zero_mul]
  rfl
/-- few common ticks ahead of the first one at which both fired before -/
theorem from_few {a p o q f e g : Nat} (hp : 1 ≤ p) (hq : 1 ≤ q) (h : IsMeet a p o q f e) (hg : IsFrom a p o q f e g) : g ≤ f + 2 * e := by
  obtain ⟨he, c1, c2, c3, c4⟩ := h
  obtain ⟨g1, g2, g3, g4⟩ := hg
  have h1 : p ≤ e := by
    rw [he, lcm_form hp]
    exact Nat.le_mul_of_pos_left p (Nat.div_pos (Nat.le_of_dvd (by omega) (Nat.gcd_dvd_right p q)) (Nat.gcd_pos_of_pos_left q hp))
  have h2 : q ≤ e := by
    rw [he]
    exact Nat.le_mul_of_pos_left q (Nat.div_pos (Nat.le_of_dvd (by omega) (Nat.gcd_dvd_left p q)) (Nat.gcd_pos_of_pos_left q hp))
  omega
/-- one step of the law's loop towards it -/
theorem from_step {f e l x : Nat} (he : 1 ≤ e) (h1 : f ≤ x) (h2 : e ∣ x - f) (h3 : x < l) : f ≤ x + e * max 1 ((l - x) / e) ∧ e ∣ x + e * max 1 ((l - x) / e) - f ∧ x < x + e * max 1 ((l - x) / e) ∧ x + e * max 1 ((l - x) / e) < l + e := by
  have h4 : e * ((l - x) / e) ≤ l - x := Nat.mul_div_le _ _
  have h5 : e * 1 ≤ e * max 1 ((l - x) / e) := Nat.mul_le_mul_left e (Nat.le_max_left _ _)
  have h6 : e * max 1 ((l - x) / e) < l - x + e ∨ e * max 1 ((l - x) / e) ≤ l - x := by
    rcases Nat.le_total 1 ((l - x) / e) with z | z
    · rw [Nat.max_eq_right z]
      exact .inr h4
    · rw [Nat.max_eq_left z]
      left
      omega
  refine ⟨by omega, ?_, by omega, by omega⟩
  rw [show x + e * max 1 ((l - x) / e) - f = (x - f) + e * max 1 ((l - x) / e) by omega]
  exact Nat.dvd_add h2 (Nat.dvd_mul_right e _)
/-! ### the program: too many common ticks -/
section
variable {P : Program} {w : World} {K : PySem.W.Frag} {mg : Str → Option Value} {base : Heap}
def spTimesMany (K : PySem.W.Frag) (CN : Addr) : Sp := fun vs H _ E => ∃ (b a p o q x y f e : Nat) (ql t1 t2 : Addr) (ws : List Bool), vs = [.int (b : Nat), .ref ql, .ref t1, .ref t2, .int (x : Nat), .int (y : Nat)] ∧ 2 ≤ b ∧ b ≤ 64 ∧ SqL K H ql (ws.map lvV) ∧ ws ≠ [] ∧ ws.length ≤ 60 ∧
  H t1 = some (.tup [.int (a : Nat), .int (p : Nat)]) ∧ H t2 = some (.tup [.int (o : Nat), .int (q : Nat)]) ∧ (1 ≤ p ∧ p < 2 ^ 200) ∧ (1 ≤ q ∧ q < 2 ^ 200) ∧ p ≠ q ∧ a < 2 ^ 200 ∧ o < 2 ^ 200 ∧ x ≤ y ∧ y < 2 ^ 240 ∧
  IsMeet a p o q f e ∧ 2000 < meetN (meetM f e x) e y ∧ ∀ H', Same H H' → E (.ref CN) none H'
theorem okX_times_first {f c_TooMany : Addr} {fd : FuncData} (F : Fun K "times_first" "times_first" s_times_first f fd) (T : Tx K mg) (X_TooMany : EC K mg "TooMany" c_TooMany) (hM : MostM mg) (h1 : Has P w K mg base 3 "check_base" ["base"] [] spCheckBase) (h4 : Has P w K mg base 4 "check_levels" ["levels"] [] (spCheckLevels K))
    (h2 : Has P w K mg base 3 "check_tick" ["tick", "least"] [.int 0] spCheckTick) (h7 : Has P w K mg base 3 "check_tick" ["tick", "least"] [] spCheckTick) (h3 : Has P w K mg base 5 "check_two" ["one", "other"] [] spCheckTwo)
    (h5 : Has P w K mg base 2 "meetings" ["one", "other"] [] spMeet) (h6 : Has P w K mg base 4 "is_ahead" ["base", "levels", "one", "other", "tick"] [] (spAhead K)) :
    FnOk P w K mg base (L2.CX P w) 6 f fd ["base", "levels", "one", "other", "first", "behind"] (spTimesMany K c_TooMany) := by
  obtain ⟨tM, g_MOST_MEETINGS⟩ := hM
  obtain ⟨f_check_base, fd_check_base, ds_check_base, G_check_base, m_check_base, k_check_base, b_check_base, v_check_base⟩ := h1
  obtain ⟨f_check_tick1, fd_check_tick1, ds_check_tick1, G_check_tick1, m_check_tick1, k_check_tick1, b_check_tick1, v_check_tick1⟩ := h2
  obtain ⟨f_check_tick, fd_check_tick, ds_check_tick, G_check_tick, m_check_tick, k_check_tick, b_check_tick, v_check_tick⟩ := h7
  obtain ⟨f_check_two, fd_check_two, ds_check_two, G_check_two, m_check_two, k_check_two, b_check_two, v_check_two⟩ := h3
  obtain ⟨f_check_levels, fd_check_levels, ds_check_levels, G_check_levels, m_check_levels, k_check_levels, b_check_levels, v_check_levels⟩ := h4
  obtain ⟨f_meetings, fd_meetings, ds_meetings, G_meetings, m_meetings, k_meetings, b_meetings, v_meetings⟩ := h5
  obtain ⟨f_is_ahead, fd_is_ahead, ds_is_ahead, G_is_ahead, m_is_ahead, k_is_ahead, b_is_ahead, v_is_ahead⟩ := h6
  refine F.okX sc_times_first (fun vs H Q E h => ?_) (fun cdv A outer s H vs Q E hr h => ?_)
  · obtain ⟨b, a, p, o, q, x, y, f, e, ql, t1, t2, ws, rfl, _⟩ := h
    rfl
  · obtain ⟨b, a, p, o, q, x, y, f0, e0, ql, t1, t2, ws, rfl, hb, hb64, hL, hne, h60, e1, e2, ⟨hp, hp2⟩, ⟨hq, hq2⟩, hpq, ha2, ho2, hxy, hy2, hme, hmany, c⟩ := h
    refine ⟨_, (pss_cons (ps_expr (pe_call G_check_base (hr.mono (by decide)) (by rfl) m_check_base k_check_base b_check_base v_check_base pass0 (pa_cons (pv 0) pa_nil)))
      (pss_cons (ps_expr (pe_call G_check_levels (hr.mono (by decide)) (by rfl) m_check_levels k_check_levels b_check_levels v_check_levels pass0 (pa_cons (pv 1) pa_nil)))
      (pss_cons (ps_expr (pe_call G_check_two hr (by rfl) m_check_two k_check_two b_check_two v_check_two pass0 (pa_cons (pv 2) (pa_cons (pv 3) pa_nil))))
      (pss_cons (ps_expr (pe_call G_check_tick1 (hr.mono (by decide)) (by rfl) m_check_tick1 k_check_tick1 b_check_tick1 v_check_tick1 pass0 (pa_cons (pv 4) pa_nil)))
      (pss_cons (ps_expr (pe_call G_check_tick (hr.mono (by decide)) (by rfl) m_check_tick k_check_tick b_check_tick v_check_tick pass0 (pa_cons (pv 5) (pa_cons (pv 4) pa_nil))))
      (pss_cons (ps_set (i := 6) sc_times_first.nd rfl (.inl rfl) (pe_call G_meetings (hr.mono (by decide)) (by rfl) m_meetings k_meetings b_meetings v_meetings pass0 (pa_cons (pv 2) (pa_cons (pv 3) pa_nil))))
      (pss_cons (ps_if (pt_cmpR op_isN (pv 6) pe_non (nomark _))
        (pss_one (ps_ret pe_int))
        pss_nil)
      (pss_cons (ps_asg (pv 6) (pg_tupK (K := K) (n := 2) rfl rfl (pgs_cons (pg_name (i := 7) sc_times_first.nd rfl (.inl rfl)) (pgs_cons (pg_name (i := 8) sc_times_first.nd rfl (.inl rfl)) pgs_nil))))
      (pss_cons (ps_aug (i := 7) sc_times_first.nd rfl (.inl rfl) (pe_op op_mulA (pe_op op_fdivW (pe_callB (call_max2 rfl) (by rfl) T.b_max (by decide +kernel) (pa_cons pe_int (pa_cons (pe_op op_sub (pe_op op_add (pe_op op_sub (pv 4) (pv 7)) (pv 8)) pe_int) pa_nil))) (pv 8)) (pv 8)) ip_add)
      (pss_cons (ps_if (pt_cmpR op_gt (pe_op op_fdivW (pe_callB (call_max2 rfl) (by rfl) T.b_max (by decide +kernel) (pa_cons pe_int (pa_cons (pe_op op_sub (pe_op op_add (pe_op op_sub (pv 5) (pv 7)) (pv 8)) pe_int) pa_nil))) (pv 8)) (pe_glob (v := .int 2000) rfl g_MOST_MEETINGS ⟨_, rfl⟩) (nomark _))
        (pss_one (ps_raise rfl (takes_of rfl rfl rfl rfl) (pmk_own PySem.F.excBase_ValueError X_TooMany.x X_TooMany.g X_TooMany.k (raises_own X_TooMany.b X_TooMany.t) rfl)))
        pss_nil)
      (pss_cons (ps_setLc (i := 9) (own := [("tick", 10)]) (g := gName 10)  rfl sc_times_first.nd rfl rfl (sw_true rfl rfl rfl (by decide +kernel)) (pi_wide3 (by rfl) T.b_range (pa_cons (pv 7) (pa_cons (pv 5) (pa_cons (pv 8) pa_nil)))) (blkOk_by (own := [("tick", 10)]) (N := N_times_first) (sc := defScope s_times_first) (by decide +kernel)) (fun _ _ _ _ _ => (pg_name (i := 10) sc_times_first.nd rfl (.inl rfl))) (fun _ _ _ _ _ => (pts_one (pt_cmpR op_gt (pv 10) (pe_callB (call_max2 rfl) (by rfl) T.b_max (by decide +kernel) (pa_cons (pe_ix (ix_tupK (K := K) rfl) (pv 2) pe_int (fun _ _ => rfl)) (pa_cons (pe_ix (ix_tupK (K := K) rfl) (pv 3) pe_int (fun _ _ => rfl)) pa_nil))) (nomark _)))) (fun _ _ _ _ _ => (pv 10)))
      (pss_one (ps_ret (pe_callB (lenK (K := K) rfl) (by rfl) T.b_len PySem.boot_len (pa_cons (pe_lc (own := [("tick", 10)]) (g := gName 10)  rfl sc_times_first.nd (pi_list (pv 9)) (blkOk_by (own := [("tick", 10)]) (N := N_times_first) (sc := defScope s_times_first) (by decide +kernel)) (fun _ _ _ _ _ => (pg_name (i := 10) sc_times_first.nd rfl (.inl rfl))) (fun _ _ _ _ _ => (pts_one (pt_val (pe_call G_is_ahead (hr.mono (by decide)) (by rfl) m_is_ahead k_is_ahead b_is_ahead v_is_ahead pass0 (pa_cons (pv 0) (pa_cons (pv 1) (pa_cons (pv 2) (pa_cons (pv 3) (pa_cons (pv 10) pa_nil))))))))) (fun _ _ _ _ _ => (pv 10))) pa_nil))))))))))))))), ?_⟩
    refine ⟨_, rfl, b, rfl, by omega, by omega, ?_⟩
    refine ⟨_, rfl, ql, ws, rfl, hL, hne, h60, fun H1 s1 => ?_⟩
    refine ⟨_, rfl, _, rfl, t1, t2, a, p, o, q, rfl, s1 _ _ e1, s1 _ _ e2, hp, hq, hpq, ?_⟩
    refine ⟨_, rfl, x, 0, rfl, by omega, ?_⟩
    refine ⟨_, rfl, _, rfl, y, x, rfl, by omega, ?_⟩
    refine ⟨_, rfl, _, rfl, t1, t2, a, p, o, q, rfl, s1 _ _ e1, s1 _ _ e2, hp, hq, by omega, by omega, by omega, by omega, fun v H2 s2 hv _ => ?_⟩
    have s02 := s1.trans s2
    rcases hv with ⟨hn, rfl⟩ | ⟨hg, tm, f, e, rfl, em, hm⟩
    · obtain ⟨_, c1, c2, c3, c4⟩ := hme
      exact absurd (meet_gcd (by omega) (by omega) c3 c4) hn
    · obtain ⟨rfl, rfl⟩ := meet_same hp hme hm
      refine ⟨_, rfl, rfl, false, rfl, iteF ?_⟩
      obtain ⟨he, c1, c2, c3, c4⟩ := hm
      have he1 : 1 ≤ e := by
        rw [he]
        exact lcm_pos hp hq
      have he2 : e < 2 ^ 400 := by
        have z : p / Nat.gcd p q * q < 2 ^ 400 := by
          have z1 := Nat.mul_lt_mul'' (Nat.lt_of_le_of_lt (Nat.div_le_self p (Nat.gcd p q)) hp2) hq2
          rw [← Nat.pow_add] at z1
          exact z1
        rw [he]
        exact z
      have hf2 : f < 2 ^ 401 := by omega
      refine ⟨.ref tm, rfl, tm, _, rfl, .inl (.inl em), rfl, _, _, rfl, _, _, rfl, rfl, ?_⟩
      have cw : ∀ i : Int, CDivW i (e : Int) := fun i => wide_div (b := 400) (Int.natCast_pos.mpr he1) he2 (by decide) (by decide)
      have hk1 : (x - f + (e - 1)) / e < 2 ^ 402 := Nat.lt_of_le_of_lt (Nat.div_le_self _ _) (by omega)
      refine ⟨_, rfl, _, rfl, _, rfl, (x : Nat), (f : Nat), rfl, rfl, _, rfl, _, (e : Nat), rfl, rfl, _, 1, rfl, rfl, 0, _, rfl, _, rfl, _, (e : Nat), rfl, rfl, cw _, _, rfl, (((x - f + (e - 1)) / e : Nat) : Int), (e : Nat), congrArg V.int (up_int he1), rfl, mul_w 402 402 (by rw [natAbs_cast]; exact hk1) (by rw [natAbs_cast]; omega), (f : Nat), (((x - f + (e - 1)) / e * e : Nat) : Int), rfl, congrArg V.int (cast_mul _ _), ?_⟩
      have hMM : meetM f e x = f + (x - f + (e - 1)) / e * e := rfl
      refine ⟨_, rfl, _, rfl, (y : Nat), ((meetM f e x : Nat) : Int), rfl, rfl, _, rfl, _, (e : Nat), rfl, rfl, _, 1, rfl, rfl, 0, _, rfl, _, rfl, _, (e : Nat), rfl, rfl, cw _, ((meetN (meetM f e x) e y : Nat) : Int), 2000, congrArg V.int (up_int he1), rfl, true, dT (by omega), iteT ?_⟩
      exact c _ s02
end
/-! ### xs.count(y), xs of flat items -/
theorem count_eqU {y : V} : ∀ {ys : List V} {its : List Value}, Vals ys its → ys.all flatV = true → its.countP (eqU y) = ys.countP (fun z => eqV z y)
  | _, _, .nil, _ => rfl
  | z :: ys, u :: its, .cons r rs, f => by
    rw [List.all_cons, Bool.and_eq_true] at f
    rw [List.countP_cons, List.countP_cons, count_eqU rs f.2, eqU_of r f.1]
def rCntF (K : PySem.W.Frag) : V → List V → Hp → VK → Prop := fun x xs H Q => ∃ (p : Addr) (ys : List V) (y : V), x = .ref p ∧ xs = [y] ∧ SqL K H p ys ∧ flatV y = true ∧ ys.all flatV = true ∧ Q (.int (ys.countP (fun z => eqV z y) : Nat)) H
section
variable {X : Cx} {K : PySem.W.Frag}
theorem mt_lcountF (e : X.K = K) : MtR X "list.count" (rCntF K) := by
  subst e
  intro pins s σ H x xs v us Q I rx rxs h
  obtain ⟨p, ys, y, rfl, rfl, hs, fy, fys, q⟩ := h
  cases rx
  cases rxs with
  | cons ry rt =>
    rename_i uy ut
    cases rt
    obtain ⟨its, rv, ⟨⟨cls, dd, data, sl⟩, n, ho, hc, hdn, hd⟩, hlen⟩ := I.list hs
    simp only at hc hd
    subst hc hd
    refine call_meets PySem.F.slot_list_count ⟨_, ho, rfl⟩ PySem.F.entry_list_count (PySem.F.args_list_count_2 _ _)
      (SeqAt.list_countAt p its.toArray n dd sl uy (eqU y)) ⟨ho, fun u' hu' => mem_eqAt ry fy rv fys u' (by simpa using hu'), ?_⟩
    have ec : its.toArray.toList.countP (eqU y) = ys.countP (fun z => eqV z y) := count_eqU rv fys
    refine ⟨.int (ys.countP (fun z => eqV z y) : Nat), H, I.tok _, ⟨s.toks, ?_⟩, q⟩
    show Value.int ((its.toArray.toList.countP (eqU y) : Nat) : Int) s.toks = Value.int ((ys.countP (fun z => eqV z y) : Nat) : Int) s.toks
    rw [ec]
theorem mt_indexK (e : X.K = K) : MtR X "list.index" (rIndex K) := by subst e; exact mt_index
end
/-! ### the word for what a call does: one class of errors of eight -/
def trySuite : List Stmt → List Stmt
  | .Try _ [.ExceptHandler _ _ b _] _ _ _ :: _ => b
  | _ => []
/-- an error of the class N is one of the j-th of the classes cs, and of no other -/
structure Kind8 (K : PySem.W.Frag) (N : Addr) (cs : List Addr) (j : Nat) : Prop where
  ec : ExcC K N
  ve : PySem.W.kitOne K (.ref N) (.type "ValueError") = some true
  lt : j < 8
  at_ : ∀ i c, cs[i]? = some c → PySem.W.kitOne K (.ref N) (.ref c) = some (decide (i = j))
def marks8 (j : Nat) : List V := ([.bl (decide (0 = j)), .bl (decide (1 = j)), .bl (decide (2 = j)), .bl (decide (3 = j))] ++ [.bl (decide (4 = j)), .bl (decide (5 = j)), .bl (decide (6 = j))]) ++ [.bl (decide (7 = j))]
theorem marks_count {j : Nat} (h : j < 8) : (marks8 j).countP (fun z => eqV z (.bl true)) = 1 := by
  have z : j = 0 ∨ j = 1 ∨ j = 2 ∨ j = 3 ∨ j = 4 ∨ j = 5 ∨ j = 6 ∨ j = 7 := by omega
  rcases z with rfl | rfl | rfl | rfl | rfl | rfl | rfl | rfl <;> rfl
theorem marks_at {j : Nat} (h : j < 8) : (marks8 j)[j]? = some (.bl true) := by
  have z : j = 0 ∨ j = 1 ∨ j = 2 ∨ j = 3 ∨ j = 4 ∨ j = 5 ∨ j = 6 ∨ j = 7 := by omega
  rcases z with rfl | rfl | rfl | rfl | rfl | rfl | rfl | rfl <;> rfl
theorem marks_no {j : Nat} (h : j < 8) (m : Nat) (z' : V) (hm : m < j) (hz : (marks8 j)[m]? = some z') : eqV z' (.bl true) = false := by
  have e : (marks8 j)[m]? = some (.bl (decide (m = j))) := by
    have z : m = 0 ∨ m = 1 ∨ m = 2 ∨ m = 3 ∨ m = 4 ∨ m = 5 ∨ m = 6 := by omega
    rcases z with rfl | rfl | rfl | rfl | rfl | rfl | rfl <;> rfl
  rw [e, decide_eq_false (by omega)] at hz
  cases hz
  rfl
theorem marks_flat (j : Nat) : (marks8 j).all flatV = true := rfl
theorem pss_imp {X : Cx} {st : List Stmt} {t' : TS} (h : ∃ t, PSs X st t ∧ ∀ D σ H, t' D σ H → t D σ H) : PSs X st t' := by
  obtain ⟨t, hp, hi⟩ := h
  exact ⟨fun pins s σ H D I q => hp.run pins s σ H D I (hi D σ H q)⟩
/-! ### laws k24, k34, k36: the word for what a call does -/
def words24 : List V := [.str "base", .str "levels", .str "tick", .str "period", .str "timer", .str "order", .str "sighting", .str "many"]
section
variable {P : Program} {w : World} {K : PySem.W.Frag} {mg : Str → Option Value} {base : Heap}
/-- what the suite wants: e is an error of the class N, the j-th -/
def tWord8 (K : PySem.W.Frag) (cs : List Addr) (a : Addr) (cls : Value) (d : Option Addr) : TS := fun D σ H => ∃ (N : Addr) (j : Nat) (x : Str) (v0 v2 : Option V), cls = .ref N ∧ d = none ∧ σ = [v0, some (.ref a), v2] ∧ Kind8 K N cs j ∧ words24[j]? = some (.str x) ∧ ∀ H', Same H H' → D.rt (.str x) H'
theorem word_suite {f c_NoBase c_NoLevels c_NoTick c_NoOrder c_NoPeriod c_NoSighting c_NoTimer c_TooMany a : Addr} {cdv cls : Value} {A : Around} {outer : List Env} {s : Shared} {H : Hp} {E : XK} {d : Option Addr} {oe : Obj} {pn : List (Addr × Obj)} (T : Tx K mg)
    (X_NoBase : EG mg "NoBase" c_NoBase) (X_NoLevels : EG mg "NoLevels" c_NoLevels) (X_NoTick : EG mg "NoTick" c_NoTick) (X_NoOrder : EG mg "NoOrder" c_NoOrder) (X_NoPeriod : EG mg "NoPeriod" c_NoPeriod) (X_NoSighting : EG mg "NoSighting" c_NoSighting) (X_NoTimer : EG mg "NoTimer" c_NoTimer) (X_TooMany : EG mg "TooMany" c_TooMany)
    (hz : Zc cls d oe) (hf : ∃ vs, oe.data = .fields vs) : PSs ((cxOf CX0 P w K mg base N__law_word (Str.ofString "_law_word") (defScope s__law_word) f cdv A outer s H E).nox.suite a ((a, oe) :: pn)) (trySuite (defBody s__law_word)) (tWord8 K [c_NoBase, c_NoLevels, c_NoTick, c_NoPeriod, c_NoTimer, c_NoOrder, c_NoSighting, c_TooMany] a cls d) := by
  refine pss_imp ⟨_, (pss_cons (ps_set (i := 2) sc__law_word.nd rfl (.inl rfl) (pe_lst (pa_cons (pe_callB (isiE hz hf) (by rfl) T.b_isinstance (by decide +kernel) (pa_cons (pv 1) (pa_cons (pe_glob (v := .ref c_NoBase) rfl X_NoBase.g rfl) pa_nil))) (pa_cons (pe_callB (isiE hz hf) (by rfl) T.b_isinstance (by decide +kernel) (pa_cons (pv 1) (pa_cons (pe_glob (v := .ref c_NoLevels) rfl X_NoLevels.g rfl) pa_nil))) (pa_cons (pe_callB (isiE hz hf) (by rfl) T.b_isinstance (by decide +kernel) (pa_cons (pv 1) (pa_cons (pe_glob (v := .ref c_NoTick) rfl X_NoTick.g rfl) pa_nil))) (pa_cons (pe_callB (isiE hz hf) (by rfl) T.b_isinstance (by decide +kernel) (pa_cons (pv 1) (pa_cons (pe_glob (v := .ref c_NoPeriod) rfl X_NoPeriod.g rfl) pa_nil))) pa_nil))))))
      (pss_cons (ps_set (i := 2) sc__law_word.nd rfl (.inl rfl) (pe_op op_cat (pv 2) (pe_lst (pa_cons (pe_callB (isiE hz hf) (by rfl) T.b_isinstance (by decide +kernel) (pa_cons (pv 1) (pa_cons (pe_glob (v := .ref c_NoTimer) rfl X_NoTimer.g rfl) pa_nil))) (pa_cons (pe_callB (isiE hz hf) (by rfl) T.b_isinstance (by decide +kernel) (pa_cons (pv 1) (pa_cons (pe_glob (v := .ref c_NoOrder) rfl X_NoOrder.g rfl) pa_nil))) (pa_cons (pe_callB (isiE hz hf) (by rfl) T.b_isinstance (by decide +kernel) (pa_cons (pv 1) (pa_cons (pe_glob (v := .ref c_NoSighting) rfl X_NoSighting.g rfl) pa_nil))) pa_nil))))))
      (pss_cons (ps_expr (pe_bm PySem.F.plainAttrs_list PySem.F.slot_list_append PySem.F.type_list_append mt_append (pv 2) (pa_cons (pe_callB (isiE hz hf) (by rfl) T.b_isinstance (by decide +kernel) (pa_cons (pv 1) (pa_cons (pe_glob (v := .ref c_TooMany) rfl X_TooMany.g rfl) pa_nil))) pa_nil)))
      (pss_cons (ps_if (PW.pt (pw_or (pt_cmpR op_ne (pe_bm PySem.F.plainAttrs_list PySem.F.slot_list_count PySem.F.type_list_count (mt_lcountF (K := K) rfl) (pv 2) (pa_cons pe_bl pa_nil)) pe_int (nomark _)) (pw_or1 (pt_not (pt_val (pe_callB (isiE hz hf) (by rfl) T.b_isinstance (by decide +kernel) (pa_cons (pv 1) (pa_cons (pe_bltn (v := .ty "ValueError") (u := .type "ValueError") (by rfl) T.b_ValueError (by decide +kernel) rfl) pa_nil))))))))
        (pss_one (ps_ret pe_str))
        pss_nil)
      (pss_one (ps_ret (pe_ix (ix_listK (K := K) rfl) (pe_lst (pa_cons pe_str (pa_cons pe_str (pa_cons pe_str (pa_cons pe_str (pa_cons pe_str (pa_cons pe_str (pa_cons pe_str (pa_cons pe_str pa_nil))))))))) (pe_bm PySem.F.plainAttrs_list PySem.F.slot_list_index PySem.F.type_list_index (mt_indexK (K := K) rfl) (pv 2) (pa_cons pe_bl pa_nil)) (fun _ _ => rfl)))))))), fun D σ H' h => ?_⟩
  obtain ⟨N, j, x, v0, v2, rfl, rfl, rfl, ⟨hC, ve, hj, at_⟩, hx, c⟩ := h
  have n0 := at_ 0 _ rfl
  have n1 := at_ 1 _ rfl
  have n2 := at_ 2 _ rfl
  have n3 := at_ 3 _ rfl
  have n4 := at_ 4 _ rfl
  have n5 := at_ 5 _ rfl
  have n6 := at_ 6 _ rfl
  have n7 := at_ 7 _ rfl
  refine ⟨_, rfl, N, rfl, rfl, hC, _, _, _, rfl, fun _ h => h, n0, _, rfl, N, rfl, rfl, hC, _, _, _, rfl, fun _ h => h, n1, _, rfl, N, rfl, rfl, hC, _, _, _, rfl, fun _ h => h, n2, _, rfl, N, rfl, rfl, hC, _, _, _, rfl, fun _ h => h, n3, by simp [sizeLine_eq], fun m1 hm1 => ?_⟩
  refine ⟨_, rfl, _, rfl, N, rfl, rfl, hC, _, _, _, rfl, fun _ h => h, n4, _, rfl, N, rfl, rfl, hC, _, _, _, rfl, fun _ h => h, n5, _, rfl, N, rfl, rfl, hC, _, _, _, rfl, fun _ h => h, n6, by simp [sizeLine_eq], fun m2 hm2 => ?_⟩
  have s1 := same_upd (o := .lst [.bl (decide (0 = j)), .bl (decide (1 = j)), .bl (decide (2 = j)), .bl (decide (3 = j))]) hm1
  have s2 := s1.trans (same_upd (o := .lst [.bl (decide (4 = j)), .bl (decide (5 = j)), .bl (decide (6 = j))]) hm2)
  refine ⟨m1, m2, _, _, rfl, rfl, (same_upd hm2) _ _ upd_same, upd_same, by simp [sizeLine_eq], fun m3 hm3 => ?_⟩
  generalize hH3 : upd (upd H' m1 _) m2 _ = H3 at s2 hm3 ⊢
  clear hH3
  refine ⟨_, rfl, .inl ⟨rfl, _, .inl (.inl upd_same)⟩, _, rfl, N, rfl, rfl, hC, _, _, _, rfl, fun _ h => h, n7, m3, _, _, rfl, rfl, upd_same, by simp [sizeLine_eq], ?_⟩
  have s4 : Same H' (upd (upd H3 m3 (.lst ([.bl (decide (0 = j)), .bl (decide (1 = j)), .bl (decide (2 = j)), .bl (decide (3 = j))] ++ [.bl (decide (4 = j)), .bl (decide (5 = j)), .bl (decide (6 = j))]))) m3 (.lst (([.bl (decide (0 = j)), .bl (decide (1 = j)), .bl (decide (2 = j)), .bl (decide (3 = j))] ++ [.bl (decide (4 = j)), .bl (decide (5 = j)), .bl (decide (6 = j))]) ++ [.bl (decide (7 = j))]))) := fun p o e => by
    rw [upd_ne (ne_of_none (s2 _ _ e) hm3), upd_ne (ne_of_none (s2 _ _ e) hm3)]
    exact s2 _ _ e
  have e4 : (upd (upd H3 m3 (.lst ([.bl (decide (0 = j)), .bl (decide (1 = j)), .bl (decide (2 = j)), .bl (decide (3 = j))] ++ [.bl (decide (4 = j)), .bl (decide (5 = j)), .bl (decide (6 = j))]))) m3 (.lst (([.bl (decide (0 = j)), .bl (decide (1 = j)), .bl (decide (2 = j)), .bl (decide (3 = j))] ++ [.bl (decide (4 = j)), .bl (decide (5 = j)), .bl (decide (6 = j))]) ++ [.bl (decide (7 = j))]))) m3 = some (.lst (marks8 j)) := upd_same
  generalize upd (upd H3 m3 (.lst ([.bl (decide (0 = j)), .bl (decide (1 = j)), .bl (decide (2 = j)), .bl (decide (3 = j))] ++ [.bl (decide (4 = j)), .bl (decide (5 = j)), .bl (decide (6 = j))]))) m3 (.lst (([.bl (decide (0 = j)), .bl (decide (1 = j)), .bl (decide (2 = j)), .bl (decide (3 = j))] ++ [.bl (decide (4 = j)), .bl (decide (5 = j)), .bl (decide (6 = j))]) ++ [.bl (decide (7 = j))])) = H4 at s4 e4 ⊢
  refine ⟨_, rfl, .inl ⟨rfl, _, SqL.of e4⟩, m3, _, _, rfl, rfl, SqL.of e4, rfl, marks_flat j, rfl, false, nF (congrArg (fun z : Nat => V.int (z : Nat)) (marks_count hj)), iteF ?_⟩
  refine ⟨_, rfl, N, rfl, rfl, hC, .ty "ValueError", .type "ValueError", true, rfl, fun _ h => h, ve, true, rfl, iteF ?_⟩
  refine ⟨by simp [sizeLine_eq], fun m6 hm6 => ?_⟩
  have s6 := same_upd (o := .lst words24) hm6
  refine ⟨_, rfl, .inl ⟨rfl, _, SqL.of (s6 _ _ e4)⟩, m3, _, _, j, _, rfl, rfl, SqL.of (s6 _ _ e4), rfl, marks_flat j, marks_at hj, rfl, marks_no hj, ?_⟩
  exact ⟨m6, words24, j, _, rfl, rfl, SqL.of upd_same, atI_nat hx, c _ (s4.trans s6)⟩
end
/-! ### the word for what a lambda does -/
section
variable {X : Cx}
theorem takes_len {W : WX} (tk : Takes X W) : Takes X (fun cls d σ H => σ.length = X.N.length → W cls d σ H) := fun u s' x => by
  obtain ⟨a, B, sI, pins, σ, H, cls, d, e, J, nb, up, sky, na, os, ag, hw⟩ := x
  exact tk u s' ⟨a, B, sI, pins, σ, H, cls, d, e, J, nb, up, sky, na, os, ag, hw J.len⟩
/-- told, or the word of the error's class -/
def TTw (K : PySem.W.Frag) (cs : List Addr) (CT : Addr) : (XK → Hp → VK → Prop) → Hp → VK → Prop := fun tl H Q =>
  tl (fun cls d H' => ∃ (N : Addr) (j : Nat) (x : Str), cls = .ref N ∧ d = none ∧ PySem.W.exmOne K (.ref N) (.ref CT) = some true ∧ Kind8 K N cs j ∧ words24[j]? = some (.str x) ∧ ∀ H'', Same H' H'' → Q (.str x) H'') H fun _ H' => Q (.str "told") H'
theorem word_gives {g CT c_NoBase c_NoLevels c_NoTick c_NoOrder c_NoPeriod c_NoSighting c_NoTimer c_TooMany : Addr} {cdg : Value} {q : Str} (T : Tx X.K X.mg) (XT : EG X.mg "TimerError" CT)
    (X_NoBase : EG X.mg "NoBase" c_NoBase) (X_NoLevels : EG X.mg "NoLevels" c_NoLevels) (X_NoTick : EG X.mg "NoTick" c_NoTick) (X_NoOrder : EG X.mg "NoOrder" c_NoOrder) (X_NoPeriod : EG X.mg "NoPeriod" c_NoPeriod) (X_NoSighting : EG X.mg "NoSighting" c_NoSighting) (X_NoTimer : EG X.mg "NoTimer" c_NoTimer) (X_TooMany : EG X.mg "TooMany" c_TooMany) :
    LamX.GivesTo X N__law_word "_law_word" (defScope s__law_word) g cdg (defBody s__law_word) "_law_ask" q (TTw X.K [c_NoBase, c_NoLevels, c_NoTick, c_NoPeriod, c_NoTimer, c_NoOrder, c_NoSighting, c_TooMany] CT) := by
  intro f c' s H Q tl act hc h
  refine ⟨_, pss_cons (ps_try_as (X := (cxOf C8.CX0 X.prog X.w X.K X.mg X.base N__law_word "_law_word" (defScope s__law_word) g cdg X.A X.stack s H C8.E0).nox) (i := 1)
    (tb := fun W D σ H => ∃ Ech : XK, (∀ cls d σ' H', Ech cls d H' → σ'.length = N__law_word.length → W cls d σ' H') ∧ σ[0]? = some (some (.ref f)) ∧ H c' = some (LamX.CodeO c' q) ∧ tl Ech H fun _ H1 => D.nx σ H1)
    rfl rfl sc__law_word.nd rfl rfl ⟨rfl, by decide, .inl XT.g⟩ takes0 (fun W pn xe tk _ => ?_) (fun a oe cls d pn hz hf => word_suite T X_NoBase X_NoLevels X_NoTick X_NoOrder X_NoPeriod X_NoSighting X_NoTimer X_TooMany hz hf)) (pss_one (ps_ret pe_str)), ?_⟩
  · refine ⟨fun pins s' σ H' D I h' => ?_⟩
    obtain ⟨Ech, hW, h1, h2, h3⟩ := h'
    exact (pss_one (ps_expr (act _ pn xe Ech _ _ (takes_len tk) hW))).run pins s' σ H' D I ⟨h1, h2, h3⟩
  · refine ⟨_, fun cls d σ' H' hE hl => ?_, rfl, hc, h⟩
    obtain ⟨N, j, x, rfl, rfl, hx, kd, hw, q⟩ := hE
    refine ⟨true, hx, fun _ a _ => ?_, fun z => nomatch z⟩
    obtain ⟨v0, v1, v2, rfl⟩ : ∃ v0 v1 v2, σ' = [v0, v1, v2] := by
      match σ', hl with
      | [v0, v1, v2], _ => exact ⟨v0, v1, v2, rfl⟩
    exact ⟨N, j, x, v0, v2, rfl, rfl, rfl, kd, hw, q⟩
end
/-! ### the law's drawing of numbers -/
def SrcAt (H : Hp) (p : Addr) : Prop := ∃ a b c : Int, H p = some (.lst [.int a, .int b, .int c])
/-- all but the source p stands as it was; p is a source again -/
structure Stp (p : Addr) (H H' : Hp) : Prop where
  keep : ∀ q o, q ≠ p → H q = some o → H' q = some o
  src : SrcAt H' p
theorem Stp.refl {p : Addr} {H : Hp} (h : SrcAt H p) : Stp p H H := ⟨fun _ _ _ e => e, h⟩
theorem Stp.trans {p : Addr} {H H1 H2 : Hp} (a : Stp p H H1) (b : Stp p H1 H2) : Stp p H H2 := ⟨fun q o n e => b.keep q o n (a.keep q o n e), b.src⟩
theorem Stp.same {p : Addr} {H H1 H2 : Hp} (a : Stp p H H1) (b : Same H1 H2) : Stp p H H2 := by
  obtain ⟨x, y, z, e⟩ := a.src
  exact ⟨fun q o n e => b q o (a.keep q o n e), ⟨x, y, z, b _ _ e⟩⟩
theorem SrcAt.same {p : Addr} {H H' : Hp} (h : SrcAt H p) (s : Same H H') : SrcAt H' p := by
  obtain ⟨a, b, c, e⟩ := h
  exact ⟨a, b, c, s _ _ e⟩
theorem Stp.free {p q : Addr} {H H' : Hp} (a : Stp p H H') (hq : H' q = none) : H q = none := by
  cases e : H q with
  | none => rfl
  | some o =>
    by_cases z : q = p
    · obtain ⟨x, y, u, w⟩ := a.src
      rw [z, w] at hq
      cases hq
    · rw [a.keep q o z e] at hq
      cases hq
theorem SrcAt.ne {H : Hp} {p l : Addr} (h : SrcAt H p) (hl : H l = none) : l ≠ p := fun e => by
  obtain ⟨x, y, z, w⟩ := h
  rw [e, w] at hl
  cases hl
theorem SrcAt.stp_same {p : Addr} {H H' : Hp} (h : SrcAt H p) (s : Same H H') : Stp p H H' := (Stp.refl h).same s
theorem Stp.seqL {K : PySem.W.Frag} {p a : Addr} {xs : List V} {H H' : Hp} (s : Stp p H H') (n : a ≠ p) (h : SqL K H a xs) : SqL K H' a xs := by
  rcases h with (h | ⟨o, h⟩) | h
  · exact .inl (.inl (s.keep _ _ n h))
  · exact .inl (.inr ⟨o, s.keep _ _ n h⟩)
  · exact .inr h
section
variable {P : Program} {w : World} {K : PySem.W.Frag} {mg : Str → Option Value} {base : Heap}
def spCellAt (K : PySem.W.Frag) : Sp := fun vs H Q _ => ∃ (a : Addr) (ns : List Int) (k : Nat), vs = [.ref a, .int (k : Nat)] ∧ SqL K H a (ns.map V.int) ∧ ∀ v : Int, Q (.int v) H
theorem ok_cell_at {f : Addr} {fd : FuncData} (F : Fun K "_law_cell_at" "_law_cell_at" s__law_cell_at f fd) (T : Tx K mg) : FnOk P w K mg base CX0 1 f fd ["_law_script", "_law_k"] (spCellAt K) := by
  refine F.ok sc__law_cell_at (fun vs H Q E h => ?_) (fun cdv A outer s H vs Q E hr h => ?_)
  · obtain ⟨a, ns, k, rfl, _⟩ := h
    rfl
  · obtain ⟨a, ns, k, rfl, hS, q⟩ := h
    refine ⟨_, (pss_cons (ps_if (pt_cmpR op_lt (pv 1) (pe_callB (lenK (K := K) rfl) (by rfl) T.b_len PySem.boot_len (pa_cons (pv 0) pa_nil)) (nomark _))
        (pss_one (ps_ret (pe_ix (ix_listK (K := K) rfl) (pv 0) (pv 1) (fun _ _ => rfl))))
        pss_nil)
      (pss_one (ps_ret pe_int))), ?_⟩
    refine ⟨_, rfl, .ref a, rfl, a, ns.map V.int, rfl, .inl hS, _, _, rfl, rfl, _, rfl, ite2 (fun e => ?_) (fun e => ?_)⟩
    · have hk : k < ns.length := by
        have z := of_decide_eq_true e
        rw [List.length_map] at z
        omega
      have g : (ns.map V.int)[k]? = some (.int ns[k]) := by
        rw [List.getElem?_map, List.getElem?_eq_getElem hk]
        rfl
      exact ⟨.ref a, rfl, _, rfl, a, _, _, _, rfl, rfl, hS, atI_nat g, q _⟩
    · exact q 0
def spMixed : Sp := fun vs H Q _ => ∃ c k : Int, vs = [.int c, .int k] ∧ ∀ r : Int, 0 ≤ r → r < 2147483563 → Q (.int r) H
theorem ok_mixed {f : Addr} {fd : FuncData} (F : Fun K "_law_mixed" "_law_mixed" s__law_mixed f fd) : FnOk P w K mg base CX0 1 f fd ["_law_cell", "_law_k"] spMixed := by
  refine F.ok sc__law_mixed (fun vs H Q E h => ?_) (fun cdv A outer s H vs Q E hr h => ?_)
  · obtain ⟨c, k, rfl, _⟩ := h
    rfl
  · obtain ⟨c, k, rfl, q⟩ := h
    refine ⟨_, (pss_cons (ps_set (i := 2) sc__law_mixed.nd rfl (.inl rfl) (pe_op op_add (pe_op op_mod (pv 0) pe_int) (pe_op op_mulA (pe_op op_fdivW (pv 0) pe_int) pe_int)))
      (pss_cons (ps_set (i := 2) sc__law_mixed.nd rfl (.inl rfl) (pe_op op_mod (pe_op op_mulA (pe_op op_add (pe_op op_add (pv 2) (pe_op op_mulA pe_int (pv 1))) pe_int) pe_int) pe_int))
      (pss_cons (ps_set (i := 2) sc__law_mixed.nd rfl (.inl rfl) (pe_op op_mod (pe_op op_mulA (pv 2) (pe_op op_add (pe_op op_add (pe_op op_fdivW (pv 2) pe_int) pe_int) (pv 1))) pe_int))
      (pss_one (ps_ret (pe_op op_mod (pe_op op_mulA (pv 2) (pe_op op_add (pe_op op_fdivW (pv 2) pe_int) pe_int)) pe_int)))))), ?_⟩
    refine ⟨_, rfl, c, 2147483629, rfl, rfl, (by decide : (0 : Int) < 2147483629), _, rfl, c, 2147483629, rfl, rfl, div_s (by decide) (by decide), _, 30011, rfl, rfl, mul_r (by decide) (by decide), _, _, rfl, rfl, ?_⟩
    refine ⟨_, rfl, _, rfl, 69621, k, rfl, rfl, mul_l (by decide) (by decide), _, _, rfl, rfl, _, 1, rfl, rfl, _, 48271, rfl, rfl, mul_r (by decide) (by decide), _, 2147483629, rfl, rfl, (by decide : (0 : Int) < 2147483629), ?_⟩
    generalize hl : (c % 2147483629 + c / 2147483629 * 30011 + 69621 * k + 1) * 48271 = l0
    have b1 : 0 ≤ l0 % 2147483629 := Int.emod_nonneg _ (by decide)
    have b2 : l0 % 2147483629 < 2147483629 := Int.emod_lt_of_pos _ (by decide)
    refine ⟨_, rfl, _, rfl, l0 % 2147483629, 907, rfl, rfl, div_s (by decide) (by decide), _, 16831, rfl, rfl, _, rfl, _, k, rfl, rfl, l0 % 2147483629, _, rfl, rfl, mul_l (by omega) (by omega), _, 2147483587, rfl, rfl, (by decide : (0 : Int) < 2147483587), ?_⟩
    generalize (l0 % 2147483629) * (l0 % 2147483629 / 907 + 16831 + k) = l1
    have b3 : 0 ≤ l1 % 2147483587 := Int.emod_nonneg _ (by decide)
    have b4 : l1 % 2147483587 < 2147483587 := Int.emod_lt_of_pos _ (by decide)
    refine ⟨_, rfl, _, rfl, _, 1201, rfl, rfl, div_s (by decide) (by decide), _, 30011, rfl, rfl, _, _, rfl, rfl, mul_l (i := l1 % 2147483587) (by omega) (by omega), _, 2147483563, rfl, rfl, (by decide : (0 : Int) < 2147483563), ?_⟩
    exact q _ (Int.emod_nonneg _ (by decide)) (Int.emod_lt_of_pos _ (by decide))
def spSource (K : PySem.W.Frag) : Sp := fun vs H Q _ => ∃ (a : Addr) (ns : List Int) (k : Nat), vs = [.ref a, .int (k : Nat)] ∧ SqL K H a (ns.map V.int) ∧ ∀ H' p, Same H H' → H p = none → SrcAt H' p → Q (.ref p) H'
theorem ok_source {f : Addr} {fd : FuncData} (F : Fun K "_law_source" "_law_source" s__law_source f fd) (T : Tx K mg) (h1 : Has P w K mg base 1 "_law_cell_at" ["_law_script", "_law_k"] [] (spCellAt K))
    (h2 : Has P w K mg base 1 "_law_mixed" ["_law_cell", "_law_k"] [] spMixed) : FnOk P w K mg base CX0 2 f fd ["_law_script", "_law_k"] (spSource K) := by
  obtain ⟨f__law_cell_at, fd__law_cell_at, ds__law_cell_at, G__law_cell_at, m__law_cell_at, k__law_cell_at, b__law_cell_at, v__law_cell_at⟩ := h1
  obtain ⟨f__law_mixed, fd__law_mixed, ds__law_mixed, G__law_mixed, m__law_mixed, k__law_mixed, b__law_mixed, v__law_mixed⟩ := h2
  refine F.ok sc__law_source (fun vs H Q E h => ?_) (fun cdv A outer s H vs Q E hr h => ?_)
  · obtain ⟨a, ns, k, rfl, _⟩ := h
    rfl
  · obtain ⟨a, ns, k, rfl, hS, q⟩ := h
    refine ⟨_, (pss_cons (ps_if (pt_cmpR op_lt (pv 1) (pe_callB (lenK (K := K) rfl) (by rfl) T.b_len PySem.boot_len (pa_cons (pv 0) pa_nil)) (nomark _))
        (pss_one (ps_ret (pe_lst (pa_cons (pe_ix (ix_listK (K := K) rfl) (pv 0) (pv 1) (fun _ _ => rfl)) (pa_cons (pe_ix (ix_listK (K := K) rfl) (pv 0) (pv 1) (fun _ _ => rfl)) (pa_cons pe_int pa_nil))))))
        pss_nil)
      (pss_cons (ps_set (i := 2) sc__law_source.nd rfl (.inl rfl) (pe_call G__law_mixed hr (by rfl) m__law_mixed k__law_mixed b__law_mixed v__law_mixed pass0 (pa_cons (pe_call G__law_cell_at hr (by rfl) m__law_cell_at k__law_cell_at b__law_cell_at v__law_cell_at pass0 (pa_cons (pv 0) (pa_cons pe_int pa_nil))) (pa_cons (pe_op op_add pe_int (pv 1)) pa_nil))))
      (pss_one (ps_ret (pe_lst (pa_cons (pv 2) (pa_cons (pv 2) (pa_cons pe_int pa_nil)))))))), ?_⟩
    refine ⟨_, rfl, .ref a, rfl, a, ns.map V.int, rfl, .inl hS, _, _, rfl, rfl, _, rfl, ite2 (fun e => ?_) (fun e => ?_)⟩
    · have hk : k < ns.length := by
        have z := of_decide_eq_true e
        rw [List.length_map] at z
        omega
      have g : (ns.map V.int)[k]? = some (.int ns[k]) := by
        rw [List.getElem?_map, List.getElem?_eq_getElem hk]
        rfl
      refine ⟨.ref a, rfl, _, rfl, a, _, _, _, rfl, rfl, hS, atI_nat g, .ref a, rfl, _, rfl, a, _, _, _, rfl, rfl, hS, atI_nat g, by simp [sizeLine_eq], fun p hp => ?_⟩
      exact q _ p (same_upd hp) hp ⟨_, _, _, upd_same⟩
    · refine ⟨.ref a, rfl, a, ns, 0, rfl, hS, fun v => ⟨_, rfl, 1000, _, rfl, rfl, v, _, rfl, fun r _ _ => ?_⟩⟩
      refine ⟨_, rfl, _, rfl, by simp [sizeLine_eq], fun p hp => ?_⟩
      exact q _ p (same_upd hp) hp ⟨_, _, _, upd_same⟩
def spNext : Sp := fun vs H Q _ => ∃ (p : Addr) (m : Int), vs = [.ref p, .int m] ∧ 0 < m ∧ m < 2 ^ 300 ∧ SrcAt H p ∧ ∀ (r : Nat) H', (r : Int) < m → Stp p H H' → Q (.int (r : Nat)) H'
theorem ok_next {f : Addr} {fd : FuncData} (F : Fun K "_law_next" "_law_next" s__law_next f fd) (h2 : Has P w K mg base 1 "_law_mixed" ["_law_cell", "_law_k"] [] spMixed) : FnOk P w K mg base CX0 2 f fd ["_law_source_here", "_law_many"] spNext := by
  obtain ⟨f__law_mixed, fd__law_mixed, ds__law_mixed, G__law_mixed, m__law_mixed, k__law_mixed, b__law_mixed, v__law_mixed⟩ := h2
  refine F.ok sc__law_next (fun vs H Q E h => ?_) (fun cdv A outer s H vs Q E hr h => ?_)
  · obtain ⟨p, m, rfl, _⟩ := h
    rfl
  · obtain ⟨p, m, rfl, hm, hm2, ⟨a, b, c, hp⟩, q⟩ := h
    have fin : ∀ (x : Int) (H' : Hp), Stp p H H' → Q (.int (x % m)) H' := fun x H' s => by
      have h0 : 0 ≤ x % m := Int.emod_nonneg _ (by omega)
      have h1 : x % m < m := Int.emod_lt_of_pos _ hm
      have e : ((x % m).toNat : Int) = x % m := Int.toNat_of_nonneg h0
      have z := q (x % m).toNat H' (by omega) s
      rw [e] at z
      exact z
    have st : ∀ x y z : Int, Stp p H (upd H p (.lst [.int x, .int y, .int z])) := fun x y z => ⟨fun q o n e => by rw [upd_ne n]; exact e, ⟨x, y, z, upd_same⟩⟩
    refine ⟨_, (pss_cons (ps_if (pt_cmpR op_ge (pe_ix (ix_listK (K := K) rfl) (pv 0) pe_int (fun _ _ => rfl)) (pe_op op_pow pe_int pe_int) (nomark _))
        (pss_cons (ps_set (i := 2) sc__law_next.nd rfl (.inl rfl) (pe_op op_mod (pe_ix (ix_listK (K := K) rfl) (pv 0) pe_int (fun _ _ => rfl)) (pv 1)))
        (pss_cons (ps_asg (pe_op op_fdivW (pe_ix (ix_listK (K := K) rfl) (pv 0) pe_int (fun _ _ => rfl)) (pv 1)) (pg_sub (pv 0) pe_int set_list))
        (pss_one (ps_ret (pv 2)))))
        pss_nil)
      (pss_cons (ps_asg (pe_op op_add (pe_ix (ix_listK (K := K) rfl) (pv 0) pe_int (fun _ _ => rfl)) pe_int) (pg_sub (pv 0) pe_int set_list))
      (pss_one (ps_ret (pe_op op_mod (pe_call G__law_mixed hr (by rfl) m__law_mixed k__law_mixed b__law_mixed v__law_mixed pass0 (pa_cons (pe_ix (ix_listK (K := K) rfl) (pv 0) pe_int (fun _ _ => rfl)) (pa_cons (pe_ix (ix_listK (K := K) rfl) (pv 0) pe_int (fun _ _ => rfl)) pa_nil))) (pv 1)))))), ?_⟩
    refine ⟨.ref p, rfl, p, _, 0, .int a, rfl, rfl, SqL.of hp, atI_nat (j := 0) rfl, 10, 18, rfl, rfl, ⟨by decide, by decide, by decide⟩, a, _, rfl, rfl, _, rfl, ite2 (fun _ => ?_) (fun _ => ?_)⟩
    · refine ⟨.ref p, rfl, p, _, 0, .int a, rfl, rfl, SqL.of hp, atI_nat (j := 0) rfl, .int m, rfl, a, m, rfl, rfl, hm, ?_⟩
      refine ⟨.ref p, rfl, p, _, 0, .int a, rfl, rfl, SqL.of hp, atI_nat (j := 0) rfl, .int m, rfl, a, m, rfl, rfl, div_s hm hm2, ?_⟩
      refine ⟨.ref p, rfl, p, _, 0, 0, rfl, rfl, hp, rfl, ?_⟩
      exact ⟨_, rfl, fin a _ (st _ _ _)⟩
    · refine ⟨.ref p, rfl, p, _, 2, .int c, rfl, rfl, SqL.of hp, atI_nat (j := 2) rfl, c, 1, rfl, rfl, ?_⟩
      refine ⟨.ref p, rfl, p, _, 2, 2, rfl, rfl, hp, rfl, ?_⟩
      have h2 : (upd H p (.lst [.int a, .int b, .int (c + 1)])) p = some (.lst [.int a, .int b, .int (c + 1)]) := upd_same
      refine ⟨.ref p, rfl, p, _, 1, .int b, rfl, rfl, SqL.of h2, atI_nat (j := 1) rfl, .ref p, rfl, p, _, 2, .int (c + 1), rfl, rfl, SqL.of h2, atI_nat (j := 2) rfl, b, c + 1, rfl, fun r _ _ => ?_⟩
      exact ⟨.int m, rfl, r, m, rfl, rfl, hm, fin r _ (st _ _ _)⟩
end
/-! ### the law's bases -/
section
variable {P : Program} {w : World} {K : PySem.W.Frag} {mg : Str → Option Value} {base : Heap}
def spBase : Sp := fun vs H Q _ => ∃ (p : Addr), vs = [.ref p] ∧ SrcAt H p ∧ ∀ (b : Nat) H', 2 ≤ b → b ≤ 64 → Stp p H H' → Q (.int (b : Nat)) H'
theorem ok_base {f : Addr} {fd : FuncData} (F : Fun K "_law_base" "_law_base" s__law_base f fd) (h1 : Has P w K mg base 2 "_law_next" ["_law_source_here", "_law_many"] [] spNext) : FnOk P w K mg base CX0 3 f fd ["_law_source_here"] spBase := by
  obtain ⟨f__law_next, fd__law_next, ds__law_next, G__law_next, m__law_next, k__law_next, b__law_next, v__law_next⟩ := h1
  refine F.ok sc__law_base (fun vs H Q E h => ?_) (fun cdv A outer s H vs Q E hr h => ?_)
  · obtain ⟨p, rfl, _⟩ := h
    rfl
  · obtain ⟨p, rfl, hs, q⟩ := h
    refine ⟨_, (pss_one (ps_ret (pe_ix (ix_listK (K := K) rfl) (pe_lst (pa_cons pe_int (pa_cons pe_int (pa_cons pe_int (pa_cons pe_int (pa_cons pe_int (pa_cons pe_int (pa_cons pe_int (pa_cons pe_int (pa_cons pe_int pa_nil)))))))))) (pe_call G__law_next hr (by rfl) m__law_next k__law_next b__law_next v__law_next pass0 (pa_cons (pv 0) (pa_cons pe_int pa_nil))) (fun _ _ => rfl)))), ?_⟩
    refine ⟨by simp [sizeLine_eq], fun l hl => ?_⟩
    have s1 := same_upd (o := .lst [.int 2, .int 3, .int 4, .int 5, .int 7, .int 10, .int 16, .int 63, .int 64]) hl
    have nlp : l ≠ p := fun e => by
      obtain ⟨x, y, z, h⟩ := hs
      rw [e, h] at hl
      cases hl
    refine ⟨_, rfl, p, 9, rfl, by decide, by decide, hs.same s1, fun r H' hr9 st => ?_⟩
    have eL := st.keep _ _ nlp upd_same
    have hst : Stp p H H' := (hs.stp_same s1).trans st
    have hr : r < 9 := by omega
    have all : ∀ j : Nat, j < 9 → ∃ b : Nat, ([.int 2, .int 3, .int 4, .int 5, .int 7, .int 10, .int 16, .int 63, .int 64] : List V)[j]? = some (.int (b : Nat)) ∧ 2 ≤ b ∧ b ≤ 64 := by
      intro j hj
      match j, hj with
      | 0, _ => exact ⟨2, rfl, by decide, by decide⟩
      | 1, _ => exact ⟨3, rfl, by decide, by decide⟩
      | 2, _ => exact ⟨4, rfl, by decide, by decide⟩
      | 3, _ => exact ⟨5, rfl, by decide, by decide⟩
      | 4, _ => exact ⟨7, rfl, by decide, by decide⟩
      | 5, _ => exact ⟨10, rfl, by decide, by decide⟩
      | 6, _ => exact ⟨16, rfl, by decide, by decide⟩
      | 7, _ => exact ⟨63, rfl, by decide, by decide⟩
      | 8, _ => exact ⟨64, rfl, by decide, by decide⟩
      | j + 9, h => omega
    obtain ⟨b, eb, b2, b64⟩ := all r hr
    exact ⟨l, _, r, .int (b : Nat), rfl, rfl, SqL.of eL, atI_nat eb, q b H' b2 b64 hst⟩
end
section
variable {P : Program} {w : World} {K : PySem.W.Frag} {mg : Str → Option Value} {base : Heap}
theorem flat_rep {α : Type} (x : α) : ∀ n : Nat, (List.replicate n [x]).flatten = List.replicate n x
  | 0 => rfl
  | n + 1 => by
    rw [List.replicate_succ, List.flatten_cons, flat_rep x n, List.replicate_succ]
    rfl
theorem pick_lv {r : Nat} (h : r < 2) : ([.str "stack", .str "queue"] : List V)[r]? = some (lvV (decide (r = 0))) := by
  match r, h with
  | 0, _ => rfl
  | 1, _ => rfl
  | r + 2, h => omega
theorem pick_vl {r : Nat} (h : r < 2) : ([.str "queue", .str "stack"] : List V)[r]? = some (lvV (decide (r = 1))) := by
  match r, h with
  | 0, _ => rfl
  | 1, _ => rfl
  | r + 2, h => omega
def spLevels : Sp := fun vs H Q _ => ∃ (p : Addr), vs = [.ref p] ∧ SrcAt H p ∧ ∀ H' q (ws : List Bool), Stp p H H' → H q = none → H' q = some (.lst (ws.map lvV)) → ws ≠ [] → ws.length ≤ 60 → Q (.ref q) H'
theorem ok_levels {f : Addr} {fd : FuncData} (F : Fun K "_law_levels" "_law_levels" s__law_levels f fd) (T : Tx K mg) (h1 : Has P w K mg base 2 "_law_next" ["_law_source_here", "_law_many"] [] spNext) : FnOk P w K mg base CX0 3 f fd ["_law_source_here"] spLevels := by
  obtain ⟨f__law_next, fd__law_next, ds__law_next, G__law_next, m__law_next, k__law_next, b__law_next, v__law_next⟩ := h1
  refine F.ok sc__law_levels (fun vs H Q E h => ?_) (fun cdv A outer s H vs Q E hr h => ?_)
  · obtain ⟨p, rfl, _⟩ := h
    rfl
  · obtain ⟨p, rfl, hs, c⟩ := h
    refine ⟨_, (pss_cons (ps_set (i := 1) sc__law_levels.nd rfl (.inl rfl) (pe_ix (ix_listK (K := K) rfl) (pe_lst (pa_cons (pe_op op_add pe_int (pe_call G__law_next hr (by rfl) m__law_next k__law_next b__law_next v__law_next pass0 (pa_cons (pv 0) (pa_cons pe_int pa_nil)))) (pa_cons (pe_op op_add pe_int (pe_call G__law_next hr (by rfl) m__law_next k__law_next b__law_next v__law_next pass0 (pa_cons (pv 0) (pa_cons pe_int pa_nil)))) pa_nil))) (pe_callTy call_int1 (by rfl) T.b_int (by decide +kernel) (pa_cons (pe_cmpR op_eq (pe_call G__law_next hr (by rfl) m__law_next k__law_next b__law_next v__law_next pass0 (pa_cons (pv 0) (pa_cons pe_int pa_nil))) pe_int (nomark _)) pa_nil)) (fun _ _ => rfl)))
      (pss_cons (ps_set (i := 2) sc__law_levels.nd rfl (.inl rfl) (pe_call G__law_next hr (by rfl) m__law_next k__law_next b__law_next v__law_next pass0 (pa_cons (pv 0) (pa_cons pe_int pa_nil))))
      (pss_cons (ps_if (pt_cmpR op_lt (pv 2) pe_int (nomark _))
        (pss_one (ps_ret (pe_op op_rep (pe_lst (pa_cons (pe_ix (ix_listK (K := K) rfl) (pe_lst (pa_cons pe_str (pa_cons pe_str pa_nil))) (pv 2) (fun _ _ => rfl)) pa_nil)) (pv 1))))
        pss_nil)
      (pss_cons (ps_setLc (i := 3) (own := [("_law_at", 4)]) (g := gName 4) (tt := tYes) rfl sc__law_levels.nd rfl rfl (sw_true rfl rfl rfl (by decide +kernel)) (pi_range1 (by rfl) T.b_range (pa_cons (pv 1) pa_nil)) (blkOk_by (own := [("_law_at", 4)]) (N := N__law_levels) (sc := defScope s__law_levels) (by decide +kernel)) (fun _ _ _ _ _ => (pg_name (i := 4) sc__law_levels.nd rfl (.inl rfl))) (fun _ _ _ _ _ => pts_nil) (fun _ _ _ _ _ => (pe_ix (ix_listK (K := K) rfl) (pe_lst (pa_cons pe_str (pa_cons pe_str pa_nil))) (pe_call G__law_next hr (by rfl) m__law_next k__law_next b__law_next v__law_next pass0 (pa_cons (pv 0) (pa_cons pe_int pa_nil))) (fun _ _ => rfl))))
      (pss_cons (ps_if (pt_cmpR op_eq (pv 2) pe_int (nomark _))
        (pss_one (ps_setLc (i := 3) (own := [("_law_at", 4)]) (g := gName 4) (tt := tYes) rfl sc__law_levels.nd rfl rfl (sw_true rfl rfl rfl (by decide +kernel)) (pi_range1 (by rfl) T.b_range (pa_cons (pv 1) pa_nil)) (blkOk_by (own := [("_law_at", 4)]) (N := N__law_levels) (sc := defScope s__law_levels) (by decide +kernel)) (fun _ _ _ _ _ => (pg_name (i := 4) sc__law_levels.nd rfl (.inl rfl))) (fun _ _ _ _ _ => pts_nil) (fun _ _ _ _ _ => (pe_ix (ix_listK (K := K) rfl) (pe_lst (pa_cons pe_str (pa_cons pe_str pa_nil))) (pe_op op_mod (pv 4) pe_int) (fun _ _ => rfl)))))
        pss_nil)
      (pss_one (ps_ret (pv 3)))))))), ?_⟩
    -- many
    refine ⟨_, rfl, p, 6, rfl, by decide, by decide, hs, fun r1 H1 hr1 s1 => ⟨1, r1, rfl, rfl, _, rfl, p, 60, rfl, by decide, by decide, s1.src, fun r2 H2 hr2 s2 => ⟨1, r2, rfl, rfl, by simp [sizeLine_eq], fun l hl => ?_⟩⟩⟩
    have s3 : Stp p H2 (upd H2 l (.lst [.int (1 + (r1 : Int)), .int (1 + (r2 : Int))])) := s2.src.stp_same (same_upd hl)
    refine ⟨_, rfl, p, 5, rfl, by decide, by decide, s3.src, fun r3 H4 hr3 s4 => ⟨rfl, .inr ⟨_, rfl, ?_⟩⟩⟩
    have eL := s4.keep _ _ (s2.src.ne hl) upd_same
    obtain ⟨m, em, hm0, hm⟩ : ∃ m : Nat, ([.int (1 + (r1 : Int)), .int (1 + (r2 : Int))] : List V)[if decide (V.int (r3 : Nat) = V.int 4) = true then 1 else 0]? = some (.int (m : Nat)) ∧ 1 ≤ m ∧ m ≤ 60 := by
      split
      · exact ⟨1 + r2, rfl, by omega, by omega⟩
      · exact ⟨1 + r1, rfl, by omega, by omega⟩
    refine ⟨l, _, ((if decide (V.int (r3 : Nat) = V.int 4) = true then 1 else 0 : Nat) : Int), _, rfl, ?_, SqL.of eL, atI_nat em, ?_⟩
    · split <;> rfl
    have s04 := ((s1.trans s2).trans s3).trans s4
    -- sort
    refine ⟨_, rfl, p, 5, rfl, by decide, by decide, s4.src, fun r5 H5 hr5 s5 => ?_⟩
    have s05 := s04.trans s5
    refine ⟨_, rfl, _, 2, rfl, rfl, _, rfl, ite2 (fun e => ?_) (fun e0 => ?_)⟩
    · have hr2' : r5 < 2 := by
        have z := of_decide_eq_true e
        omega
      refine ⟨by simp [sizeLine_eq], fun l6 hl6 => ?_⟩
      refine ⟨_, rfl, l6, _, r5, _, rfl, rfl, SqL.of upd_same, atI_nat (pick_lv hr2'), by simp [sizeLine_eq], fun l7 hl7 => ?_⟩
      refine ⟨_, rfl, l7, (m : Nat), _, rfl, rfl, upd_same, by omega, by omega, ?_, fun q hq => ?_⟩
      · exact sizeLine_le (by show 1 * m ≤ 1000000; omega)
      · have s8 := ((s05.same (same_upd hl6)).same (same_upd hl7)).same (same_upd (o := .lst (List.replicate ((m : Nat) : Int).toNat [lvV (decide (r5 = 0))]).flatten) hq)
        refine c _ q (List.replicate m (decide (r5 = 0))) s8 ?_ ?_ ?_ ?_
        · exact ((s05.same (same_upd hl6)).same (same_upd hl7)).free hq
        · rw [upd_same, flat_rep, List.map_replicate]
          rfl
        · intro e
          have z := congrArg List.length e
          rw [List.length_replicate] at z
          exact absurd z (by show ¬ m = 0; omega)
        · rw [List.length_replicate]
          exact hm
    · -- drawn words
      refine ⟨_, rfl, m, rfl, by omega, by omega, fun D hD => lc_range (lo := 0) (n := ((m : Nat) : Int).toNat) (fun i H' => Stp p H5 H' ∧ ∃ ws : List Bool, ws.length = i ∧ H' D = some (.lst (ws.map lvV)))
        ⟨s5.src.stp_same (same_upd hD), [], rfl, upd_same⟩ ?_ ?_⟩
      · rintro i H' hi ⟨st, ws, hw, eD⟩
        have nDp : D ≠ p := s5.src.ne hD
        refine ⟨rfl, yesT (iteT ?_)⟩
        refine ⟨by simp [sizeLine_eq], fun l8 hl8 => ?_⟩
        have s8 : Stp p H' (upd H' l8 (.lst [.str "queue", .str "stack"])) := st.src.stp_same (same_upd hl8)
        refine ⟨_, rfl, p, 2, rfl, by decide, by decide, s8.src, fun r9 H9 hr9 s9 => ?_⟩
        have eL8 := s9.keep _ _ (st.src.ne hl8) upd_same
        have eD9 := s9.keep _ _ nDp (s8.keep _ _ nDp eD)
        refine ⟨l8, _, r9, _, rfl, rfl, SqL.of eL8, atI_nat (pick_vl (by omega)), _, eD9, ?_, ⟨fun b o n e => ?_, ?_⟩, ws ++ [decide (r9 = 1)], ?_, ?_⟩
        · rw [List.length_map, hw]
          exact sizeLine_ge (by omega)
        · rw [upd_ne (ne_of_none e hD)]
          exact s9.keep _ _ n (s8.keep _ _ n (st.keep _ _ n e))
        · obtain ⟨x, y, z, h⟩ := s9.src
          exact ⟨x, y, z, by rw [upd_ne nDp.symm]; exact h⟩
        · rw [List.length_append, hw]
          rfl
        · rw [upd_same, List.map_append]
          rfl
      rintro H6 ⟨s6, ws, hw, eD⟩
      have hw' : ws.length = m := by rw [hw]; exact Int.toNat_natCast m
      have s06 := s05.trans s6
      have last : ∀ H7 q (vs : List Bool), Stp p H H7 → H q = none → H7 q = some (.lst (vs.map lvV)) → vs.length = m → Q (.ref q) H7 := fun H7 q vs st hq eq hv =>
        c H7 q vs st hq eq (fun e => by
          rw [e] at hv
          exact absurd hv (by show ¬ 0 = m; omega)) (by omega)
      have hD0 : H D = none := s05.free hD
      refine ⟨_, rfl, rfl, _, rfl, ite2 (fun e => ?_) (fun e => ?_)⟩
      · refine ⟨_, rfl, m, rfl, by omega, by omega, fun D2 hD2 => lc_range (lo := 0) (n := ((m : Nat) : Int).toNat) (fun i H' => Same H6 H' ∧ ∃ ws : List Bool, ws.length = i ∧ H' D2 = some (.lst (ws.map lvV)))
          ⟨same_upd hD2, [], rfl, upd_same⟩ ?_ ?_⟩
        · rintro i H' hi ⟨st, ws2, hw2, eD2⟩
          refine ⟨rfl, yesT (iteT ?_)⟩
          refine ⟨by simp [sizeLine_eq], fun l8 hl8 => ?_⟩
          have s8 := same_upd (o := .lst [.str "queue", .str "stack"]) hl8
          have ei : (0 + (i : Int)) % 2 = ((i % 2 : Nat) : Int) := by omega
          refine ⟨_, rfl, _, 2, rfl, rfl, (by decide : (0 : Int) < 2), l8, _, ((i % 2 : Nat) : Int), _, rfl, congrArg V.int ei, SqL.of upd_same, atI_nat (pick_vl (Nat.mod_lt i (by decide))), _, s8 _ _ eD2, ?_, fun b o e => ?_, ws2 ++ [decide (i % 2 = 1)], ?_, ?_⟩
          · rw [List.length_map, hw2]
            exact sizeLine_ge (by omega)
          · rw [upd_ne (ne_of_none e hD2)]
            exact s8 _ _ (st _ _ e)
          · rw [List.length_append, hw2]
            rfl
          · rw [upd_same, List.map_append]
            rfl
        rintro H7 ⟨s7, ws2, hw2, eD2⟩
        refine ⟨_, rfl, last H7 D2 ws2 (s06.same s7) (s06.free hD2) eD2 ?_⟩
        rw [hw2]
        exact Int.toNat_natCast m
      · exact ⟨_, rfl, last H6 D ws s06 hD0 eD hw'⟩
end
/-! ### law k36: pairs, the first common tick, ranges -/
section
variable {P : Program} {w : World} {K : PySem.W.Frag} {mg : Str → Option Value} {base : Heap}
def spPair36 : Sp := fun vs H Q _ => ∃ (p : Addr) (m : Nat), vs = [.ref p, .int (m : Nat)] ∧ 1 ≤ m ∧ m ≤ 1000000000 ∧ SrcAt H p ∧ ∀ (a q : Nat) H' T, a < 2 ^ 100 → 1 ≤ q → q < 2 ^ 70 → Stp p H H' → H T = none → H' T = some (.tup [.int (a : Nat), .int (q : Nat)]) → Q (.ref T) H'
theorem ok_pair36 {f : Addr} {fd : FuncData} (F : Fun K "_law_pair" "_law_pair" s__law_pair f fd) (h1 : Has P w K mg base 2 "_law_next" ["_law_source_here", "_law_many"] [] spNext) : FnOk P w K mg base CX0 3 f fd ["_law_source_here", "_law_measure"] spPair36 := by
  obtain ⟨f__law_next, fd__law_next, ds__law_next, G__law_next, m__law_next, k__law_next, b__law_next, v__law_next⟩ := h1
  refine F.ok sc__law_pair (fun vs H Q E h => ?_) (fun cdv A outer s H vs Q E hr h => ?_)
  · obtain ⟨p, m, rfl, _⟩ := h
    rfl
  · obtain ⟨p, m, rfl, hm1, hm2, hs, q⟩ := h
    have two : ∀ {H : Hp} {l : Addr} {o : HO}, SrcAt H p → H l = none → Stp p H (upd H l o) ∧ l ≠ p := fun {H l o} hs hl =>
      ⟨hs.stp_same (same_upd hl), hs.ne hl⟩
    refine ⟨_, (pss_cons (ps_set (i := 2) sc__law_pair.nd rfl (.inl rfl) (pe_ix (ix_listK (K := K) rfl) (pe_lst (pa_cons pe_int (pa_cons pe_int (pa_cons (pe_op op_pow pe_int pe_int) pa_nil)))) (pe_call G__law_next hr (by rfl) m__law_next k__law_next b__law_next v__law_next pass0 (pa_cons (pv 0) (pa_cons pe_int pa_nil))) (fun _ _ => rfl)))
      (pss_one (ps_ret (pe_tup (pa_cons (pe_op op_mulN (pv 1) (pe_call G__law_next hr (by rfl) m__law_next k__law_next b__law_next v__law_next pass0 (pa_cons (pv 0) (pa_cons (pe_ix (ix_listK (K := K) rfl) (pe_lst (pa_cons pe_int (pa_cons (pe_op op_pow pe_int pe_int) pa_nil))) (pe_call G__law_next hr (by rfl) m__law_next k__law_next b__law_next v__law_next pass0 (pa_cons (pv 0) (pa_cons pe_int pa_nil))) (fun _ _ => rfl)) pa_nil)))) (pa_cons (pe_op op_mulN (pv 1) (pe_op op_addN pe_int (pe_call G__law_next hr (by rfl) m__law_next k__law_next b__law_next v__law_next pass0 (pa_cons (pv 0) (pa_cons (pv 2) pa_nil))))) pa_nil)))))), ?_⟩
    refine ⟨10, 9, rfl, rfl, ⟨by decide, by decide, by decide⟩, by simp [sizeLine_eq], fun l hl => ?_⟩
    obtain ⟨s1, nl⟩ := two (o := .lst [.int 4, .int 60, .int (10 ^ (9 : Int).toNat)]) hs hl
    refine ⟨_, rfl, p, 3, rfl, by decide, by decide, s1.src, fun c H2 hc s2 => ?_⟩
    have el := s2.keep _ _ nl upd_same
    obtain ⟨mo, emo, hmo0, hmo1⟩ : ∃ mo : Int, ([.int 4, .int 60, .int (10 ^ (9 : Int).toNat)] : List V)[c]? = some (.int mo) ∧ 0 < mo ∧ mo ≤ 1000000000 := by
      have hc3 : c < 3 := by omega
      match c, hc3 with
      | 0, _ => exact ⟨4, rfl, by decide, by decide⟩
      | 1, _ => exact ⟨60, rfl, by decide, by decide⟩
      | 2, _ => exact ⟨_, rfl, by decide, by decide⟩
      | c + 3, h => omega
    refine ⟨l, _, c, _, rfl, rfl, SqL.of el, atI_nat emo, ?_⟩
    refine ⟨_, rfl, _, rfl, 10, 18, rfl, rfl, ⟨by decide, by decide, by decide⟩, by simp [sizeLine_eq], fun l2 hl2 => ?_⟩
    obtain ⟨s3, nl2⟩ := two (o := .lst [.int 9, .int (10 ^ (18 : Int).toNat)]) s2.src hl2
    refine ⟨_, rfl, p, 2, rfl, by decide, by decide, s3.src, fun c2 H4 hc2 s4 => ?_⟩
    have el2 := s4.keep _ _ nl2 upd_same
    obtain ⟨m2, em2, hm20, hm21⟩ : ∃ m2 : Int, ([.int 9, .int (10 ^ (18 : Int).toNat)] : List V)[c2]? = some (.int m2) ∧ 0 < m2 ∧ m2 ≤ 1000000000000000000 := by
      have hc3 : c2 < 2 := by omega
      match c2, hc3 with
      | 0, _ => exact ⟨9, rfl, by decide, by decide⟩
      | 1, _ => exact ⟨_, rfl, by decide, by decide⟩
      | c + 2, h => omega
    refine ⟨l2, _, c2, _, rfl, rfl, SqL.of el2, atI_nat em2, p, m2, rfl, hm20, by omega, s4.src, fun r3 H5 hr3 s5 => ?_⟩
    have hr3' : r3 < 2 ^ 60 := by omega
    refine ⟨m, r3, rfl, rfl, nmul_l (by omega), _, rfl, _, rfl, _, rfl, p, mo, rfl, hmo0, by omega, s5.src, fun r4 H6 hr4 s6 => ?_⟩
    have hr4' : 1 + r4 ≤ 1000000000 := by omega
    refine ⟨1, r4, rfl, rfl, trivial, m, 1 + r4, rfl, rfl, nmul_l (by omega), by simp [sizeLine_eq], fun T hT => ?_⟩
    have s0B : Stp p H H6 := ((((s1.trans s2).trans s3).trans s4).trans s5).trans s6
    have h1 : m * r3 < 2 ^ 100 := by
      have z := Nat.mul_lt_mul'' (show m < 2 ^ 30 by omega) hr3'
      exact Nat.lt_trans z (by decide)
    have h2 : m * (1 + r4) < 2 ^ 70 := by
      have z := Nat.mul_lt_mul'' (show m < 2 ^ 30 by omega) (show 1 + r4 < 2 ^ 30 by omega)
      exact Nat.lt_trans z (by decide)
    exact q (m * r3) (m * (1 + r4)) _ T h1 (Nat.mul_pos hm1 (by omega)) h2 (s0B.same (same_upd hT)) (s0B.free hT) upd_same
def spFrom : Sp := fun vs H Q _ => ∃ (t1 t2 : Addr) (a p o q f e : Nat), vs = [.ref t1, .ref t2] ∧ H t1 = some (.tup [.int (a : Nat), .int (p : Nat)]) ∧ H t2 = some (.tup [.int (o : Nat), .int (q : Nat)]) ∧ 1 ≤ p ∧ 1 ≤ q ∧ p < 2 ^ 80 ∧ q < 2 ^ 80 ∧ a < 2 ^ 101 ∧ o < 2 ^ 101 ∧ IsMeet a p o q f e ∧
  ∀ g H' T, IsFrom a p o q f e g → Same H H' → H T = none → H' T = some (.tup [.int (g : Nat), .int (e : Nat)]) → Q (.ref T) H'
theorem ok_law_from {f : Addr} {fd : FuncData} (F : Fun K "_law_from" "_law_from" s__law_from f fd) (T : Tx K mg) (h1 : Has P w K mg base 5 "common" ["one", "other"] [] spMeet) : FnOk P w K mg base CX0 6 f fd ["_law_one", "_law_two"] spFrom := by
  obtain ⟨f_common, fd_common, ds_common, G_common, m_common, k_common, b_common, v_common⟩ := h1
  refine F.ok sc__law_from (fun vs H Q E h => ?_) (fun cdv A outer s H vs Q E hr h => ?_)
  · obtain ⟨t1, t2, a, p, o, q, f, e, rfl, _⟩ := h
    rfl
  · obtain ⟨t1, t2, a, p, o, q, f0, e0, rfl, e1, e2, hp, hq, hp2, hq2, ha2, ho2, hm0, c⟩ := h
    refine ⟨_, (pss_cons (ps_asg (pe_call G_common hr (by rfl) m_common k_common b_common v_common pass0 (pa_cons (pv 0) (pa_cons (pv 1) pa_nil))) (pg_tupK (K := K) (n := 2) rfl rfl (pgs_cons (pg_name (i := 2) sc__law_from.nd rfl (.inl rfl)) (pgs_cons (pg_name (i := 3) sc__law_from.nd rfl (.inl rfl)) pgs_nil))))
      (pss_cons (ps_set (i := 4) sc__law_from.nd rfl (.inl rfl) (pe_callB (max2N rfl) (by rfl) T.b_max (by decide +kernel) (pa_cons (pe_op op_addN (pe_ix (ix_tupK (K := K) rfl) (pv 0) pe_int (fun _ _ => rfl)) (pe_ix (ix_tupK (K := K) rfl) (pv 0) pe_int (fun _ _ => rfl))) (pa_cons (pe_op op_addN (pe_ix (ix_tupK (K := K) rfl) (pv 1) pe_int (fun _ _ => rfl)) (pe_ix (ix_tupK (K := K) rfl) (pv 1) pe_int (fun _ _ => rfl))) pa_nil))))
      (pss_cons (ps_while PassesOwn.never (pt_cmpR op_lt (pv 2) (pv 4) (nomark _))
        (pss_one (ps_set (i := 2) sc__law_from.nd rfl (.inl rfl) (pe_op op_addN (pv 2) (pe_op op_mulN (pv 3) (pe_callB (max2N rfl) (by rfl) T.b_max (by decide +kernel) (pa_cons pe_int (pa_cons (pe_op op_divN (pe_op op_subN (pv 4) (pv 2)) (pv 3)) pa_nil))))))))
      (pss_one (ps_ret (pe_tup (pa_cons (pv 2) (pa_cons (pv 3) pa_nil)))))))), ?_⟩
    refine ⟨_, rfl, _, rfl, t1, t2, a, p, o, q, rfl, e1, e2, hp, hq, by omega, by omega, by omega, by omega, fun v H2 s2 hv _ => ?_⟩
    rcases hv with ⟨hn, rfl⟩ | ⟨hg, tm, f, e, rfl, em, hm⟩
    · obtain ⟨_, c1, c2, c3, c4⟩ := hm0
      exact absurd (meet_gcd (by omega) (by omega) c3 c4) hn
    obtain ⟨rfl, rfl⟩ := meet_same hp hm0 hm
    have he1 : 1 ≤ e := by
      rw [hm.1]
      exact lcm_pos hp hq
    have he2 : e < 2 ^ 160 := by
      rw [hm.1]
      have z1 := Nat.mul_lt_mul'' (Nat.lt_of_le_of_lt (Nat.div_le_self p (Nat.gcd p q)) hp2) hq2
      rw [← Nat.pow_add] at z1
      exact z1
    refine ⟨tm, _, rfl, .inl (.inl em), rfl, _, _, rfl, _, _, rfl, rfl, ?_⟩
    have e1' := s2 _ _ e1
    have e2' := s2 _ _ e2
    refine ⟨.ref t1, rfl, t1, _, 0, _, rfl, rfl, .inl (.inl e1'), atI_nat (j := 0) rfl, .ref t1, rfl, t1, _, 1, _, rfl, rfl, .inl (.inl e1'), atI_nat (j := 1) rfl, a, p, rfl, rfl, trivial,
      .ref t2, rfl, t2, _, 0, _, rfl, rfl, .inl (.inl e2'), atI_nat (j := 0) rfl, .ref t2, rfl, t2, _, 1, _, rfl, rfl, .inl (.inl e2'), atI_nat (j := 1) rfl, o, q, rfl, rfl, trivial, a + p, o + q, rfl, ?_⟩
    have hm5 := hm
    obtain ⟨_, c1, c2, c3, c4⟩ := hm5
    refine while_by (fun σ H' => ∃ x : Nat, σ = [some (.ref t1), some (.ref t2), some (.int (x : Nat)), some (.int (e : Nat)), some (.int (max (a + p) (o + q) : Nat))] ∧ H' = H2 ∧ f ≤ x ∧ e ∣ x - f ∧ x < max (a + p) (o + q) + e) (fun σ _ => (((max (a + p) (o + q) : Nat) : Int) - (slotInt σ 2 : Int)).toNat)
      ⟨f, rfl, rfl, Nat.le_refl _, by rw [Nat.sub_self]; exact Nat.dvd_zero e, by omega⟩ ?_ ?_
    · rintro σ H' ⟨x, rfl, rfl, h1, h2, h3⟩
      by_cases h : x < max (a + p) (o + q)
      · refine ⟨_, rfl, _, rfl, _, _, rfl, rfl, true, dT (by omega), iteT ?_⟩
        obtain ⟨z1, z2, z3, z4⟩ := from_step he1 h1 h2 h
        have hd : (max (a + p) (o + q) - x) / e < 2 ^ 110 := Nat.lt_of_le_of_lt (Nat.div_le_self _ _) (by omega)
        refine ⟨_, rfl, _, rfl, _, rfl, _, rfl, max (a + p) (o + q), x, rfl, rfl, Nat.le_of_lt h, _, rfl, max (a + p) (o + q) - x, e, rfl, rfl, ndiv 160 (by omega) he2, 1, (max (a + p) (o + q) - x) / e, rfl, e, max 1 ((max (a + p) (o + q) - x) / e), rfl, rfl, nmul_w 160 120 he2 (Nat.max_lt.mpr ⟨by decide, Nat.lt_trans hd (by decide)⟩), x, e * max 1 ((max (a + p) (o + q) - x) / e), rfl, rfl, trivial, ?_⟩
        refine ⟨⟨_, rfl, rfl, z1, z2, z4⟩, ?_⟩
        show (((max (a + p) (o + q) : Nat) : Int) - ((((x + e * max 1 ((max (a + p) (o + q) - x) / e) : Nat) : Int).toNat : Nat) : Int)).toNat < (((max (a + p) (o + q) : Nat) : Int) - ((((x : Nat) : Int).toNat : Nat) : Int)).toNat
        rw [Int.toNat_natCast, Int.toNat_natCast]
        omega
      · refine ⟨_, rfl, _, rfl, _, _, rfl, rfl, false, dF (by omega), iteF ?_⟩
        refine ⟨_, rfl, _, rfl, by simp [sizeLine_eq], fun T hT => ?_⟩
        exact c x _ T ⟨h1, h2, by omega, h3⟩ (s2.trans (same_upd hT)) (s2.free hT) upd_same
    · rintro σ H' Q1 Q2 h ⟨x, hx, y, hy, i, j, e1, e2, k, e, z⟩
      exact ⟨x, hx, y, hy, i, j, e1, e2, k, e, h _ _ z⟩
end
/-! ### law k36: a range of common ticks -/
/-- two timers that meet, a base, levels: what times_first asks -/
structure E36 (K : PySem.W.Frag) (H : Hp) (b a p o q f e : Nat) (ql t1 t2 : Addr) (ws : List Bool) : Prop where
  hb : 2 ≤ b
  hb64 : b ≤ 64
  hql : H ql = some (.lst (ws.map lvV))
  hne : ws ≠ []
  h60 : ws.length ≤ 60
  e1 : H t1 = some (.tup [.int (a : Nat), .int (p : Nat)])
  e2 : H t2 = some (.tup [.int (o : Nat), .int (q : Nat)])
  hp : 1 ≤ p
  hq : 1 ≤ q
  hp2 : p < 2 ^ 80
  hq2 : q < 2 ^ 80
  hpq : p ≠ q
  ha : a < 2 ^ 101
  ho : o < 2 ^ 101
  hm : IsMeet a p o q f e
section
variable {K : PySem.W.Frag} {H H' : Hp} {b a p o q f e g x y : Nat} {ql t1 t2 sr : Addr} {ws : List Bool} {Q : VK}
theorem E36.same (h : E36 K H b a p o q f e ql t1 t2 ws) (s : Same H H') : E36 K H' b a p o q f e ql t1 t2 ws :=
  ⟨h.hb, h.hb64, s _ _ h.hql, h.hne, h.h60, s _ _ h.e1, s _ _ h.e2, h.hp, h.hq, h.hp2, h.hq2, h.hpq, h.ha, h.ho, h.hm⟩
theorem E36.stp (h : E36 K H b a p o q f e ql t1 t2 ws) (hs : SrcAt H sr) (s : Stp sr H H') : E36 K H' b a p o q f e ql t1 t2 ws := by
  obtain ⟨x, y, z, hx⟩ := hs
  have n1 : t1 ≠ sr := fun e => by
    have := h.e1
    rw [e, hx] at this
    cases this
  have n2 : t2 ≠ sr := fun e => by
    have := h.e2
    rw [e, hx] at this
    cases this
  have n3 : ql ≠ sr := fun e => by
    have z := h.hql
    rw [e, hx] at z
    have z2 := HO.lst.inj (Option.some.inj z)
    cases ws with
    | nil => exact h.hne rfl
    | cons w0 wr =>
      have y := (List.cons.inj z2).1
      cases w0 <;> cases y
  exact ⟨h.hb, h.hb64, s.keep _ _ n3 h.hql, h.hne, h.h60, s.keep _ _ n1 h.e1, s.keep _ _ n2 h.e2, h.hp, h.hq, h.hp2, h.hq2, h.hpq, h.ha, h.ho, h.hm⟩
theorem E36.swap (h : E36 K H b a p o q f e ql t1 t2 ws) : E36 K H b o q a p f e ql t2 t1 ws :=
  ⟨h.hb, h.hb64, h.hql, h.hne, h.h60, h.e2, h.e1, h.hq, h.hp, h.hq2, h.hp2, fun z => h.hpq z.symm, h.ho, h.ha, h.hm.swap h.hp⟩
theorem E36.he1 (h : E36 K H b a p o q f e ql t1 t2 ws) : 1 ≤ e := by
  rw [h.hm.1]
  exact lcm_pos h.hp h.hq
theorem E36.he2 (h : E36 K H b a p o q f e ql t1 t2 ws) : e < 2 ^ 160 := by
  rw [h.hm.1]
  have z1 := Nat.mul_lt_mul'' (Nat.lt_of_le_of_lt (Nat.div_le_self p (Nat.gcd p q)) h.hp2) h.hq2
  rw [← Nat.pow_add] at z1
  exact z1
theorem E36.all (h : E36 K H b a p o q f e ql t1 t2 ws) (hn : meetN (meetM f e x) e y ≤ 2000) : ∀ f' e', IsMeet a p o q f' e' → meetN (meetM f' e' x) e' y ≤ 2000 := fun f' e' h' => by
  obtain ⟨rfl, rfl⟩ := meet_same h.hp h.hm h'
  exact hn
theorem E36.g_lt (h : E36 K H b a p o q f e ql t1 t2 ws) (hg : IsFrom a p o q f e g) : g < 2 ^ 170 := by
  have hp2 := h.hp2
  have hq2 := h.hq2
  have ha := h.ha
  have ho := h.ho
  have he := h.he2
  obtain ⟨_, _, _, g4⟩ := hg
  omega
end
section
variable {P : Program} {w : World} {K : PySem.W.Frag} {mg : Str → Option Value} {base : Heap}
def spRange36 (K : PySem.W.Frag) : Sp := fun vs H Q _ => ∃ (sr tw t1 t2 ql : Addr) (b a p o q f e m : Nat) (ws : List Bool), vs = [.ref sr, .ref tw, .ref t1, .ref t2, .int (m : Nat)] ∧ SrcAt H sr ∧ H tw = some (.tup [.int (b : Nat), .ref ql]) ∧ E36 K H b a p o q f e ql t1 t2 ws ∧ 1 ≤ m ∧ m ≤ 200 ∧
  ∀ H', Stp sr H H' → Q (.bl true) H'
set_option maxHeartbeats 40000000 in
theorem ok_range36 {f : Addr} {fd : FuncData} (F : Fun K "_law_range_right" "_law_range_right" s__law_range_right f fd) (T : Tx K mg) (h1 : Has P w K mg base 2 "_law_next" ["_law_source_here", "_law_many"] [] spNext)
    (h2 : Has P w K mg base 6 "_law_from" ["_law_one", "_law_two"] [] spFrom) (h3 : Has P w K mg base 6 "times_first" ["base", "levels", "one", "other", "first", "behind"] [] (spTimes K))
    (h4 : Has P w K mg base 6 "first_of_two" ["base", "levels", "one", "other", "tick"] [] (spFirst K)) :
    FnOk P w K mg base CX0 7 f fd ["_law_source_here", "_law_wheel", "_law_one", "_law_two", "_law_most"] (spRange36 K) := by
  obtain ⟨f__law_next, fd__law_next, ds__law_next, G__law_next, m__law_next, k__law_next, b__law_next, v__law_next⟩ := h1
  obtain ⟨f__law_from, fd__law_from, ds__law_from, G__law_from, m__law_from, k__law_from, b__law_from, v__law_from⟩ := h2
  obtain ⟨f_times_first, fd_times_first, ds_times_first, G_times_first, m_times_first, k_times_first, b_times_first, v_times_first⟩ := h3
  obtain ⟨f_first_of_two, fd_first_of_two, ds_first_of_two, G_first_of_two, m_first_of_two, k_first_of_two, b_first_of_two, v_first_of_two⟩ := h4
  refine F.ok sc__law_range_right (fun vs H Q E h => ?_) (fun cdv A outer s H vs Q E hr h => ?_)
  · obtain ⟨sr, tw, t1, t2, ql, b, a, p, o, q, f, e, m, ws, rfl, _⟩ := h
    rfl
  · obtain ⟨sr, tw, t1, t2, ql, b, a, p, o, q, f, e, m, ws, rfl, hs, etw, hE, hm1, hm2, c⟩ := h
    have he1 := hE.he1
    have he2 := hE.he2
    have hp2 := hE.hp2
    have hq2 := hE.hq2
    have ha2 := hE.ha
    have ho2 := hE.ho
    refine ⟨_, (pss_cons (ps_asg (pv 1) (pg_tupK (K := K) (n := 2) rfl rfl (pgs_cons (pg_name (i := 5) sc__law_range_right.nd rfl (.inl rfl)) (pgs_cons (pg_name (i := 6) sc__law_range_right.nd rfl (.inl rfl)) pgs_nil))))
      (pss_cons (ps_asg (pe_call G__law_from hr (by rfl) m__law_from k__law_from b__law_from v__law_from pass0 (pa_cons (pv 2) (pa_cons (pv 3) pa_nil))) (pg_tupK (K := K) (n := 2) rfl rfl (pgs_cons (pg_name (i := 7) sc__law_range_right.nd rfl (.inl rfl)) (pgs_cons (pg_name (i := 8) sc__law_range_right.nd rfl (.inl rfl)) pgs_nil))))
      (pss_cons (ps_set (i := 9) sc__law_range_right.nd rfl (.inl rfl) (pe_op op_addN (pv 7) (pe_op op_mulN (pv 8) (pe_call G__law_next (hr.mono (by decide)) (by rfl) m__law_next k__law_next b__law_next v__law_next pass0 (pa_cons (pv 0) (pa_cons (pe_ix (ix_listK (K := K) rfl) (pe_lst (pa_cons pe_int (pa_cons (pe_op op_pow pe_int pe_int) pa_nil))) (pe_call G__law_next (hr.mono (by decide)) (by rfl) m__law_next k__law_next b__law_next v__law_next pass0 (pa_cons (pv 0) (pa_cons pe_int pa_nil))) (fun _ _ => rfl)) pa_nil))))))
      (pss_cons (ps_set (i := 10) sc__law_range_right.nd rfl (.inl rfl) (pe_call G__law_next (hr.mono (by decide)) (by rfl) m__law_next k__law_next b__law_next v__law_next pass0 (pa_cons (pv 0) (pa_cons (pv 4) pa_nil))))
      (pss_cons (ps_set (i := 11) sc__law_range_right.nd rfl (.inl rfl) (pe_op op_addN (pe_op op_addN (pv 9) (pe_op op_mulN (pv 8) (pv 10))) pe_int))
      (pss_cons (ps_set (i := 12) sc__law_range_right.nd rfl (.inl rfl) (pe_call G_times_first hr (by rfl) m_times_first k_times_first b_times_first v_times_first pass0 (pa_cons (pv 5) (pa_cons (pv 6) (pa_cons (pv 2) (pa_cons (pv 3) (pa_cons (pv 9) (pa_cons (pv 11) pa_nil))))))))
      (pss_cons (ps_if (pt_cmpR op_ne (pe_op op_addN (pv 12) (pe_call G_times_first hr (by rfl) m_times_first k_times_first b_times_first v_times_first pass0 (pa_cons (pv 5) (pa_cons (pv 6) (pa_cons (pv 3) (pa_cons (pv 2) (pa_cons (pv 9) (pa_cons (pv 11) pa_nil)))))))) (pe_op op_addN (pv 10) pe_int) (nomark _))
        (pss_one (ps_ret pe_bl))
        pss_nil)
      (pss_cons (ps_set (i := 13) sc__law_range_right.nd rfl (.inl rfl) (pe_op op_addN (pv 9) (pe_call G__law_next (hr.mono (by decide)) (by rfl) m__law_next k__law_next b__law_next v__law_next pass0 (pa_cons (pv 0) (pa_cons (pe_op op_subN (pv 11) (pv 9)) pa_nil)))))
      (pss_cons (ps_set (i := 14) sc__law_range_right.nd rfl (.inl rfl) (pe_lst (pa_cons (pe_call G_times_first hr (by rfl) m_times_first k_times_first b_times_first v_times_first pass0 (pa_cons (pv 5) (pa_cons (pv 6) (pa_cons (pv 2) (pa_cons (pv 3) (pa_cons (pv 9) (pa_cons (pv 13) pa_nil))))))) (pa_cons (pe_call G_times_first hr (by rfl) m_times_first k_times_first b_times_first v_times_first pass0 (pa_cons (pv 5) (pa_cons (pv 6) (pa_cons (pv 2) (pa_cons (pv 3) (pa_cons (pv 13) (pa_cons (pv 11) pa_nil))))))) pa_nil))))
      (pss_cons (ps_if (pt_cmpR op_ne (pe_callB (sumK (K := K) rfl rfl) (by rfl) T.b_sum (by decide +kernel) (pa_cons (pv 14) pa_nil)) (pv 12) (nomark _))
        (pss_one (ps_ret pe_bl))
        pss_nil)
      (pss_cons (ps_set (i := 15) sc__law_range_right.nd rfl (.inl rfl) (pe_op op_subN pe_int (pe_call G_first_of_two hr (by rfl) m_first_of_two k_first_of_two b_first_of_two v_first_of_two pass0 (pa_cons (pv 5) (pa_cons (pv 6) (pa_cons (pv 2) (pa_cons (pv 3) (pa_cons (pv 9) pa_nil))))))))
      (pss_cons (ps_if (pt_cmpR op_ne (pe_call G_times_first hr (by rfl) m_times_first k_times_first b_times_first v_times_first pass0 (pa_cons (pv 5) (pa_cons (pv 6) (pa_cons (pv 2) (pa_cons (pv 3) (pa_cons (pv 9) (pa_cons (pe_op op_addN (pv 9) (pv 8)) pa_nil))))))) (pv 15) (nomark _))
        (pss_one (ps_ret pe_bl))
        pss_nil)
      (pss_cons (ps_if (pt_cmpR op_ne (pe_call G_times_first hr (by rfl) m_times_first k_times_first b_times_first v_times_first pass0 (pa_cons (pv 5) (pa_cons (pv 6) (pa_cons (pv 2) (pa_cons (pv 3) (pa_cons (pe_op op_addN (pv 9) pe_int) (pa_cons (pe_op op_addN (pv 9) (pv 8)) pa_nil))))))) pe_int (nomark _))
        (pss_one (ps_ret pe_bl))
        pss_nil)
      (pss_one (ps_ret (pe_cmpR op_eq (pe_call G_times_first hr (by rfl) m_times_first k_times_first b_times_first v_times_first pass0 (pa_cons (pv 5) (pa_cons (pv 6) (pa_cons (pv 2) (pa_cons (pv 3) (pa_cons pe_int (pa_cons (pv 7) pa_nil))))))) pe_int (nomark _))))))))))))))))), ?_⟩
    refine ⟨.ref tw, rfl, tw, _, rfl, .inl (.inl etw), rfl, _, _, rfl, _, _, rfl, rfl, ?_⟩
    refine ⟨_, rfl, _, rfl, t1, t2, a, p, o, q, f, e, rfl, hE.e1, hE.e2, hE.hp, hE.hq, hE.hp2, hE.hq2, hE.ha, hE.ho, hE.hm, fun g H1 tg hg s1 _ eg => ?_⟩
    refine ⟨tg, _, rfl, .inl (.inl eg), rfl, _, _, rfl, _, _, rfl, rfl, ?_⟩
    have hg2 := hE.g_lt hg
    have hB : ∀ t, bothB a p o q t = true ↔ g ≤ t ∧ e ∣ t - g := fun t => both_at hE.hp hE.hq hE.hm hg
    have S1 : Stp sr H H1 := hs.stp_same s1
    -- start
    refine ⟨_, rfl, _, rfl, _, rfl, 10, 12, rfl, rfl, ⟨by decide, by decide, by decide⟩, by simp [sizeLine_eq], fun l hl => ?_⟩
    have s2 : Stp sr H1 (upd H1 l (.lst [.int 2, .int (10 ^ (12 : Int).toNat)])) := S1.src.stp_same (same_upd hl)
    have nl := S1.src.ne hl
    refine ⟨_, rfl, sr, 2, rfl, by decide, by decide, s2.src, fun r2 H3 hr2 s3 => ?_⟩
    have el := s3.keep _ _ nl upd_same
    obtain ⟨mo, emo, hmo0, hmo1⟩ : ∃ mo : Int, ([.int 2, .int (10 ^ (12 : Int).toNat)] : List V)[r2]? = some (.int mo) ∧ 0 < mo ∧ mo ≤ 1000000000000 := by
      have hc3 : r2 < 2 := by omega
      match r2, hc3 with
      | 0, _ => exact ⟨2, rfl, by decide, by decide⟩
      | 1, _ => exact ⟨_, rfl, by decide, by decide⟩
      | c + 2, h => omega
    refine ⟨l, _, r2, _, rfl, rfl, SqL.of el, atI_nat emo, sr, mo, rfl, hmo0, by omega, s3.src, fun r3 H4 hr3 s4 => ?_⟩
    have hr3' : r3 < 2 ^ 40 := by omega
    have her : e * r3 < 2 ^ 200 := by
      have z := Nat.mul_lt_mul'' he2 hr3'
      rw [← Nat.pow_add] at z
      exact z
    refine ⟨e, r3, rfl, rfl, nmul_w 160 40 he2 hr3', g, e * r3, rfl, rfl, trivial, ?_⟩
    obtain ⟨x, hx⟩ : ∃ x, x = g + e * r3 := ⟨_, rfl⟩
    have hxg : x = g + r3 * e := by rw [hx, Nat.mul_comm]
    dsimp only
    rw [← hx]
    have hx2 : x < 2 ^ 201 := by omega
    -- how many
    refine ⟨_, rfl, _, rfl, sr, m, rfl, by omega, by omega, s4.src, fun n H5 hn s5 => ?_⟩
    have hn2 : n < 200 := by omega
    have hen : e * n < 2 ^ 170 := by
      have z := Nat.mul_lt_mul'' he2 (show n < 2 ^ 10 by omega)
      rw [← Nat.pow_add] at z
      exact z
    refine ⟨_, rfl, _, rfl, _, rfl, e, n, rfl, rfl, nmul_w 160 10 he2 (by omega), x, e * n, rfl, rfl, trivial, x + e * n, 1, rfl, rfl, trivial, ?_⟩
    obtain ⟨y, hy⟩ : ∃ y, y = x + e * n + 1 := ⟨_, rfl⟩
    have hyx : y - x = n * e + 1 := by rw [hy, Nat.mul_comm e n]; omega
    dsimp only
    rw [← hy]
    have hy2 : y < 2 ^ 202 := by omega
    have S5 : Stp sr H H5 := (((S1.trans s2).trans s3).trans s4).trans s5
    have hE5 := hE.stp hs S5
    have few : meetN (meetM f e x) e y ≤ 2000 := Nat.le_trans (meetN_few (n := n + 1) he1 (by rw [Nat.succ_mul]; omega)) (by omega)
    -- both ways about
    refine ⟨_, rfl, _, rfl, _, rfl, _, rfl, _, rfl, _, rfl, b, a, p, o, q, x, y, ql, t1, t2, ws, rfl, hE.hb, hE.hb64, SqL.of hE5.hql, hE.hne, hE.h60, hE5.e1, hE5.e2, ⟨hE.hp, by omega⟩, ⟨hE.hq, by omega⟩, hE.hpq, by omega, by omega, by omega, by omega, hE.all few, fun H6 s6 => ?_⟩
    have hE6 := hE5.same s6
    refine ⟨_, rfl, _, rfl, _, rfl, _, rfl, _, rfl, _, rfl, _, rfl, b, o, q, a, p, x, y, ql, t2, t1, ws, rfl, hE.hb, hE.hb64, SqL.of hE6.hql, hE.hne, hE.h60, hE6.e2, hE6.e1, ⟨hE.hq, by omega⟩, ⟨hE.hp, by omega⟩, fun z => hE.hpq z.symm, by omega, by omega, by omega, by omega, hE.swap.all few, fun H7 s7 => ?_⟩
    have hE7 := hE6.same s7
    have hall : cntP (fun t => bothB a p o q t && ahB ws b p q t) x (y - x) + cntP (fun t => bothB o q a p t && ahB ws b q p t) x (y - x) = n + 1 := by
      rw [cnt_swap hE.hpq, cntP_split, hyx, hxg]
      exact cnt_from1 he1 hB r3 n
    refine ⟨_, _, rfl, rfl, trivial, _, rfl, n, 1, rfl, rfl, trivial, rfl, false, nF (vE hall), iteF ?_⟩
    -- a part of it
    refine ⟨_, rfl, _, rfl, _, rfl, _, rfl, y, x, rfl, rfl, (by show x ≤ y; omega), sr, ((y - x : Nat) : Int), rfl, by omega, by omega, (S5.same s6 |>.same s7).src, fun r8 H8 hr8 s8 => ?_⟩
    have hr8' : r8 < y - x := by omega
    refine ⟨x, r8, rfl, rfl, trivial, ?_⟩
    obtain ⟨z, hz⟩ : ∃ z, z = x + r8 := ⟨_, rfl⟩
    dsimp only
    rw [← hz]
    have S8 : Stp sr H H8 := ((S5.same s6).same s7).trans s8
    have hE8 := hE.stp hs S8
    refine ⟨_, rfl, _, rfl, _, rfl, _, rfl, _, rfl, _, rfl, b, a, p, o, q, x, z, ql, t1, t2, ws, rfl, hE.hb, hE.hb64, SqL.of hE8.hql, hE.hne, hE.h60, hE8.e1, hE8.e2, ⟨hE.hp, by omega⟩, ⟨hE.hq, by omega⟩, hE.hpq, by omega, by omega, by omega, by omega, hE.all (Nat.le_trans (meetN_few (n := n + 1) he1 (by rw [Nat.succ_mul]; omega)) (by omega)), fun H9 s9 => ?_⟩
    have hE9 := hE8.same s9
    refine ⟨_, rfl, _, rfl, _, rfl, _, rfl, _, rfl, _, rfl, b, a, p, o, q, z, y, ql, t1, t2, ws, rfl, hE.hb, hE.hb64, SqL.of hE9.hql, hE.hne, hE.h60, hE9.e1, hE9.e2, ⟨hE.hp, by omega⟩, ⟨hE.hq, by omega⟩, hE.hpq, by omega, by omega, by omega, by omega, hE.all (Nat.le_trans (meetN_few (n := n + 1) he1 (by rw [Nat.succ_mul]; omega)) (by omega)), fun H10 s10 => ?_⟩
    have hE10 := hE9.same s10
    have hparts : cntP (fun t => bothB a p o q t && ahB ws b p q t) x (z - x) + cntP (fun t => bothB a p o q t && ahB ws b p q t) z (y - z) = cntP (fun t => bothB a p o q t && ahB ws b p q t) x (y - x) := by
      rw [show y - x = (z - x) + (y - z) by omega, cntP_add, show x + (z - x) = z by omega]
    obtain ⟨c1, hc1⟩ : ∃ c, c = cntP (fun t => bothB a p o q t && ahB ws b p q t) x (z - x) := ⟨_, rfl⟩
    obtain ⟨c2, hc2⟩ : ∃ c, c = cntP (fun t => bothB a p o q t && ahB ws b p q t) z (y - z) := ⟨_, rfl⟩
    rw [← hc1, ← hc2] at hparts
    rw [← hc1, ← hc2]
    refine ⟨by simp [sizeLine_eq], fun L hL => ?_⟩
    have s11 := same_upd (o := .lst [.int (c1 : Nat), .int (c2 : Nat)]) hL
    have eL : (upd H10 L (.lst [.int (c1 : Nat), .int (c2 : Nat)])) L = some (.lst ([(c1 : Int), (c2 : Int)].map V.int)) := upd_same
    have hE11 := hE10.same s11
    generalize upd H10 L (.lst [.int (c1 : Nat), .int (c2 : Nat)]) = H11 at s11 eL hE11 ⊢
    have hsum : V.int ([(c1 : Int), (c2 : Int)].sum) = V.int ((cntP (fun t => bothB a p o q t && ahB ws b p q t) x (y - x) : Nat) : Int) := by
      rw [← hparts]
      refine congrArg V.int ?_
      rw [List.sum_cons, List.sum_cons, List.sum_nil]
      omega
    refine ⟨.ref L, rfl, L, [(c1 : Int), (c2 : Int)], rfl, SqL.of eL, _, rfl, rfl, false, nF hsum, iteF ?_⟩
    -- one tick alone
    have hatx : bothB a p o q x = true := by rw [hxg]; exact at_all he1 hB r3
    obtain ⟨b1, b2⟩ := bothB_iff.mp hatx
    refine ⟨_, rfl, _, rfl, _, rfl, _, rfl, _, rfl, b, x, a, p, o, q, ql, t1, t2, ws, rfl, hE.hb, hE.hb64, by omega, SqL.of hE11.hql, hE.hne, hE.h60, hE11.e1, hE11.e2, hE.hp, hE.hq, hE.hpq, b1, b2, fun v H12 hv s12 => ?_⟩
    have ev := hv.eq hE.hb hE.hp hE.hq (per_le hE.hp b1.1 b1.2) (per_le hE.hq b2.1 b2.2)
    obtain ⟨u, hu, eu⟩ : ∃ u : Nat, u ≤ 1 ∧ (if v = true then (0 : Int) else 1) = (u : Int) ∧ 1 - u = if v = true then 1 else 0 := by
      cases v
      · exact ⟨1, by omega, rfl, rfl⟩
      · exact ⟨0, by omega, rfl, rfl⟩
    refine ⟨1, u, rfl, congrArg V.int eu.1, (by show u ≤ 1; exact hu), ?_⟩
    have hE12 := hE11.same s12
    have hxe : x + e - x = e := by omega
    have fewe : ∀ x' : Nat, x ≤ x' → meetN (meetM f e x') e (x + e) ≤ 2000 := fun x' hx' => Nat.le_trans (meetN_few (n := 1) he1 (by omega)) (by omega)
    refine ⟨_, rfl, _, rfl, _, rfl, _, rfl, _, rfl, _, rfl, _, rfl, x, e, rfl, rfl, trivial, b, a, p, o, q, x, x + e, ql, t1, t2, ws, rfl, hE.hb, hE.hb64, SqL.of hE12.hql, hE.hne, hE.h60, hE12.e1, hE12.e2, ⟨hE.hp, by omega⟩, ⟨hE.hq, by omega⟩, hE.hpq, by omega, by omega, by omega, by omega, hE.all (fewe x (Nat.le_refl _)), fun H13 s13 => ?_⟩
    have hone : cntP (fun t => bothB a p o q t && ahB ws b p q t) x (x + e - x) = 1 - u := by
      rw [hxe, eu.2]
      have z := cntW2_windows (P := fun t => bothB a p o q t && ahB ws b p q t) (m := x) he1 (fun t ht hm => by
        rw [Bool.and_eq_true] at ht
        have y1 := ((hB t).mp ht.1).2
        have z := Nat.dvd_sub y1 (Nat.dvd_mul_left e r3)
        rw [show t - g - r3 * e = t - x by omega] at z
        exact z) 1
      rw [Nat.one_mul] at z
      rw [z]
      show 0 + (if (bothB a p o q (x + 0 * e) && ahB ws b p q (x + 0 * e)) = true then 1 else 0) = _
      rw [Nat.zero_mul, Nat.add_zero, hatx, Bool.true_and, ← ev, Nat.zero_add]
    refine ⟨_, rfl, rfl, false, nF (vE hone), iteF ?_⟩
    have hE13 := hE12.same s13
    refine ⟨_, rfl, _, rfl, _, rfl, _, rfl, _, rfl, x, 1, rfl, rfl, trivial, _, rfl, _, rfl, x, e, rfl, rfl, trivial, b, a, p, o, q, x + 1, x + e, ql, t1, t2, ws, rfl, hE.hb, hE.hb64, SqL.of hE13.hql, hE.hne, hE.h60, hE13.e1, hE13.e2, ⟨hE.hp, by omega⟩, ⟨hE.hq, by omega⟩, hE.hpq, by omega, by omega, by omega, by omega, hE.all (fewe (x + 1) (by omega)), fun H14 s14 => ?_⟩
    have hno : cntP (fun t => bothB a p o q t && ahB ws b p q t) (x + 1) (x + e - (x + 1)) = 0 := by
      rw [show x + e - (x + 1) = e - 1 by omega]
      refine cntP_le _ ?_
      rw [hxg]
      exact cnt_between he1 hB r3
    refine ⟨rfl, false, nF (vE hno), iteF ?_⟩
    have hE14 := hE13.same s14
    have hfg : g ≤ 0 + 4 * e + f := by
      have := from_few hE.hp hE.hq hE.hm hg
      omega
    have few0 : meetN (meetM f e 0) e g ≤ 2000 := by
      have z := from_few hE.hp hE.hq hE.hm hg
      rw [meetM_zero he1]
      have z2 := meetN_few (f := f) (x := f) (y := g) (n := 2) he1 z
      have z3 : meetM f e f = f := by
        unfold meetM
        rw [Nat.sub_self, Nat.zero_add, Nat.div_eq_of_lt (by omega), Nat.zero_mul]
        rfl
      rw [z3] at z2
      omega
    refine ⟨_, rfl, _, rfl, _, rfl, _, rfl, _, rfl, b, a, p, o, q, 0, g, ql, t1, t2, ws, rfl, hE.hb, hE.hb64, SqL.of hE14.hql, hE.hne, hE.h60, hE14.e1, hE14.e2, ⟨hE.hp, by omega⟩, ⟨hE.hq, by omega⟩, hE.hpq, by omega, by omega, (Nat.zero_le _), by omega, hE.all few0, fun H15 s15 => ⟨rfl, ?_⟩⟩
    have h0 : cntP (fun t => bothB a p o q t && ahB ws b p q t) 0 (g - 0) = 0 := cntP_le _ (cnt_before he1 hB (by omega))
    have hfin := c H15 (((((((S8.same s9).same s10).same s11).same s12).same s13).same s14).same s15)
    rw [← decide_eq_true (vE (b := 0) h0)] at hfin
    exact hfin
end
/-! ### law k36: two thousand common ticks, and one more -/
section
variable {P : Program} {w : World} {K : PySem.W.Frag} {mg : Str → Option Value} {base : Heap}
def spBound36 (K : PySem.W.Frag) (lamT : List (Addr × Str)) : Sp := fun vs H Q _ => ∃ (tw t1 t2 ql : Addr) (b c f e : Nat) (ws : List Bool), vs = [.ref tw, .ref t1, .ref t2] ∧ LamX.Tabs lamT H ∧ H tw = some (.tup [.int (b : Nat), .ref ql]) ∧ E36 K H b c 2 c 3 f e ql t1 t2 ws ∧ c < 1000 ∧
  ∀ H', LamX.ExtN H H' → LamX.Tabs lamT H' → Q (.bl true) H'
theorem E36.ext {K : PySem.W.Frag} {H H' : Hp} {b a p o q f e : Nat} {ql t1 t2 : Addr} {ws : List Bool} (h : E36 K H b a p o q f e ql t1 t2 ws) (s : LamX.ExtN H H') : E36 K H' b a p o q f e ql t1 t2 ws :=
  ⟨h.hb, h.hb64, s _ _ h.hql (fun ps z => by cases z), h.hne, h.h60, s _ _ h.e1 (fun ps z => by cases z), s _ _ h.e2 (fun ps z => by cases z), h.hp, h.hq, h.hp2, h.hq2, h.hpq, h.ha, h.ho, h.hm⟩
theorem meetM_self {f e g : Nat} (he : 1 ≤ e) (h1 : f ≤ g) (h2 : e ∣ g - f) : meetM f e g = g := by
  obtain ⟨k, hk⟩ := h2
  unfold meetM
  rw [hk, Nat.mul_add_div (by omega : 0 < e), Nat.div_eq_of_lt (by omega), Nat.add_zero, Nat.mul_comm]
  omega
theorem meetN_exact {m e n : Nat} (he : 1 ≤ e) : meetN m e (m + n * e) = n := by
  unfold meetN
  rw [Nat.add_sub_cancel_left, Nat.mul_comm, Nat.mul_add_div (by omega : 0 < e), Nat.div_eq_of_lt (by omega), Nat.add_zero]
theorem meetN_exact1 {m e n : Nat} (he : 1 ≤ e) : meetN m e (m + n * e + 1) = n + 1 := by
  unfold meetN
  rw [show m + n * e + 1 - m + (e - 1) = 0 + (n + 1) * e by rw [Nat.succ_mul]; omega, Nat.add_mul_div_right _ _ (by omega : 0 < e), Nat.zero_div, Nat.zero_add]
set_option maxHeartbeats 40000000 in
theorem ok_bound36 {f fW cB Pt c_TimerError c_NoBase c_NoLevels c_NoTick c_NoOrder c_NoPeriod c_NoSighting c_NoTimer c_TooMany : Addr} {fd fdW : FuncData} {cdW : Value} {lamT : List (Addr × Str)} (F : FunC K "_law_bound_right" s__law_bound_right f fd (.ref cB)) (T : Tx K mg)
    (FW : FunC K "_law_word" s__law_word fW fdW cdW) (m__law_word : mg "_law_word" = some (.ref fW)) (b__law_word : Binds K fdW ["_law_ask"] []) (TB : LamX.TabB base mg cB Pt) (hmT : (Pt, lamQ "_law_bound_right") ∈ lamT) (hu : ∀ p ∈ lamT, p.1 = Pt → p.2 = lamQ "_law_bound_right")
    (XG_TimerError : EG mg "TimerError" c_TimerError) (XG_NoBase : EG mg "NoBase" c_NoBase) (XG_NoLevels : EG mg "NoLevels" c_NoLevels) (XG_NoTick : EG mg "NoTick" c_NoTick) (XG_NoOrder : EG mg "NoOrder" c_NoOrder) (XG_NoPeriod : EG mg "NoPeriod" c_NoPeriod) (XG_NoSighting : EG mg "NoSighting" c_NoSighting) (XG_NoTimer : EG mg "NoTimer" c_NoTimer) (XG_TooMany : EG mg "TooMany" c_TooMany)
    (te : PySem.W.exmOne K (.ref c_TooMany) (.ref c_TimerError) = some true) (kd : Kind8 K c_TooMany [c_NoBase, c_NoLevels, c_NoTick, c_NoPeriod, c_NoTimer, c_NoOrder, c_NoSighting, c_TooMany] 7)
    (h2 : Has P w K mg base 6 "_law_from" ["_law_one", "_law_two"] [] spFrom) (h3 : Has P w K mg base 6 "times_first" ["base", "levels", "one", "other", "first", "behind"] [] (spTimes K))
    (h3X : HasX P w K mg base 6 "times_first" ["base", "levels", "one", "other", "first", "behind"] [] (spTimesMany K c_TooMany))
    (h4 : Has P w K mg base 5 "common" ["one", "other"] [] spMeet) :
    FnOk P w K mg base CX0 9 f fd ["_law_wheel", "_law_one", "_law_two"] (spBound36 K lamT) := by
  obtain ⟨⟨oc, kV, doc, pm, ct, od, an, osl, e1, lk__law_word, hc__law_word⟩, kp__law_word⟩ := FW
  subst e1
  obtain ⟨f__law_from, fd__law_from, ds__law_from, G__law_from, m__law_from, k__law_from, b__law_from, v__law_from⟩ := h2
  obtain ⟨f_times_first, fd_times_first, ds_times_first, G_times_first, m_times_first, k_times_first, b_times_first, v_times_first⟩ := h3
  obtain ⟨f_times_firstX, fd_times_firstX, ds_times_firstX, G_times_firstX, m_times_firstX, k_times_firstX, b_times_firstX, v_times_firstX⟩ := h3X
  obtain ⟨f_common, fd_common, ds_common, G_common, m_common, k_common, b_common, v_common⟩ := h4
  refine F.ok sc__law_bound_right (fun vs H Q E h => ?_) (fun A outer s H vs Q E hr h => ?_)
  · obtain ⟨tw, t1, t2, ql, b, c, f, e, ws, rfl, _⟩ := h
    rfl
  · obtain ⟨tw, t1, t2, ql, b, c, f, e, ws, rfl, hT, etw, hE, hc, fin⟩ := h
    have he1 := hE.he1
    have he6 : e = 6 := by
      rw [hE.hm.1]
      decide
    have hf2 : c ≤ f ∧ f < c + 6 := by
      have z1 := hE.hm.2.1
      have z2 := hE.hm.2.2.1
      rw [Nat.max_self] at z1 z2
      omega
    refine ⟨_, (pss_cons (ps_asg (pv 0) (pg_tupK (K := K) (n := 2) rfl rfl (pgs_cons (pg_name (i := 6) sc__law_bound_right.nd rfl (.inr rfl)) (pgs_cons (pg_name (i := 9) sc__law_bound_right.nd rfl (.inr rfl)) pgs_nil))))
      (pss_cons (ps_asg (pe_call G__law_from (hr.mono (by decide)) (by rfl) m__law_from k__law_from b__law_from v__law_from pass0 (pa_cons (pv 1) (pa_cons (pv 2) pa_nil))) (pg_tupK (K := K) (n := 2) rfl rfl (pgs_cons (pg_name (i := 7) sc__law_bound_right.nd rfl (.inr rfl)) (pgs_cons (pg_name (i := 3) sc__law_bound_right.nd rfl (.inl rfl)) pgs_nil))))
      (pss_cons (ps_set (i := 4) sc__law_bound_right.nd rfl (.inl rfl) (pe_ix (ix_tupK (K := K) rfl) (pe_call G_common (hr.mono (by decide)) (by rfl) m_common k_common b_common v_common pass0 (pa_cons (pv 1) (pa_cons (pv 2) pa_nil))) pe_int (fun _ _ => rfl)))
      (pss_cons (ps_set (i := 8) sc__law_bound_right.nd rfl (.inr rfl) (pe_op op_addN (pv 4) (pe_op op_mulN pe_int (pv 3))))
      (pss_cons (ps_if (pt_cmpR op_ne (LamX.pe_lamcall (k := 6) (T := lamT) rfl m__law_word kp__law_word lk__law_word hc__law_word b__law_word sc__law_word rfl (Or.inl (by decide +kernel)) (word_gives T XG_TimerError XG_NoBase XG_NoLevels XG_NoTick XG_NoOrder XG_NoPeriod XG_NoSighting XG_NoTimer XG_TooMany) TB rfl hmT hu hr (LamX.lamS_by (show LamX.lamSB (defScope s__law_bound_right) _ = true by decide +kernel)) rfl (fun _ _ _ _ _ => rfl) (fun _ _ _ _ _ _ _ hr2 => (pe_call G_times_firstX hr2 (by rfl) m_times_firstX k_times_firstX b_times_firstX v_times_firstX (passes_call (takes_of rfl rfl rfl rfl) (fun _ _ _ _ h => h)) (pa_cons (pv 6) (pa_cons (pv 9) (pa_cons (pv 1) (pa_cons (pv 2) (pa_cons pe_int (pa_cons (pe_op op_addN (pv 8) pe_int) pa_nil))))))))) pe_str (nomark _))
        (pss_one (ps_ret pe_bl))
        pss_nil)
      (pss_cons (ps_if (pt_cmpR op_ne (LamX.pe_lamcall (k := 6) (T := lamT) rfl m__law_word kp__law_word lk__law_word hc__law_word b__law_word sc__law_word rfl (Or.inl (by decide +kernel)) (word_gives T XG_TimerError XG_NoBase XG_NoLevels XG_NoTick XG_NoOrder XG_NoPeriod XG_NoSighting XG_NoTimer XG_TooMany) TB rfl hmT hu hr (LamX.lamS_by (show LamX.lamSB (defScope s__law_bound_right) _ = true by decide +kernel)) rfl (fun _ _ _ _ _ => rfl) (fun _ _ _ _ _ _ _ hr2 => (pe_call G_times_firstX hr2 (by rfl) m_times_firstX k_times_firstX b_times_firstX v_times_firstX (passes_call (takes_of rfl rfl rfl rfl) (fun _ _ _ _ h => h)) (pa_cons (pv 6) (pa_cons (pv 9) (pa_cons (pv 2) (pa_cons (pv 1) (pa_cons (pv 7) (pa_cons (pe_op op_pow pe_int pe_int) pa_nil))))))))) pe_str (nomark _))
        (pss_one (ps_ret pe_bl))
        pss_nil)
      (pss_cons (ps_set (i := 5) sc__law_bound_right.nd rfl (.inl rfl) (pe_op op_addN (pe_call G_times_first (hr.mono (by decide)) (by rfl) m_times_first k_times_first b_times_first v_times_first pass0 (pa_cons (pv 6) (pa_cons (pv 9) (pa_cons (pv 1) (pa_cons (pv 2) (pa_cons pe_int (pa_cons (pv 8) pa_nil))))))) (pe_call G_times_first (hr.mono (by decide)) (by rfl) m_times_first k_times_first b_times_first v_times_first pass0 (pa_cons (pv 6) (pa_cons (pv 9) (pa_cons (pv 2) (pa_cons (pv 1) (pa_cons (pv 4) (pa_cons (pv 8) pa_nil)))))))))
      (pss_one (ps_ret (pe_cmpR op_eq (pv 5) (pe_op op_subN pe_int (pe_op op_divN (pe_op op_subN (pv 7) (pv 4)) (pv 3))) (nomark _))))))))))), ?_⟩
    refine ⟨.ref tw, rfl, tw, _, rfl, .inl (.inl etw), rfl, _, _, rfl, _, _, rfl, rfl, ?_⟩
    refine ⟨_, rfl, _, rfl, t1, t2, c, 2, c, 3, f, e, rfl, hE.e1, hE.e2, hE.hp, hE.hq, hE.hp2, hE.hq2, hE.ha, hE.ho, hE.hm, fun g H1 tg hg s1 _ eg => ?_⟩
    refine ⟨tg, _, rfl, .inl (.inl eg), rfl, _, _, rfl, _, _, rfl, rfl, ?_⟩
    have hB : ∀ t, bothB c 2 c 3 t = true ↔ g ≤ t ∧ e ∣ t - g := fun t => both_at hE.hp hE.hq hE.hm hg
    have hgf := from_few hE.hp hE.hq hE.hm hg
    have hE1 := hE.same s1
    refine ⟨_, rfl, _, rfl, t1, t2, c, 2, c, 3, rfl, hE1.e1, hE1.e2, hE.hp, hE.hq, by omega, by omega, by omega, by omega, fun v H2 s2 hv _ => ?_⟩
    rcases hv with ⟨hn, rfl⟩ | ⟨_, tm, f', e', rfl, em, hm'⟩
    · exact absurd (by rw [Int.sub_self, Int.zero_emod]) hn
    obtain ⟨rfl, rfl⟩ := meet_same hE.hp hm' hE.hm
    refine ⟨tm, _, 0, _, rfl, rfl, .inl (.inl em), atI_nat (j := 0) rfl, ?_⟩
    refine ⟨_, rfl, _, rfl, 2000, e, rfl, rfl, nmul_l (by decide), f, 2000 * e, rfl, rfl, trivial, ?_⟩
    have s12 := s1.trans s2
    have hE2 := hE.same s12
    have hT2 := hT.ext s12
    have hy : f + 2000 * e < 20000 := by omega
    have m0 : meetM f e 0 = f := meetM_zero he1
    have hMf : meetM f e f = f := meetM_self he1 (Nat.le_refl _) (by rw [Nat.sub_self]; exact Nat.dvd_zero e)
    -- one more than two thousand
    refine ⟨hT2, fun H3 x3 hT3 => ?_⟩
    have hE3 := hE2.ext x3
    refine ⟨_, rfl, _, rfl, _, rfl, _, rfl, _, rfl, f + 2000 * e, 1, rfl, rfl, trivial, b, c, 2, c, 3, 0, f + 2000 * e + 1, f, e, ql, t1, t2, ws, rfl, hE.hb, hE.hb64, SqL.of hE3.hql, hE.hne, hE.h60, hE3.e1, hE3.e2, ⟨hE.hp, by decide⟩, ⟨hE.hq, by decide⟩, hE.hpq, by omega, by omega, Nat.zero_le _, by omega, hE.hm,
      by rw [m0, meetN_exact1 he1]; decide, fun H4 s4 => ⟨c_TooMany, 7, _, rfl, rfl, te, kd, rfl, fun H5 s5 => ?_⟩⟩
    refine ⟨rfl, false, nF rfl, iteF ?_⟩
    have x5 : LamX.ExtN H H5 := ((extN_same s12).trans x3).trans (extN_same (s4.trans s5))
    have hT5 := hT3.ext (s4.trans s5)
    have hE5 := hE.ext x5
    -- the same the other way about
    refine ⟨hT5, fun H6 x6 hT6 => ?_⟩
    have hE6 := hE5.ext x6
    have e50 : (10 : Int) ^ (50 : Int).toNat = ((100000000000000000000000000000000000000000000000000 : Nat) : Int) := by decide
    refine ⟨_, rfl, _, rfl, _, rfl, _, rfl, _, rfl, 10, 50, rfl, rfl, ⟨by decide, by decide, by decide⟩, b, c, 3, c, 2, g, 100000000000000000000000000000000000000000000000000, f, e, ql, t2, t1, ws, congrArg (fun z : Int => [V.int (b : Nat), .ref ql, .ref t2, .ref t1, .int (g : Nat), .int z]) e50, hE.hb, hE.hb64, SqL.of hE6.hql, hE.hne, hE.h60, hE6.e2, hE6.e1, ⟨hE.hq, by decide⟩, ⟨hE.hp, by decide⟩, fun z => hE.hpq z.symm, by omega, by omega, by omega, by decide, hE.hm.swap hE.hp,
      ?_, fun H7 s7 => ⟨c_TooMany, 7, _, rfl, rfl, te, kd, rfl, fun H8 s8 => ?_⟩⟩
    · rw [meetM_self he1 hg.1 hg.2.1]
      have z := meetN_exact (m := g) (n := 2001) he1
      have mono : meetN g e (g + 2001 * e) ≤ meetN g e 100000000000000000000000000000000000000000000000000 := by
        unfold meetN
        exact Nat.div_le_div_right (by omega)
      omega
    refine ⟨rfl, false, nF rfl, iteF ?_⟩
    have x8 : LamX.ExtN H H8 := (x5.trans x6).trans (extN_same (s7.trans s8))
    have hT8 := hT6.ext (s7.trans s8)
    have hE8 := hE.ext x8
    -- two thousand are counted
    refine ⟨_, rfl, _, rfl, _, rfl, _, rfl, _, rfl, b, c, 2, c, 3, 0, f + 2000 * e, ql, t1, t2, ws, rfl, hE.hb, hE.hb64, SqL.of hE8.hql, hE.hne, hE.h60, hE8.e1, hE8.e2, ⟨hE.hp, by decide⟩, ⟨hE.hq, by decide⟩, hE.hpq, by omega, by omega, Nat.zero_le _, by omega, hE.all (by rw [m0, meetN_exact he1]; decide), fun H9 s9 => ?_⟩
    have hE9 := hE8.same s9
    refine ⟨_, rfl, _, rfl, _, rfl, _, rfl, _, rfl, _, rfl, b, c, 3, c, 2, f, f + 2000 * e, ql, t2, t1, ws, rfl, hE.hb, hE.hb64, SqL.of hE9.hql, hE.hne, hE.h60, hE9.e2, hE9.e1, ⟨hE.hq, by decide⟩, ⟨hE.hp, by decide⟩, fun z => hE.hpq z.symm, by omega, by omega, by omega, by omega, hE.swap.all (by rw [hMf, meetN_exact he1]; decide), fun H10 s10 => ?_⟩
    obtain ⟨j, hj⟩ := hg.2.1
    have hjf : f + j * e = g := by
      have := hg.1
      rw [Nat.mul_comm]
      omega
    have hj2 : j ≤ 2000 := by
      have h6 : j * 6 ≤ 2 * 6 := by
        rw [he6] at hjf hgf
        omega
      omega
    have hsum : cntP (fun t => bothB c 2 c 3 t && ahB ws b 2 3 t) 0 (f + 2000 * e - 0) + cntP (fun t => bothB c 3 c 2 t && ahB ws b 3 2 t) f (f + 2000 * e - f) = 2000 - (g - f) / e := by
      rw [cnt_swap hE.hpq, Nat.sub_zero, Nat.add_sub_cancel_left, cntP_add, cntP_le f (cnt_before he1 hB hg.1), Nat.zero_add, Nat.zero_add, cntP_split]
      have z1 : cntP (fun t => bothB c 2 c 3 t) f (2000 * e) = cntP (fun t => bothB c 2 c 3 t) f (j * e) + cntP (fun t => bothB c 2 c 3 t) g ((2000 - j) * e) := by
        rw [← hjf, ← cntP_add, ← Nat.add_mul, show j + (2000 - j) = 2000 by omega]
      have z2 : cntP (fun t => bothB c 2 c 3 t) f (j * e) = 0 := cntP_zero _ fun t _ ht => by
        cases hp : bothB c 2 c 3 t with
        | false => rfl
        | true =>
          have := ((hB t).mp hp).1
          omega
      have z3 := cnt_from he1 hB 0 (2000 - j)
      rw [Nat.zero_mul, Nat.add_zero] at z3
      have z4 : (g - f) / e = j := by
        rw [hj, Nat.mul_div_cancel_left _ (by omega : 0 < e)]
      rw [z4]
      show cntP (fun t => bothB c 2 c 3 t) f (2000 * e) = _
      rw [z1, z2, Nat.zero_add]
      exact z3
    have hgf0 := hg.1
    refine ⟨_, _, rfl, rfl, trivial, _, rfl, _, rfl, _, rfl, g, f, rfl, rfl, (by show f ≤ g; omega), _, rfl, g - f, e, rfl, rfl, ndiv 10 (by omega) (by omega), 2000, (g - f) / e, rfl, rfl, ?_, rfl, ?_⟩
    · show (g - f) / e ≤ 2000
      rw [hj, Nat.mul_div_cancel_left _ (by omega : 0 < e)]
      exact hj2
    have z := fin H10 (x8.trans (extN_same (s9.trans s10))) (hT8.ext (s9.trans s10))
    rw [← decide_eq_true (vE hsum)] at z
    exact z
end
/-! ### the law's loop over its numbers -/
theorem seq_new {K : PySem.W.Frag} {a p : Addr} {xs : List V} {H H1 H2 : Hp} (h : SqL K H a xs) (hp : H p = none) (s1 : Same H H1) (s2 : Stp p H1 H2) : SqL K H2 a xs := by
  rcases h with (h | ⟨o, h⟩) | h
  · exact .inl (.inl (s2.keep _ _ (ne_of_none h hp) (s1 _ _ h)))
  · exact .inl (.inr ⟨o, s2.keep _ _ (ne_of_none h hp) (s1 _ _ h)⟩)
  · exact .inr h
/-! ### law k36: the law itself -/
theorem same_new {p : Addr} {H H1 H2 : Hp} (hp : H p = none) (s1 : Same H H1) (s2 : Stp p H1 H2) : Same H H2 := fun b o e => s2.keep b o (ne_of_none e hp) (s1 b o e)
theorem meet_equal {a p q : Nat} (hp : 1 ≤ p) (hq : 1 ≤ q) : IsMeet a p a q a (p / Nat.gcd p q * q) := by
  have := lcm_pos hp hq
  exact ⟨rfl, by omega, by omega, by rw [Nat.sub_self]; exact Nat.dvd_zero p, by rw [Nat.sub_self]; exact Nat.dvd_zero q⟩
section
variable {P : Program} {w : World} {K : PySem.W.Frag} {mg : Str → Option Value} {base : Heap}
def spLaw (K : PySem.W.Frag) (lamT : List (Addr × Str)) : Sp := fun vs H Q _ => ∃ (a : Addr) (ns : List Int), vs = [.ref a] ∧ SqL K H a (ns.map V.int) ∧ ns.length ≤ 63 ∧ LamX.Tabs lamT H ∧ ∀ H', Q (.bl true) H'
theorem ok_law {f : Addr} {fd : FuncData} {lamT : List (Addr × Str)} (F : Fun K "law" "law" s_law f fd) (T : Tx K mg) (h1 : Has P w K mg base 2 "_law_source" ["_law_script", "_law_k"] [] (spSource K)) (h2 : Has P w K mg base 3 "_law_base" ["_law_source_here"] [] spBase)
    (h3 : Has P w K mg base 3 "_law_levels" ["_law_source_here"] [] spLevels) (h4 : Has P w K mg base 2 "_law_next" ["_law_source_here", "_law_many"] [] spNext) (h5 : Has P w K mg base 3 "_law_pair" ["_law_source_here", "_law_measure"] [] spPair36)
    (h6 : Has P w K mg base 5 "common" ["one", "other"] [] spMeet) (h7 : Has P w K mg base 7 "_law_range_right" ["_law_source_here", "_law_wheel", "_law_one", "_law_two", "_law_most"] [] (spRange36 K))
    (h8 : Has P w K mg base 9 "_law_bound_right" ["_law_wheel", "_law_one", "_law_two"] [] (spBound36 K lamT)) :
    FnOk P w K mg base CX0 10 f fd ["_law_script"] (spLaw K lamT) := by
  obtain ⟨f__law_source, fd__law_source, ds__law_source, G__law_source, m__law_source, k__law_source, b__law_source, v__law_source⟩ := h1
  obtain ⟨f__law_base, fd__law_base, ds__law_base, G__law_base, m__law_base, k__law_base, b__law_base, v__law_base⟩ := h2
  obtain ⟨f__law_levels, fd__law_levels, ds__law_levels, G__law_levels, m__law_levels, k__law_levels, b__law_levels, v__law_levels⟩ := h3
  obtain ⟨f__law_next, fd__law_next, ds__law_next, G__law_next, m__law_next, k__law_next, b__law_next, v__law_next⟩ := h4
  obtain ⟨f__law_pair, fd__law_pair, ds__law_pair, G__law_pair, m__law_pair, k__law_pair, b__law_pair, v__law_pair⟩ := h5
  obtain ⟨f_common, fd_common, ds_common, G_common, m_common, k_common, b_common, v_common⟩ := h6
  obtain ⟨f__law_range_right, fd__law_range_right, ds__law_range_right, G__law_range_right, m__law_range_right, k__law_range_right, b__law_range_right, v__law_range_right⟩ := h7
  obtain ⟨f__law_bound_right, fd__law_bound_right, ds__law_bound_right, G__law_bound_right, m__law_bound_right, k__law_bound_right, b__law_bound_right, v__law_bound_right⟩ := h8
  refine F.ok sc_law (fun vs H Q E h => ?_) (fun cdv A outer s H vs Q E hr h => ?_)
  · obtain ⟨a, ns, rfl, _⟩ := h
    rfl
  · obtain ⟨a, ns, rfl, hS, hlen, hT, q⟩ := h
    refine ⟨_, (pss_cons (ps_for PassesOwn.never rfl (pi_range1 (by rfl) T.b_range (pa_cons (pe_callB (call_max2 rfl) (by rfl) T.b_max (by decide +kernel) (pa_cons pe_int (pa_cons (pe_callB (call_min2 rfl) (by rfl) T.b_min (by decide +kernel) (pa_cons pe_int (pa_cons (pe_callB (lenK (K := K) rfl) (by rfl) T.b_len PySem.boot_len (pa_cons (pv 0) pa_nil)) pa_nil))) pa_nil))) pa_nil)) (pg_name (i := 1) sc_law.nd rfl (.inl rfl))
        (pss_cons (ps_set (i := 2) sc_law.nd rfl (.inl rfl) (pe_call G__law_source (hr.mono (by decide)) (by rfl) m__law_source k__law_source b__law_source v__law_source pass0 (pa_cons (pv 0) (pa_cons (pv 1) pa_nil))))
        (pss_cons (ps_set (i := 3) sc_law.nd rfl (.inl rfl) (pe_tup (pa_cons (pe_call G__law_base (hr.mono (by decide)) (by rfl) m__law_base k__law_base b__law_base v__law_base pass0 (pa_cons (pv 2) pa_nil)) (pa_cons (pe_call G__law_levels (hr.mono (by decide)) (by rfl) m__law_levels k__law_levels b__law_levels v__law_levels pass0 (pa_cons (pv 2) pa_nil)) pa_nil))))
        (pss_cons (ps_set (i := 4) sc_law.nd rfl (.inl rfl) (pe_ix (ix_listK (K := K) rfl) (pe_lst (pa_cons pe_int (pa_cons pe_int (pa_cons (pe_op op_addN pe_int (pe_call G__law_next (hr.mono (by decide)) (by rfl) m__law_next k__law_next b__law_next v__law_next pass0 (pa_cons (pv 2) (pa_cons pe_int pa_nil)))) (pa_cons (pe_op op_pow pe_int pe_int) pa_nil))))) (pe_call G__law_next (hr.mono (by decide)) (by rfl) m__law_next k__law_next b__law_next v__law_next pass0 (pa_cons (pv 2) (pa_cons pe_int pa_nil))) (fun _ _ => rfl)))
        (pss_cons (ps_par (i := 5) (j := 6) (by rfl) sc_law.nd rfl rfl (by decide) rfl rfl (pa_cons (pe_call G__law_pair (hr.mono (by decide)) (by rfl) m__law_pair k__law_pair b__law_pair v__law_pair pass0 (pa_cons (pv 2) (pa_cons (pv 4) pa_nil))) (pa_cons (pe_call G__law_pair (hr.mono (by decide)) (by rfl) m__law_pair k__law_pair b__law_pair v__law_pair pass0 (pa_cons (pv 2) (pa_cons (pv 4) pa_nil))) pa_nil)) (by rfl))
        (pss_cons (ps_if (pt_cmpR op_eq (pe_ix (ix_tupK (K := K) rfl) (pv 5) pe_int (fun _ _ => rfl)) (pe_ix (ix_tupK (K := K) rfl) (pv 6) pe_int (fun _ _ => rfl)) (nomark _))
          (pss_one (ps_set (i := 6) sc_law.nd rfl (.inl rfl) (pe_tup (pa_cons (pe_ix (ix_tupK (K := K) rfl) (pv 6) pe_int (fun _ _ => rfl)) (pa_cons (pe_op op_addN (pe_ix (ix_tupK (K := K) rfl) (pv 6) pe_int (fun _ _ => rfl)) (pv 4)) pa_nil)))))
          pss_nil)
        (pss_cons (ps_if (pt_cmpR op_isN (pe_call G_common (hr.mono (by decide)) (by rfl) m_common k_common b_common v_common pass0 (pa_cons (pv 5) (pa_cons (pv 6) pa_nil))) pe_non (nomark _))
          (pss_one (ps_set (i := 6) sc_law.nd rfl (.inl rfl) (pe_tup (pa_cons (pe_ix (ix_tupK (K := K) rfl) (pv 5) pe_int (fun _ _ => rfl)) (pa_cons (pe_ix (ix_tupK (K := K) rfl) (pv 6) pe_int (fun _ _ => rfl)) pa_nil)))))
          pss_nil)
        (pss_cons (ps_for PassesOwn.never rfl (pi_range1 (by rfl) T.b_range (pa_cons pe_int pa_nil)) (pg_name (i := 7) sc_law.nd rfl (.inl rfl))
          (pss_one (ps_if (pt_not (pt_val (pe_call G__law_range_right (hr.mono (by decide)) (by rfl) m__law_range_right k__law_range_right b__law_range_right v__law_range_right pass0 (pa_cons (pv 2) (pa_cons (pv 3) (pa_cons (pv 5) (pa_cons (pv 6) (pa_cons (pe_ix (ix_listK (K := K) rfl) (pe_lst (pa_cons pe_int (pa_cons pe_int (pa_cons pe_int pa_nil)))) (pv 7) (fun _ _ => rfl)) pa_nil))))))))
            (pss_one (ps_ret pe_bl))
            pss_nil)))
        (pss_one (ps_if (PW.pt (pw_and (pt_cmpR op_eq (pv 1) pe_int (nomark _)) (pw_and1 (pt_not (pt_val (pe_call G__law_bound_right hr (by rfl) m__law_bound_right k__law_bound_right b__law_bound_right v__law_bound_right pass0 (pa_cons (pv 3) (pa_cons (pe_tup (pa_cons (pe_op op_remN (pe_ix (ix_tupK (K := K) rfl) (pv 5) pe_int (fun _ _ => rfl)) pe_int) (pa_cons pe_int pa_nil))) (pa_cons (pe_tup (pa_cons (pe_op op_remN (pe_ix (ix_tupK (K := K) rfl) (pv 5) pe_int (fun _ _ => rfl)) pe_int) (pa_cons pe_int pa_nil))) pa_nil)))))))))
          (pss_one (ps_ret pe_bl))
          pss_nil))))))))))
      (pss_one (ps_ret pe_bl))), ?_⟩
    refine ⟨.ref a, rfl, a, ns.map V.int, rfl, .inl hS, 3, _, rfl, 1, _, rfl, _, rfl, ?_, ?_, for_range (Pv := fun i σ H' => SqL K H' a (ns.map V.int) ∧ LamX.Tabs lamT H' ∧ ∃ y1 y2 y3 y4 y5 y6 y7, σ = [some (.ref a), y1, y2, y3, y4, y5, y6, y7]) ⟨hS, hT, none, none, none, none, none, none, none, rfl⟩ ?_ ?_⟩
    · split <;> split <;> omega
    · rw [List.length_map]
      split <;> split <;> omega
    · rintro i0 σ H0 hi ⟨hS, hT, y1, y2, y3, y4, y5, y6, y7, rfl⟩
      refine ⟨_, rfl, _, rfl, a, ns, 0 + i0, rfl, hS, fun H1 p s1 hp0 hsrc => ?_⟩
      -- base, levels
      refine ⟨_, rfl, p, rfl, hsrc, fun b H2 hb hb64 s2 => ⟨_, rfl, p, rfl, s2.src, fun H3 ql ws s3 hql0 hql hne h60 => ⟨by simp [sizeLine_eq], fun tw htw => ?_⟩⟩⟩
      have nql : ql ≠ p := s2.src.ne hql0
      have s4 : Stp p H3 (upd H3 tw (.tup [.int (b : Nat), .ref ql])) := s3.src.stp_same (same_upd htw)
      have etw : (upd H3 tw (.tup [.int (b : Nat), .ref ql])) tw = some (.tup [.int (b : Nat), .ref ql]) := upd_same
      have hql4 := (same_upd (o := .tup [.int (b : Nat), .ref ql]) htw) _ _ hql
      have ntw : tw ≠ p := s3.src.ne htw
      generalize upd H3 tw (.tup [.int (b : Nat), .ref ql]) = H4 at s4 etw hql4 ⊢
      have s14 := (s2.trans s3).trans s4
      -- measure
      refine ⟨_, rfl, p, 60, rfl, by decide, by decide, s4.src, fun r5 H5 hr5 s5 => ⟨1, r5, rfl, rfl, trivial, 10, 9, rfl, rfl, ⟨by decide, by decide, by decide⟩, by simp [sizeLine_eq], fun l hl => ?_⟩⟩
      have nl := s5.src.ne hl
      have s6 : Stp p H5 (upd H5 l (.lst [.int 1, .int 2, .int ((1 + r5 : Nat) : Int), .int (10 ^ (9 : Int).toNat)])) := s5.src.stp_same (same_upd hl)
      refine ⟨_, rfl, p, 4, rfl, by decide, by decide, s6.src, fun c H7 hc s7 => ?_⟩
      have el := s7.keep _ _ nl upd_same
      obtain ⟨m, hm1, hm2, em⟩ : ∃ m : Nat, 1 ≤ m ∧ m ≤ 1000000000 ∧ ([.int 1, .int 2, .int ((1 + r5 : Nat) : Int), .int (10 ^ (9 : Int).toNat)] : List V)[c]? = some (.int (m : Nat)) := by
        have hc4 : c < 4 := by omega
        match c, hc4 with
        | 0, _ => exact ⟨1, by decide, by decide, rfl⟩
        | 1, _ => exact ⟨2, by decide, by decide, rfl⟩
        | 2, _ => exact ⟨1 + r5, by omega, by omega, rfl⟩
        | 3, _ => exact ⟨1000000000, by decide, by decide, rfl⟩
        | c + 4, h => omega
      refine ⟨l, _, c, _, rfl, rfl, SqL.of el, atI_nat em, ?_⟩
      have s17 := (((s14.trans s5).trans s6).trans s7)
      -- two timers
      refine ⟨_, rfl, _, rfl, p, m, rfl, hm1, hm2, s7.src, fun a1 q1 H8 T1 ha1 hq1 hq1' s8 hT1 eT1 => ?_⟩
      refine ⟨_, rfl, _, rfl, p, m, rfl, hm1, hm2, s8.src, fun a2 q2 H9 T2 ha2 hq2 hq2' s9 hT2 eT2 => ⟨.ref T1, .ref T2, rfl, ?_⟩⟩
      have nT1 : T1 ≠ p := s7.src.ne hT1
      have eT1' := s9.keep _ _ nT1 eT1
      have s19 : Stp p H1 H9 := (s17.trans s8).trans s9
      have etw9 := ((((s5.trans s6).trans s7).trans s8).trans s9).keep _ _ ntw etw
      have hql9 := ((((s5.trans s6).trans s7).trans s8).trans s9).keep _ _ nql hql4
      -- unlike periods
      apply cut_at (I := fun (T2 : Addr) (H10 : Hp) => ∃ (q2 : Nat), q1 ≠ q2 ∧ 1 ≤ q2 ∧ q2 < 2 ^ 75 ∧ Same H9 H10 ∧ H10 T2 = some (.tup [.int (a2 : Nat), .int (q2 : Nat)]))
      · intro rest
        refine ⟨.ref T1, rfl, T1, _, 1, _, rfl, rfl, .inl (.inl eT1'), atI_nat (j := 1) rfl, .ref T2, rfl, T2, _, 1, _, rfl, rfl, .inl (.inl eT2), atI_nat (j := 1) rfl, rfl, decide (q1 = q2), ?_, ?_⟩
        · by_cases e : q1 = q2
          · rw [decide_eq_true e]
            exact dT (vE e)
          · rw [decide_eq_false e]
            exact dF (vN e)
        by_cases e : q1 = q2
        · rw [decide_eq_true e]
          refine iteT ⟨.ref T2, rfl, T2, _, 0, _, rfl, rfl, .inl (.inl eT2), atI_nat (j := 0) rfl, .ref T2, rfl, T2, _, 1, _, rfl, rfl, .inl (.inl eT2), atI_nat (j := 1) rfl, _, rfl, q2, m, rfl, rfl, trivial, by simp [sizeLine_eq], fun T3 hT3 => ?_⟩
          have s10 := same_upd (o := .tup [.int (a2 : Nat), .int ((q2 + m : Nat) : Int)]) hT3
          have eT3 : (upd H9 T3 (.tup [.int (a2 : Nat), .int ((q2 + m : Nat) : Int)])) T3 = some (.tup [.int (a2 : Nat), .int ((q2 + m : Nat) : Int)]) := upd_same
          generalize upd H9 T3 (.tup [.int (a2 : Nat), .int ((q2 + m : Nat) : Int)]) = H10 at s10 eT3 ⊢
          exact rest T3 H10 ⟨q2 + m, by omega, by omega, by omega, s10, eT3⟩
        · rw [decide_eq_false e]
          exact iteF (rest T2 H9 ⟨q2, e, hq2, by omega, fun _ _ e => e, eT2⟩)
      rintro T2 H10 ⟨q2, hne12, hq2, hq2', s10, eT2⟩
      -- that meet
      apply cut_at (I := fun (T2 : Addr) (H11 : Hp) => ∃ (o f e : Nat), o < 2 ^ 101 ∧ IsMeet a1 q1 o q2 f e ∧ Same H10 H11 ∧ H11 T2 = some (.tup [.int (o : Nat), .int (q2 : Nat)]))
      · intro rest
        refine ⟨_, rfl, _, rfl, T1, T2, a1, q1, a2, q2, rfl, s10 _ _ eT1', eT2, hq1, hq2, by omega, by omega, by omega, by omega, fun v H11 s11 hv _ => ?_⟩
        rcases hv with ⟨hn, rfl⟩ | ⟨_, tm, f, e, rfl, em, hm⟩
        · refine ⟨rfl, true, rfl, iteT ?_⟩
          have eT1B := s11 _ _ (s10 _ _ eT1')
          have eT2B := s11 _ _ eT2
          refine ⟨.ref T1, rfl, T1, _, 0, _, rfl, rfl, .inl (.inl eT1B), atI_nat (j := 0) rfl, .ref T2, rfl, T2, _, 1, _, rfl, rfl, .inl (.inl eT2B), atI_nat (j := 1) rfl, by simp [sizeLine_eq], fun T3 hT3 => ?_⟩
          have s12 := same_upd (o := .tup [.int (a1 : Nat), .int (q2 : Nat)]) hT3
          have eT3 : (upd H11 T3 (.tup [.int (a1 : Nat), .int (q2 : Nat)])) T3 = some (.tup [.int (a1 : Nat), .int (q2 : Nat)]) := upd_same
          generalize upd H11 T3 (.tup [.int (a1 : Nat), .int (q2 : Nat)]) = H12 at s12 eT3 ⊢
          exact rest T3 H12 ⟨a1, a1, _, by omega, meet_equal hq1 hq2, s11.trans s12, eT3⟩
        · exact ⟨rfl, false, rfl, iteF (rest T2 H11 ⟨a2, f, e, by omega, hm, s11, s11 _ _ eT2⟩)⟩
      rintro T2 H11 ⟨o, f, e, ho, hm, s11, eT2⟩
      have s911 : Same H9 H11 := s10.trans s11
      have s111 : Stp p H1 H11 := s19.same s911
      have eT1C := s911 _ _ eT1'
      have hE : E36 K H11 b a1 q1 o q2 f e ql T1 T2 ws := ⟨hb, hb64, s911 _ _ hql9, hne, h60, eT1C, eT2, hq1, hq2, by omega, by omega, hne12, by omega, ho, hm⟩
      have etwC := s911 _ _ etw9
      -- three ranges
      refine ⟨3, rfl, by decide, by decide, for_range (lo := 0) (n := 3) (Pv := fun i σ H' => (∃ y, σ = [some (.ref a), some (.int (0 + (i0 : Int))), some (.ref p), some (.ref tw), some (.int (m : Nat)), some (.ref T1), some (.ref T2), y]) ∧ Stp p H11 H') ⟨⟨_, rfl⟩, Stp.refl s111.src⟩ ?_ ?_⟩
      · rintro i σ H' hi3 ⟨⟨y, rfl⟩, st⟩
        refine ⟨_, rfl, _, rfl, _, rfl, _, rfl, by simp [sizeLine_eq], fun l2 hl2 => ?_⟩
        have s12 := same_upd (o := .lst [.int 3, .int 40, .int 200]) hl2
        obtain ⟨mo, emo, hmo0, hmo1⟩ : ∃ mo : Nat, ([.int 3, .int 40, .int 200] : List V)[i]? = some (.int (mo : Nat)) ∧ 1 ≤ mo ∧ mo ≤ 200 := by
          have hi4 : i < 3 := hi3
          match i, hi4 with
          | 0, _ => exact ⟨3, rfl, by decide, by decide⟩
          | 1, _ => exact ⟨40, rfl, by decide, by decide⟩
          | 2, _ => exact ⟨200, rfl, by decide, by decide⟩
          | c + 3, h => omega
        have st2 := st.same s12
        have e0i : (0 : Int) + (i : Int) = ((i : Nat) : Int) := by omega
        refine ⟨_, rfl, l2, _, (i : Nat), _, rfl, congrArg V.int e0i, SqL.of upd_same, atI_nat emo, p, tw, T1, T2, ql, b, a1, q1, o, q2, f, e, mo, ws, rfl, st2.src, st2.keep _ _ ntw etwC, hE.stp s111.src st2, hmo0, hmo1, fun H13 s13 => ⟨true, rfl, iteF ?_⟩⟩
        exact ⟨⟨_, rfl⟩, st2.trans s13⟩
      · rintro σ H12 ⟨⟨y, rfl⟩, st⟩
        have eT1D := st.keep _ _ nT1 eT1C
        have sall : Same H0 H12 := same_new hp0 s1 (s111.trans st)
        by_cases hk : i0 = 0
        · refine ⟨_, rfl, rfl, true, dT (by rw [hk]; rfl), iteT ?_⟩
          have hc : a1 % 1000 < 1000 := Nat.mod_lt _ (by decide)
          refine ⟨_, rfl, .ref T1, rfl, T1, _, 0, _, rfl, rfl, .inl (.inl eT1D), atI_nat (j := 0) rfl, a1, 1000, rfl, rfl, (by show 0 < 1000; decide), by simp [sizeLine_eq], fun u1 hu1 => ?_⟩
          have t1 := same_upd (o := .tup [.int ((a1 % 1000 : Nat) : Int), .int 2]) hu1
          have eu1 : (upd H12 u1 (.tup [.int ((a1 % 1000 : Nat) : Int), .int 2])) u1 = some (.tup [.int ((a1 % 1000 : Nat) : Int), .int ((2 : Nat) : Int)]) := upd_same
          refine ⟨.ref T1, rfl, T1, _, 0, _, rfl, rfl, .inl (.inl (t1 _ _ eT1D)), atI_nat (j := 0) rfl, a1, 1000, rfl, rfl, (by show 0 < 1000; decide), by simp [sizeLine_eq], fun u2 hu2 => ?_⟩
          have t2 := same_upd (o := .tup [.int ((a1 % 1000 : Nat) : Int), .int 3]) hu2
          have eu2 : (upd (upd H12 u1 (.tup [.int ((a1 % 1000 : Nat) : Int), .int 2])) u2 (.tup [.int ((a1 % 1000 : Nat) : Int), .int 3])) u2 = some (.tup [.int ((a1 % 1000 : Nat) : Int), .int ((3 : Nat) : Int)]) := upd_same
          have eu1' := t2 _ _ eu1
          have t12 := t1.trans t2
          refine ⟨tw, u1, u2, ql, b, a1 % 1000, a1 % 1000, _, ws, rfl, hT.ext (sall.trans t12), t12 _ _ (st.keep _ _ ntw etwC), ⟨hb, hb64, t12 _ _ (st.keep _ _ nql hE.hql), hne, h60, eu1', eu2, by decide, by decide, by decide, by decide, by decide, by omega, by omega, meet_equal (by decide) (by decide)⟩, hc, fun H15 x15 hT15 => ⟨true, rfl, iteF ?_⟩⟩
          exact ⟨ExtN.seq ((extN_same (sall.trans t12)).trans x15) hS, hT15, _, _, _, _, _, _, _, rfl⟩
        · refine ⟨_, rfl, rfl, false, dF (fun z => hk (by have y := V.int.inj z; omega)), iteF (iteF ?_)⟩
          exact ⟨sall.seq hS, hT.ext sall, _, _, _, _, _, _, _, rfl⟩
    · rintro σ H' ⟨hS, hT, y1, y2, y3, y4, y5, y6, y7, rfl⟩
      exact q H'
end
/-! ### classes of errors, told apart -/
section
variable {K : PySem.W.Frag}
theorem cls_ok {O : Addr} (hd : PySem.W.hasDictIn K O = true) (ht : PySem.W.typeIn K (.ref O) = some (.type "type")) : ((PySem.W.clsIn K O).isSome && PySem.W.typeIn K (.ref O) == some (.type "type")) = true := by
  obtain ⟨cd, hc, _⟩ := PySem.W.any_some hd
  rw [hc, ht] <;> rfl
/-- an error of one class is none of another -/
theorem kit_no {N O : Addr} (hN : PySem.W.subIn K (.ref N) (.ref N) = some true) (hd : PySem.W.hasDictIn K O = true) (ht : PySem.W.typeIn K (.ref O) = some (.type "type")) (h : PySem.W.subIn K (.ref N) (.ref O) = some false) : PySem.W.kitOne K (.ref N) (.ref O) = some false := by
  have ne : ¬ (Value.ref N == Value.ref O) = true := fun q => by
    have e : N = O := Value.ref.inj (beq_iff_eq.mp q)
    subst e
    rw [hN] at h
    cases h
  have e2 := cls_ok hd ht
  unfold PySem.W.kitOne
  rw [if_neg ne]
  show (if ((PySem.W.clsIn K O).isSome && PySem.W.typeIn K (.ref O) == some (.type "type")) = true then PySem.W.subIn K (.ref N) (.ref O) else none) = some false
  rw [if_pos e2]
  exact h
end
section
variable {K : PySem.W.Frag}
theorem kit_self (N : Addr) : PySem.W.kitOne K (.ref N) (.ref N) = some true := by
  unfold PySem.W.kitOne
  rw [if_pos (beq_self_eq_true _)]
theorem kit_ve {N : Addr} (h : PySem.W.subIn K (.ref N) (.type "ValueError") = some true) : PySem.W.kitOne K (.ref N) (.type "ValueError") = some true := by
  have ne : ¬ (Value.ref N == Value.type "ValueError") = true := fun q => by
    have e : Value.ref N = Value.type "ValueError" := beq_iff_eq.mp q
    cases e
  unfold PySem.W.kitOne
  rw [if_neg ne]
  show (if PySem.W.kitMeta "ValueError" = true then PySem.W.subIn K (.ref N) (.type "ValueError") else none) = some true
  rw [if_pos (by decide +kernel)]
  exact h
end
/-- an error of the j-th class of eight -/
theorem kind8_of {K : PySem.W.Frag} {N c0 c1 c2 c3 c4 c5 c6 c7 : Addr} (j : Nat) (ec : ExcC K N) (ve : PySem.W.subIn K (.ref N) (.type "ValueError") = some true) (lt : j < 8)
    (h : ∀ i c, [c0, c1, c2, c3, c4, c5, c6, c7][i]? = some c → (i = j → c = N) ∧ (i ≠ j → PySem.W.kitOne K (.ref N) (.ref c) = some false)) : Kind8 K N [c0, c1, c2, c3, c4, c5, c6, c7] j := ⟨ec, kit_ve ve, lt, fun i c hc => by
  obtain ⟨h1, h2⟩ := h i c hc
  by_cases e : i = j
  · rw [h1 e, decide_eq_true e]
    exact kit_self N
  · rw [decide_eq_false e]
    exact h2 e⟩
theorem eight_at {c0 c1 c2 c3 c4 c5 c6 c7 : Addr} {Pr : Nat → Addr → Prop} (h0 : Pr 0 c0) (h1 : Pr 1 c1) (h2 : Pr 2 c2) (h3 : Pr 3 c3) (h4 : Pr 4 c4) (h5 : Pr 5 c5) (h6 : Pr 6 c6) (h7 : Pr 7 c7) : ∀ i c, [c0, c1, c2, c3, c4, c5, c6, c7][i]? = some c → Pr i c := fun i c hc => by
  match i, hc with
  | 0, hc => cases hc; exact h0
  | 1, hc => cases hc; exact h1
  | 2, hc => cases hc; exact h2
  | 3, hc => cases hc; exact h3
  | 4, hc => cases hc; exact h4
  | 5, hc => cases hc; exact h5
  | 6, hc => cases hc; exact h6
  | 7, hc => cases hc; exact h7
  | i + 8, hc => cases hc
theorem all_mk {l : PySem.W.OpenLaw} {w : World} {K : PySem.W.Frag} {h : Heap} {mg : Str → Option Value} {fa : Addr} {ts : List Addr} (X : K.In h) (G : h.Ns mainGlobals mg) (hfa : mg "law" = some (.ref fa)) (hT8 : ∀ Pt ∈ ts, h.get? Pt = some (PySem.W.tabObj #[]))
    {f_WORDS : Addr} {od_WORDS : Option Addr} {tk0_WORDS tk1_WORDS : Tok} {tn_WORDS : Nat} {ts_WORDS : Array (Option Value)}
    {tk_MOST_LEVELS : Tok}
    {tk_MOST_MEETINGS : Tok}
    {f_is_integer f_is_word f_is_base f_is_length f_are_levels f_is_tick f_is_period f_check_base f_check_levels f_check_tick f_word_at f_level_and_size f_path f_goes_in_front f_is_periodic f_check_periodic f_check_two f_fires_again f_divisor_and_factor f_meetings f_is_ahead f_common f_first_of_two f_times_first f_law_cell_at f_law_mixed f_law_source f_law_next f_law_base f_law_levels f_law_word f_law_pair f_law_from f_law_range_right f_law_bound_right f_law : Addr}
    {od_is_integer an_is_integer od_is_word an_is_word od_is_base an_is_base od_is_length an_is_length od_are_levels an_are_levels od_is_tick an_is_tick od_is_period an_is_period od_check_base an_check_base od_check_levels an_check_levels od_check_tick an_check_tick od_word_at an_word_at od_level_and_size an_level_and_size od_path an_path od_goes_in_front an_goes_in_front od_is_periodic an_is_periodic od_check_periodic an_check_periodic od_check_two an_check_two od_fires_again an_fires_again od_divisor_and_factor an_divisor_and_factor od_meetings an_meetings od_is_ahead an_is_ahead od_common an_common od_first_of_two an_first_of_two od_times_first an_times_first od_law_cell_at an_law_cell_at od_law_mixed an_law_mixed od_law_source an_law_source od_law_next an_law_next od_law_base an_law_base od_law_levels an_law_levels od_law_word an_law_word od_law_pair an_law_pair od_law_from an_law_from od_law_range_right an_law_range_right od_law_bound_right an_law_bound_right od_law an_law : Option Addr}
    {sl_is_integer sl_is_word sl_is_base sl_is_length sl_are_levels sl_is_tick sl_is_period sl_check_base sl_check_levels sl_check_tick sl_word_at sl_level_and_size sl_path sl_goes_in_front sl_is_periodic sl_check_periodic sl_check_two sl_fires_again sl_divisor_and_factor sl_meetings sl_is_ahead sl_common sl_first_of_two sl_times_first sl_law_cell_at sl_law_mixed sl_law_source sl_law_next sl_law_base sl_law_levels sl_law_word sl_law_pair sl_law_from sl_law_range_right sl_law_bound_right sl_law : Array (Option Value)}
    {oc_is_integer kV_is_integer dc_is_integer pm_is_integer cd_is_integer ct_is_integer oc_is_word kV_is_word dc_is_word pm_is_word cd_is_word ct_is_word oc_is_base kV_is_base dc_is_base pm_is_base cd_is_base ct_is_base oc_is_length kV_is_length dc_is_length pm_is_length cd_is_length ct_is_length oc_are_levels kV_are_levels dc_are_levels pm_are_levels cd_are_levels ct_are_levels oc_is_tick kV_is_tick dc_is_tick pm_is_tick cd_is_tick ct_is_tick oc_is_period kV_is_period dc_is_period pm_is_period cd_is_period ct_is_period oc_check_base kV_check_base dc_check_base pm_check_base cd_check_base ct_check_base oc_check_levels kV_check_levels dc_check_levels pm_check_levels cd_check_levels ct_check_levels oc_check_tick kV_check_tick dc_check_tick pm_check_tick cd_check_tick ct_check_tick oc_word_at kV_word_at dc_word_at pm_word_at cd_word_at ct_word_at oc_level_and_size kV_level_and_size dc_level_and_size pm_level_and_size cd_level_and_size ct_level_and_size oc_path kV_path dc_path pm_path cd_path ct_path oc_goes_in_front kV_goes_in_front dc_goes_in_front pm_goes_in_front cd_goes_in_front ct_goes_in_front oc_is_periodic kV_is_periodic dc_is_periodic pm_is_periodic cd_is_periodic ct_is_periodic oc_check_periodic kV_check_periodic dc_check_periodic pm_check_periodic cd_check_periodic ct_check_periodic oc_check_two kV_check_two dc_check_two pm_check_two cd_check_two ct_check_two oc_fires_again kV_fires_again dc_fires_again pm_fires_again cd_fires_again ct_fires_again oc_divisor_and_factor kV_divisor_and_factor dc_divisor_and_factor pm_divisor_and_factor cd_divisor_and_factor ct_divisor_and_factor oc_meetings kV_meetings dc_meetings pm_meetings cd_meetings ct_meetings oc_is_ahead kV_is_ahead dc_is_ahead pm_is_ahead cd_is_ahead ct_is_ahead oc_common kV_common dc_common pm_common cd_common ct_common oc_first_of_two kV_first_of_two dc_first_of_two pm_first_of_two cd_first_of_two ct_first_of_two oc_times_first kV_times_first dc_times_first pm_times_first cd_times_first ct_times_first oc_law_cell_at kV_law_cell_at dc_law_cell_at pm_law_cell_at cd_law_cell_at ct_law_cell_at oc_law_mixed kV_law_mixed dc_law_mixed pm_law_mixed cd_law_mixed ct_law_mixed oc_law_source kV_law_source dc_law_source pm_law_source cd_law_source ct_law_source oc_law_next kV_law_next dc_law_next pm_law_next cd_law_next ct_law_next oc_law_base kV_law_base dc_law_base pm_law_base cd_law_base ct_law_base oc_law_levels kV_law_levels dc_law_levels pm_law_levels cd_law_levels ct_law_levels oc_law_word kV_law_word dc_law_word pm_law_word cd_law_word ct_law_word oc_law_pair kV_law_pair dc_law_pair pm_law_pair cd_law_pair ct_law_pair oc_law_from kV_law_from dc_law_from pm_law_from cd_law_from ct_law_from oc_law_range_right kV_law_range_right dc_law_range_right pm_law_range_right cd_law_range_right ct_law_range_right oc_law_bound_right kV_law_bound_right dc_law_bound_right pm_law_bound_right ct_law_bound_right oc_law kV_law dc_law pm_law cd_law ct_law : Value}
    {c_TooMany c_TimerError c_NoBase c_NoLevels c_NoTick c_NoPeriod c_NoTimer c_NoOrder c_NoSighting : Addr}
    {dT_is_tick : Addr} {tc_is_tick : Value} {td_is_tick : Option Addr} {tt_is_tick : Tok} {tn_is_tick : Nat} {ts_is_tick : Array (Option Value)}
    {dT_check_tick : Addr} {tc_check_tick : Value} {td_check_tick : Option Addr} {tt_check_tick : Tok} {tn_check_tick : Nat} {ts_check_tick : Array (Option Value)}
    {cc_law_bound_right P_law_bound_right : Addr} {dd_law_bound_right : Option Addr} {vs_law_bound_right : Array Value} {sv_law_bound_right : Array (Option Value)}
    (a_is_integer : PySem.W.nsIn K mainGlobals "is_integer" = some (some (.ref f_is_integer)))
    (l_is_integer : K.lookup f_is_integer = some ⟨oc_is_integer, od_is_integer, .func (PySem.W.fnOf "is_integer" "is_integer" (defArgs s_is_integer) (defBody s_is_integer) (defScope s_is_integer) .none kV_is_integer dc_is_integer pm_is_integer an_is_integer cd_is_integer ct_is_integer), sl_is_integer⟩)
    (c_is_integer : PySem.W.codeIn K cd_is_integer "is_integer" = true) (k_is_integer : PySem.W.keepIn K (.ref f_is_integer) = true)
    (a_is_word : PySem.W.nsIn K mainGlobals "is_word" = some (some (.ref f_is_word)))
    (l_is_word : K.lookup f_is_word = some ⟨oc_is_word, od_is_word, .func (PySem.W.fnOf "is_word" "is_word" (defArgs s_is_word) (defBody s_is_word) (defScope s_is_word) .none kV_is_word dc_is_word pm_is_word an_is_word cd_is_word ct_is_word), sl_is_word⟩)
    (c_is_word : PySem.W.codeIn K cd_is_word "is_word" = true) (k_is_word : PySem.W.keepIn K (.ref f_is_word) = true)
    (a_is_base : PySem.W.nsIn K mainGlobals "is_base" = some (some (.ref f_is_base)))
    (l_is_base : K.lookup f_is_base = some ⟨oc_is_base, od_is_base, .func (PySem.W.fnOf "is_base" "is_base" (defArgs s_is_base) (defBody s_is_base) (defScope s_is_base) .none kV_is_base dc_is_base pm_is_base an_is_base cd_is_base ct_is_base), sl_is_base⟩)
    (c_is_base : PySem.W.codeIn K cd_is_base "is_base" = true) (k_is_base : PySem.W.keepIn K (.ref f_is_base) = true)
    (a_is_length : PySem.W.nsIn K mainGlobals "is_length" = some (some (.ref f_is_length)))
    (l_is_length : K.lookup f_is_length = some ⟨oc_is_length, od_is_length, .func (PySem.W.fnOf "is_length" "is_length" (defArgs s_is_length) (defBody s_is_length) (defScope s_is_length) .none kV_is_length dc_is_length pm_is_length an_is_length cd_is_length ct_is_length), sl_is_length⟩)
    (c_is_length : PySem.W.codeIn K cd_is_length "is_length" = true) (k_is_length : PySem.W.keepIn K (.ref f_is_length) = true)
    (a_are_levels : PySem.W.nsIn K mainGlobals "are_levels" = some (some (.ref f_are_levels)))
    (l_are_levels : K.lookup f_are_levels = some ⟨oc_are_levels, od_are_levels, .func (PySem.W.fnOf "are_levels" "are_levels" (defArgs s_are_levels) (defBody s_are_levels) (defScope s_are_levels) .none kV_are_levels dc_are_levels pm_are_levels an_are_levels cd_are_levels ct_are_levels), sl_are_levels⟩)
    (c_are_levels : PySem.W.codeIn K cd_are_levels "are_levels" = true) (k_are_levels : PySem.W.keepIn K (.ref f_are_levels) = true)
    (a_is_tick : PySem.W.nsIn K mainGlobals "is_tick" = some (some (.ref f_is_tick)))
    (l_is_tick : K.lookup f_is_tick = some ⟨oc_is_tick, od_is_tick, .func (PySem.W.fnOf "is_tick" "is_tick" (defArgs s_is_tick) (defBody s_is_tick) (defScope s_is_tick) (.ref dT_is_tick) kV_is_tick dc_is_tick pm_is_tick an_is_tick cd_is_tick ct_is_tick), sl_is_tick⟩)
    (t_is_tick : K.lookup dT_is_tick = some ⟨tc_is_tick, td_is_tick, .seq #[.int 0 tt_is_tick] tn_is_tick, ts_is_tick⟩)
    (c_is_tick : PySem.W.codeIn K cd_is_tick "is_tick" = true) (k_is_tick : PySem.W.keepIn K (.ref f_is_tick) = true)
    (a_is_period : PySem.W.nsIn K mainGlobals "is_period" = some (some (.ref f_is_period)))
    (l_is_period : K.lookup f_is_period = some ⟨oc_is_period, od_is_period, .func (PySem.W.fnOf "is_period" "is_period" (defArgs s_is_period) (defBody s_is_period) (defScope s_is_period) .none kV_is_period dc_is_period pm_is_period an_is_period cd_is_period ct_is_period), sl_is_period⟩)
    (c_is_period : PySem.W.codeIn K cd_is_period "is_period" = true) (k_is_period : PySem.W.keepIn K (.ref f_is_period) = true)
    (a_check_base : PySem.W.nsIn K mainGlobals "check_base" = some (some (.ref f_check_base)))
    (l_check_base : K.lookup f_check_base = some ⟨oc_check_base, od_check_base, .func (PySem.W.fnOf "check_base" "check_base" (defArgs s_check_base) (defBody s_check_base) (defScope s_check_base) .none kV_check_base dc_check_base pm_check_base an_check_base cd_check_base ct_check_base), sl_check_base⟩)
    (c_check_base : PySem.W.codeIn K cd_check_base "check_base" = true) (k_check_base : PySem.W.keepIn K (.ref f_check_base) = true)
    (a_check_levels : PySem.W.nsIn K mainGlobals "check_levels" = some (some (.ref f_check_levels)))
    (l_check_levels : K.lookup f_check_levels = some ⟨oc_check_levels, od_check_levels, .func (PySem.W.fnOf "check_levels" "check_levels" (defArgs s_check_levels) (defBody s_check_levels) (defScope s_check_levels) .none kV_check_levels dc_check_levels pm_check_levels an_check_levels cd_check_levels ct_check_levels), sl_check_levels⟩)
    (c_check_levels : PySem.W.codeIn K cd_check_levels "check_levels" = true) (k_check_levels : PySem.W.keepIn K (.ref f_check_levels) = true)
    (a_check_tick : PySem.W.nsIn K mainGlobals "check_tick" = some (some (.ref f_check_tick)))
    (l_check_tick : K.lookup f_check_tick = some ⟨oc_check_tick, od_check_tick, .func (PySem.W.fnOf "check_tick" "check_tick" (defArgs s_check_tick) (defBody s_check_tick) (defScope s_check_tick) (.ref dT_check_tick) kV_check_tick dc_check_tick pm_check_tick an_check_tick cd_check_tick ct_check_tick), sl_check_tick⟩)
    (t_check_tick : K.lookup dT_check_tick = some ⟨tc_check_tick, td_check_tick, .seq #[.int 0 tt_check_tick] tn_check_tick, ts_check_tick⟩)
    (c_check_tick : PySem.W.codeIn K cd_check_tick "check_tick" = true) (k_check_tick : PySem.W.keepIn K (.ref f_check_tick) = true)
    (a_word_at : PySem.W.nsIn K mainGlobals "word_at" = some (some (.ref f_word_at)))
    (l_word_at : K.lookup f_word_at = some ⟨oc_word_at, od_word_at, .func (PySem.W.fnOf "word_at" "word_at" (defArgs s_word_at) (defBody s_word_at) (defScope s_word_at) .none kV_word_at dc_word_at pm_word_at an_word_at cd_word_at ct_word_at), sl_word_at⟩)
    (c_word_at : PySem.W.codeIn K cd_word_at "word_at" = true) (k_word_at : PySem.W.keepIn K (.ref f_word_at) = true)
    (a_level_and_size : PySem.W.nsIn K mainGlobals "level_and_size" = some (some (.ref f_level_and_size)))
    (l_level_and_size : K.lookup f_level_and_size = some ⟨oc_level_and_size, od_level_and_size, .func (PySem.W.fnOf "level_and_size" "level_and_size" (defArgs s_level_and_size) (defBody s_level_and_size) (defScope s_level_and_size) .none kV_level_and_size dc_level_and_size pm_level_and_size an_level_and_size cd_level_and_size ct_level_and_size), sl_level_and_size⟩)
    (c_level_and_size : PySem.W.codeIn K cd_level_and_size "level_and_size" = true) (k_level_and_size : PySem.W.keepIn K (.ref f_level_and_size) = true)
    (a_path : PySem.W.nsIn K mainGlobals "path" = some (some (.ref f_path)))
    (l_path : K.lookup f_path = some ⟨oc_path, od_path, .func (PySem.W.fnOf "path" "path" (defArgs s_path) (defBody s_path) (defScope s_path) .none kV_path dc_path pm_path an_path cd_path ct_path), sl_path⟩)
    (c_path : PySem.W.codeIn K cd_path "path" = true) (k_path : PySem.W.keepIn K (.ref f_path) = true)
    (a_goes_in_front : PySem.W.nsIn K mainGlobals "goes_in_front" = some (some (.ref f_goes_in_front)))
    (l_goes_in_front : K.lookup f_goes_in_front = some ⟨oc_goes_in_front, od_goes_in_front, .func (PySem.W.fnOf "goes_in_front" "goes_in_front" (defArgs s_goes_in_front) (defBody s_goes_in_front) (defScope s_goes_in_front) .none kV_goes_in_front dc_goes_in_front pm_goes_in_front an_goes_in_front cd_goes_in_front ct_goes_in_front), sl_goes_in_front⟩)
    (c_goes_in_front : PySem.W.codeIn K cd_goes_in_front "goes_in_front" = true) (k_goes_in_front : PySem.W.keepIn K (.ref f_goes_in_front) = true)
    (a_is_periodic : PySem.W.nsIn K mainGlobals "is_periodic" = some (some (.ref f_is_periodic)))
    (l_is_periodic : K.lookup f_is_periodic = some ⟨oc_is_periodic, od_is_periodic, .func (PySem.W.fnOf "is_periodic" "is_periodic" (defArgs s_is_periodic) (defBody s_is_periodic) (defScope s_is_periodic) .none kV_is_periodic dc_is_periodic pm_is_periodic an_is_periodic cd_is_periodic ct_is_periodic), sl_is_periodic⟩)
    (c_is_periodic : PySem.W.codeIn K cd_is_periodic "is_periodic" = true) (k_is_periodic : PySem.W.keepIn K (.ref f_is_periodic) = true)
    (a_check_periodic : PySem.W.nsIn K mainGlobals "check_periodic" = some (some (.ref f_check_periodic)))
    (l_check_periodic : K.lookup f_check_periodic = some ⟨oc_check_periodic, od_check_periodic, .func (PySem.W.fnOf "check_periodic" "check_periodic" (defArgs s_check_periodic) (defBody s_check_periodic) (defScope s_check_periodic) .none kV_check_periodic dc_check_periodic pm_check_periodic an_check_periodic cd_check_periodic ct_check_periodic), sl_check_periodic⟩)
    (c_check_periodic : PySem.W.codeIn K cd_check_periodic "check_periodic" = true) (k_check_periodic : PySem.W.keepIn K (.ref f_check_periodic) = true)
    (a_check_two : PySem.W.nsIn K mainGlobals "check_two" = some (some (.ref f_check_two)))
    (l_check_two : K.lookup f_check_two = some ⟨oc_check_two, od_check_two, .func (PySem.W.fnOf "check_two" "check_two" (defArgs s_check_two) (defBody s_check_two) (defScope s_check_two) .none kV_check_two dc_check_two pm_check_two an_check_two cd_check_two ct_check_two), sl_check_two⟩)
    (c_check_two : PySem.W.codeIn K cd_check_two "check_two" = true) (k_check_two : PySem.W.keepIn K (.ref f_check_two) = true)
    (a_fires_again : PySem.W.nsIn K mainGlobals "fires_again" = some (some (.ref f_fires_again)))
    (l_fires_again : K.lookup f_fires_again = some ⟨oc_fires_again, od_fires_again, .func (PySem.W.fnOf "fires_again" "fires_again" (defArgs s_fires_again) (defBody s_fires_again) (defScope s_fires_again) .none kV_fires_again dc_fires_again pm_fires_again an_fires_again cd_fires_again ct_fires_again), sl_fires_again⟩)
    (c_fires_again : PySem.W.codeIn K cd_fires_again "fires_again" = true) (k_fires_again : PySem.W.keepIn K (.ref f_fires_again) = true)
    (a_divisor_and_factor : PySem.W.nsIn K mainGlobals "divisor_and_factor" = some (some (.ref f_divisor_and_factor)))
    (l_divisor_and_factor : K.lookup f_divisor_and_factor = some ⟨oc_divisor_and_factor, od_divisor_and_factor, .func (PySem.W.fnOf "divisor_and_factor" "divisor_and_factor" (defArgs s_divisor_and_factor) (defBody s_divisor_and_factor) (defScope s_divisor_and_factor) .none kV_divisor_and_factor dc_divisor_and_factor pm_divisor_and_factor an_divisor_and_factor cd_divisor_and_factor ct_divisor_and_factor), sl_divisor_and_factor⟩)
    (c_divisor_and_factor : PySem.W.codeIn K cd_divisor_and_factor "divisor_and_factor" = true) (k_divisor_and_factor : PySem.W.keepIn K (.ref f_divisor_and_factor) = true)
    (a_meetings : PySem.W.nsIn K mainGlobals "meetings" = some (some (.ref f_meetings)))
    (l_meetings : K.lookup f_meetings = some ⟨oc_meetings, od_meetings, .func (PySem.W.fnOf "meetings" "meetings" (defArgs s_meetings) (defBody s_meetings) (defScope s_meetings) .none kV_meetings dc_meetings pm_meetings an_meetings cd_meetings ct_meetings), sl_meetings⟩)
    (c_meetings : PySem.W.codeIn K cd_meetings "meetings" = true) (k_meetings : PySem.W.keepIn K (.ref f_meetings) = true)
    (a_is_ahead : PySem.W.nsIn K mainGlobals "is_ahead" = some (some (.ref f_is_ahead)))
    (l_is_ahead : K.lookup f_is_ahead = some ⟨oc_is_ahead, od_is_ahead, .func (PySem.W.fnOf "is_ahead" "is_ahead" (defArgs s_is_ahead) (defBody s_is_ahead) (defScope s_is_ahead) .none kV_is_ahead dc_is_ahead pm_is_ahead an_is_ahead cd_is_ahead ct_is_ahead), sl_is_ahead⟩)
    (c_is_ahead : PySem.W.codeIn K cd_is_ahead "is_ahead" = true) (k_is_ahead : PySem.W.keepIn K (.ref f_is_ahead) = true)
    (a_common : PySem.W.nsIn K mainGlobals "common" = some (some (.ref f_common)))
    (l_common : K.lookup f_common = some ⟨oc_common, od_common, .func (PySem.W.fnOf "common" "common" (defArgs s_common) (defBody s_common) (defScope s_common) .none kV_common dc_common pm_common an_common cd_common ct_common), sl_common⟩)
    (c_common : PySem.W.codeIn K cd_common "common" = true) (k_common : PySem.W.keepIn K (.ref f_common) = true)
    (a_first_of_two : PySem.W.nsIn K mainGlobals "first_of_two" = some (some (.ref f_first_of_two)))
    (l_first_of_two : K.lookup f_first_of_two = some ⟨oc_first_of_two, od_first_of_two, .func (PySem.W.fnOf "first_of_two" "first_of_two" (defArgs s_first_of_two) (defBody s_first_of_two) (defScope s_first_of_two) .none kV_first_of_two dc_first_of_two pm_first_of_two an_first_of_two cd_first_of_two ct_first_of_two), sl_first_of_two⟩)
    (c_first_of_two : PySem.W.codeIn K cd_first_of_two "first_of_two" = true) (k_first_of_two : PySem.W.keepIn K (.ref f_first_of_two) = true)
    (a_times_first : PySem.W.nsIn K mainGlobals "times_first" = some (some (.ref f_times_first)))
    (l_times_first : K.lookup f_times_first = some ⟨oc_times_first, od_times_first, .func (PySem.W.fnOf "times_first" "times_first" (defArgs s_times_first) (defBody s_times_first) (defScope s_times_first) .none kV_times_first dc_times_first pm_times_first an_times_first cd_times_first ct_times_first), sl_times_first⟩)
    (c_times_first : PySem.W.codeIn K cd_times_first "times_first" = true) (k_times_first : PySem.W.keepIn K (.ref f_times_first) = true)
    (a_law_cell_at : PySem.W.nsIn K mainGlobals "_law_cell_at" = some (some (.ref f_law_cell_at)))
    (l_law_cell_at : K.lookup f_law_cell_at = some ⟨oc_law_cell_at, od_law_cell_at, .func (PySem.W.fnOf "_law_cell_at" "_law_cell_at" (defArgs s__law_cell_at) (defBody s__law_cell_at) (defScope s__law_cell_at) .none kV_law_cell_at dc_law_cell_at pm_law_cell_at an_law_cell_at cd_law_cell_at ct_law_cell_at), sl_law_cell_at⟩)
    (c_law_cell_at : PySem.W.codeIn K cd_law_cell_at "_law_cell_at" = true) (k_law_cell_at : PySem.W.keepIn K (.ref f_law_cell_at) = true)
    (a_law_mixed : PySem.W.nsIn K mainGlobals "_law_mixed" = some (some (.ref f_law_mixed)))
    (l_law_mixed : K.lookup f_law_mixed = some ⟨oc_law_mixed, od_law_mixed, .func (PySem.W.fnOf "_law_mixed" "_law_mixed" (defArgs s__law_mixed) (defBody s__law_mixed) (defScope s__law_mixed) .none kV_law_mixed dc_law_mixed pm_law_mixed an_law_mixed cd_law_mixed ct_law_mixed), sl_law_mixed⟩)
    (c_law_mixed : PySem.W.codeIn K cd_law_mixed "_law_mixed" = true) (k_law_mixed : PySem.W.keepIn K (.ref f_law_mixed) = true)
    (a_law_source : PySem.W.nsIn K mainGlobals "_law_source" = some (some (.ref f_law_source)))
    (l_law_source : K.lookup f_law_source = some ⟨oc_law_source, od_law_source, .func (PySem.W.fnOf "_law_source" "_law_source" (defArgs s__law_source) (defBody s__law_source) (defScope s__law_source) .none kV_law_source dc_law_source pm_law_source an_law_source cd_law_source ct_law_source), sl_law_source⟩)
    (c_law_source : PySem.W.codeIn K cd_law_source "_law_source" = true) (k_law_source : PySem.W.keepIn K (.ref f_law_source) = true)
    (a_law_next : PySem.W.nsIn K mainGlobals "_law_next" = some (some (.ref f_law_next)))
    (l_law_next : K.lookup f_law_next = some ⟨oc_law_next, od_law_next, .func (PySem.W.fnOf "_law_next" "_law_next" (defArgs s__law_next) (defBody s__law_next) (defScope s__law_next) .none kV_law_next dc_law_next pm_law_next an_law_next cd_law_next ct_law_next), sl_law_next⟩)
    (c_law_next : PySem.W.codeIn K cd_law_next "_law_next" = true) (k_law_next : PySem.W.keepIn K (.ref f_law_next) = true)
    (a_law_base : PySem.W.nsIn K mainGlobals "_law_base" = some (some (.ref f_law_base)))
    (l_law_base : K.lookup f_law_base = some ⟨oc_law_base, od_law_base, .func (PySem.W.fnOf "_law_base" "_law_base" (defArgs s__law_base) (defBody s__law_base) (defScope s__law_base) .none kV_law_base dc_law_base pm_law_base an_law_base cd_law_base ct_law_base), sl_law_base⟩)
    (c_law_base : PySem.W.codeIn K cd_law_base "_law_base" = true) (k_law_base : PySem.W.keepIn K (.ref f_law_base) = true)
    (a_law_levels : PySem.W.nsIn K mainGlobals "_law_levels" = some (some (.ref f_law_levels)))
    (l_law_levels : K.lookup f_law_levels = some ⟨oc_law_levels, od_law_levels, .func (PySem.W.fnOf "_law_levels" "_law_levels" (defArgs s__law_levels) (defBody s__law_levels) (defScope s__law_levels) .none kV_law_levels dc_law_levels pm_law_levels an_law_levels cd_law_levels ct_law_levels), sl_law_levels⟩)
    (c_law_levels : PySem.W.codeIn K cd_law_levels "_law_levels" = true) (k_law_levels : PySem.W.keepIn K (.ref f_law_levels) = true)
    (a_law_word : PySem.W.nsIn K mainGlobals "_law_word" = some (some (.ref f_law_word)))
    (l_law_word : K.lookup f_law_word = some ⟨oc_law_word, od_law_word, .func (PySem.W.fnOf "_law_word" "_law_word" (defArgs s__law_word) (defBody s__law_word) (defScope s__law_word) .none kV_law_word dc_law_word pm_law_word an_law_word cd_law_word ct_law_word), sl_law_word⟩)
    (c_law_word : PySem.W.codeIn K cd_law_word "_law_word" = true) (k_law_word : PySem.W.keepIn K (.ref f_law_word) = true)
    (a_law_pair : PySem.W.nsIn K mainGlobals "_law_pair" = some (some (.ref f_law_pair)))
    (l_law_pair : K.lookup f_law_pair = some ⟨oc_law_pair, od_law_pair, .func (PySem.W.fnOf "_law_pair" "_law_pair" (defArgs s__law_pair) (defBody s__law_pair) (defScope s__law_pair) .none kV_law_pair dc_law_pair pm_law_pair an_law_pair cd_law_pair ct_law_pair), sl_law_pair⟩)
    (c_law_pair : PySem.W.codeIn K cd_law_pair "_law_pair" = true) (k_law_pair : PySem.W.keepIn K (.ref f_law_pair) = true)
    (a_law_from : PySem.W.nsIn K mainGlobals "_law_from" = some (some (.ref f_law_from)))
    (l_law_from : K.lookup f_law_from = some ⟨oc_law_from, od_law_from, .func (PySem.W.fnOf "_law_from" "_law_from" (defArgs s__law_from) (defBody s__law_from) (defScope s__law_from) .none kV_law_from dc_law_from pm_law_from an_law_from cd_law_from ct_law_from), sl_law_from⟩)
    (c_law_from : PySem.W.codeIn K cd_law_from "_law_from" = true) (k_law_from : PySem.W.keepIn K (.ref f_law_from) = true)
    (a_law_range_right : PySem.W.nsIn K mainGlobals "_law_range_right" = some (some (.ref f_law_range_right)))
    (l_law_range_right : K.lookup f_law_range_right = some ⟨oc_law_range_right, od_law_range_right, .func (PySem.W.fnOf "_law_range_right" "_law_range_right" (defArgs s__law_range_right) (defBody s__law_range_right) (defScope s__law_range_right) .none kV_law_range_right dc_law_range_right pm_law_range_right an_law_range_right cd_law_range_right ct_law_range_right), sl_law_range_right⟩)
    (c_law_range_right : PySem.W.codeIn K cd_law_range_right "_law_range_right" = true) (k_law_range_right : PySem.W.keepIn K (.ref f_law_range_right) = true)
    (a_law_bound_right : PySem.W.nsIn K mainGlobals "_law_bound_right" = some (some (.ref f_law_bound_right)))
    (l_law_bound_right : K.lookup f_law_bound_right = some ⟨oc_law_bound_right, od_law_bound_right, .func (PySem.W.fnOf "_law_bound_right" "_law_bound_right" (defArgs s__law_bound_right) (defBody s__law_bound_right) (defScope s__law_bound_right) .none kV_law_bound_right dc_law_bound_right pm_law_bound_right an_law_bound_right (.ref cc_law_bound_right) ct_law_bound_right), sl_law_bound_right⟩)
    (c_law_bound_right : PySem.W.codeIn K (.ref cc_law_bound_right) "_law_bound_right" = true) (k_law_bound_right : PySem.W.keepIn K (.ref f_law_bound_right) = true)
    (lc_law_bound_right : K.lookup cc_law_bound_right = some ⟨.type "code", dd_law_bound_right, .fields vs_law_bound_right, sv_law_bound_right⟩)
    (lp_law_bound_right : vs_law_bound_right[11]? = some (.ref P_law_bound_right))
    (ch_law_bound_right : PySem.W.codeHdIn K cc_law_bound_right P_law_bound_right = true)
    (nt_law_bound_right : K.lookup P_law_bound_right = none)
    (tm_law_bound_right : P_law_bound_right ∈ ts)
    (a_law : PySem.W.nsIn K mainGlobals "law" = some (some (.ref f_law)))
    (l_law : K.lookup f_law = some ⟨oc_law, od_law, .func (PySem.W.fnOf "law" "law" (defArgs s_law) (defBody s_law) (defScope s_law) .none kV_law dc_law pm_law an_law cd_law ct_law), sl_law⟩)
    (c_law : PySem.W.codeIn K cd_law "law" = true) (k_law : PySem.W.keepIn K (.ref f_law) = true)
    (a_TooMany : PySem.W.nsIn K mainGlobals "TooMany" = some (some (.ref c_TooMany)))
    (a_TimerError : PySem.W.nsIn K mainGlobals "TimerError" = some (some (.ref c_TimerError)))
    (a_NoBase : PySem.W.nsIn K mainGlobals "NoBase" = some (some (.ref c_NoBase)))
    (a_NoLevels : PySem.W.nsIn K mainGlobals "NoLevels" = some (some (.ref c_NoLevels)))
    (a_NoTick : PySem.W.nsIn K mainGlobals "NoTick" = some (some (.ref c_NoTick)))
    (a_NoPeriod : PySem.W.nsIn K mainGlobals "NoPeriod" = some (some (.ref c_NoPeriod)))
    (a_NoTimer : PySem.W.nsIn K mainGlobals "NoTimer" = some (some (.ref c_NoTimer)))
    (a_NoOrder : PySem.W.nsIn K mainGlobals "NoOrder" = some (some (.ref c_NoOrder)))
    (a_NoSighting : PySem.W.nsIn K mainGlobals "NoSighting" = some (some (.ref c_NoSighting)))
    (x_TooMany : PySem.W.excIn K c_TooMany [.type "ValueError", .type "Exception", .type "BaseException", .type "object"] "ValueError.__new__" = true)
    (kp_TooMany : PySem.W.keepIn K (.ref c_TooMany) = true)
    (bx_TooMany : PySem.W.subIn K (.ref c_TooMany) (.type "BaseException") = some true)
    (tx_TooMany : PySem.W.typeIn K (.ref c_TooMany) = some (.type "type"))
    (ga_TooMany : PySem.W.findIn K (.ref c_TooMany) "__getattribute__" = some (some (.builtin "BaseException.__getattribute__")))
    (gg_TooMany : PySem.W.findIn K (.ref c_TooMany) "__getattr__" = some none)
    (hx_TooMany : PySem.W.hasDictIn K c_TooMany = true)
    (cc_TooMany : PySem.W.findIn K (.ref c_TooMany) "__class__" = some (some (.builtin "object.__class__")))
    (mo_TooMany : PySem.W.mroIn K c_TooMany (.type "object") = some true)
    (ss_TooMany : PySem.W.subIn K (.ref c_TooMany) (.ref c_TooMany) = some true)
    (sp_get : PySem.W.specialIn K (.builtin "object.__class__") "__get__" = some (some (.builtin "getset_descriptor.__get__")))
    (tk_cls : PySem.W.takesIn K (.builtin "object.__class__") = some true)
    (bx_TimerError : PySem.W.subIn K (.ref c_TimerError) (.type "BaseException") = some true)
    (ve_TooMany : PySem.W.subIn K (.ref c_TooMany) (.type "ValueError") = some true)
    (hx_TimerError : PySem.W.hasDictIn K c_TimerError = true)
    (tx_TimerError : PySem.W.typeIn K (.ref c_TimerError) = some (.type "type"))
    (ss_TooMany_TimerError : PySem.W.subIn K (.ref c_TooMany) (.ref c_TimerError) = some true)
    (hx_NoBase : PySem.W.hasDictIn K c_NoBase = true)
    (tx_NoBase : PySem.W.typeIn K (.ref c_NoBase) = some (.type "type"))
    (ss_TooMany_NoBase : PySem.W.subIn K (.ref c_TooMany) (.ref c_NoBase) = some false)
    (hx_NoLevels : PySem.W.hasDictIn K c_NoLevels = true)
    (tx_NoLevels : PySem.W.typeIn K (.ref c_NoLevels) = some (.type "type"))
    (ss_TooMany_NoLevels : PySem.W.subIn K (.ref c_TooMany) (.ref c_NoLevels) = some false)
    (hx_NoTick : PySem.W.hasDictIn K c_NoTick = true)
    (tx_NoTick : PySem.W.typeIn K (.ref c_NoTick) = some (.type "type"))
    (ss_TooMany_NoTick : PySem.W.subIn K (.ref c_TooMany) (.ref c_NoTick) = some false)
    (hx_NoPeriod : PySem.W.hasDictIn K c_NoPeriod = true)
    (tx_NoPeriod : PySem.W.typeIn K (.ref c_NoPeriod) = some (.type "type"))
    (ss_TooMany_NoPeriod : PySem.W.subIn K (.ref c_TooMany) (.ref c_NoPeriod) = some false)
    (hx_NoTimer : PySem.W.hasDictIn K c_NoTimer = true)
    (tx_NoTimer : PySem.W.typeIn K (.ref c_NoTimer) = some (.type "type"))
    (ss_TooMany_NoTimer : PySem.W.subIn K (.ref c_TooMany) (.ref c_NoTimer) = some false)
    (hx_NoOrder : PySem.W.hasDictIn K c_NoOrder = true)
    (tx_NoOrder : PySem.W.typeIn K (.ref c_NoOrder) = some (.type "type"))
    (ss_TooMany_NoOrder : PySem.W.subIn K (.ref c_TooMany) (.ref c_NoOrder) = some false)
    (hx_NoSighting : PySem.W.hasDictIn K c_NoSighting = true)
    (tx_NoSighting : PySem.W.typeIn K (.ref c_NoSighting) = some (.type "type"))
    (ss_TooMany_NoSighting : PySem.W.subIn K (.ref c_TooMany) (.ref c_NoSighting) = some false)
    (z_isinstance : PySem.W.nsIn K mainGlobals "isinstance" = some none)
    (z_int : PySem.W.nsIn K mainGlobals "int" = some none)
    (z_bool : PySem.W.nsIn K mainGlobals "bool" = some none)
    (z_str : PySem.W.nsIn K mainGlobals "str" = some none)
    (z_all : PySem.W.nsIn K mainGlobals "all" = some none)
    (z_list : PySem.W.nsIn K mainGlobals "list" = some none)
    (z_len : PySem.W.nsIn K mainGlobals "len" = some none)
    (z_min : PySem.W.nsIn K mainGlobals "min" = some none)
    (z_tuple : PySem.W.nsIn K mainGlobals "tuple" = some none)
    (z_max : PySem.W.nsIn K mainGlobals "max" = some none)
    (z_range : PySem.W.nsIn K mainGlobals "range" = some none)
    (z_ValueError : PySem.W.nsIn K mainGlobals "ValueError" = some none)
    (z_sum : PySem.W.nsIn K mainGlobals "sum" = some none)
    (a_WORDS : PySem.W.nsIn K mainGlobals "WORDS" = some (some (.ref f_WORDS)))
    (l_WORDS : K.lookup f_WORDS = some ⟨.type "tuple", od_WORDS, .seq #[.str "stack" tk0_WORDS, .str "queue" tk1_WORDS] tn_WORDS, ts_WORDS⟩)
    (a_MOST_LEVELS : PySem.W.nsIn K mainGlobals "MOST_LEVELS" = some (some (.int 60 tk_MOST_LEVELS)))
    (a_MOST_MEETINGS : PySem.W.nsIn K mainGlobals "MOST_MEETINGS" = some (some (.int 2000 tk_MOST_MEETINGS)))
    : LamX.LawAtS l w K CX0 10 63 "_law_script" mg fa h := by
  have e := hfa.symm.trans (PySem.W.mg_of X G a_law)
  cases e
  have T : Tx K mg := ⟨PySem.W.mg_none_of X G z_isinstance, PySem.W.mg_none_of X G z_int, PySem.W.mg_none_of X G z_bool, PySem.W.mg_none_of X G z_str, PySem.W.mg_none_of X G z_all, PySem.W.mg_none_of X G z_list, PySem.W.mg_none_of X G z_len, PySem.W.mg_none_of X G z_min, PySem.W.mg_none_of X G z_tuple, PySem.W.mg_none_of X G z_max, PySem.W.mg_none_of X G z_range, PySem.W.mg_none_of X G z_ValueError, PySem.W.mg_none_of X G z_sum⟩
  have h_WORDS : ∃ a, mg "WORDS" = some (.ref a) ∧ ∀ H, SqT K H a [.str "stack", .str "queue"] := ⟨f_WORDS, PySem.W.mg_of X G a_WORDS, fun H => .inr ⟨_, _, _, l_WORDS, rfl, rfl, by simp [sizeLine_eq], .cons ⟨_, rfl⟩ (.cons ⟨_, rfl⟩ (.nil))⟩⟩
  have h_MOST_LEVELS : mg "MOST_LEVELS" = some (.int 60 tk_MOST_LEVELS) := PySem.W.mg_of X G a_MOST_LEVELS
  have h_MOST_MEETINGS : mg "MOST_MEETINGS" = some (.int 2000 tk_MOST_MEETINGS) := PySem.W.mg_of X G a_MOST_MEETINGS
  have D_is_integer : Df K mg "is_integer" s_is_integer ["given"] := by
    have F := fun_mk (st := s_is_integer) l_is_integer c_is_integer k_is_integer
    exact ⟨_, _, F, PySem.W.mg_of X G a_is_integer, F.binds (ps := ["given"]) fun _ _ _ _ _ _ us hl => match us, hl with | [_], _ => rfl⟩
  have D_is_word : Df K mg "is_word" s_is_word ["given"] := by
    have F := fun_mk (st := s_is_word) l_is_word c_is_word k_is_word
    exact ⟨_, _, F, PySem.W.mg_of X G a_is_word, F.binds (ps := ["given"]) fun _ _ _ _ _ _ us hl => match us, hl with | [_], _ => rfl⟩
  have D_is_base : Df K mg "is_base" s_is_base ["given"] := by
    have F := fun_mk (st := s_is_base) l_is_base c_is_base k_is_base
    exact ⟨_, _, F, PySem.W.mg_of X G a_is_base, F.binds (ps := ["given"]) fun _ _ _ _ _ _ us hl => match us, hl with | [_], _ => rfl⟩
  have D_is_length : Df K mg "is_length" s_is_length ["given"] := by
    have F := fun_mk (st := s_is_length) l_is_length c_is_length k_is_length
    exact ⟨_, _, F, PySem.W.mg_of X G a_is_length, F.binds (ps := ["given"]) fun _ _ _ _ _ _ us hl => match us, hl with | [_], _ => rfl⟩
  have D_are_levels : Df K mg "are_levels" s_are_levels ["given"] := by
    have F := fun_mk (st := s_are_levels) l_are_levels c_are_levels k_are_levels
    exact ⟨_, _, F, PySem.W.mg_of X G a_are_levels, F.binds (ps := ["given"]) fun _ _ _ _ _ _ us hl => match us, hl with | [_], _ => rfl⟩
  have D_is_tick : Dd K mg "is_tick" s_is_tick ["given", "least"] (.int 0) := by
    have F : FunD K "is_tick" "is_tick" (defArgs s_is_tick) (defBody s_is_tick) (defScope s_is_tick) [(.int 0)] [] _ _ := ⟨⟨_, _, _, _, _, _, _, _, _, _, rfl, l_is_tick, c_is_tick, .inr ⟨by simp, dT_is_tick, _, [_], _, rfl, t_is_tick, rfl, .cons ⟨_, rfl⟩ .nil⟩, .inl rfl⟩, k_is_tick⟩
    exact ⟨_, _, F, PySem.W.mg_of X G a_is_tick,
      FunD.binds1 (ps := ["given", "least"]) F 1 0 (by simp) rfl fun _ _ _ _ _ _ _ us its hu hi => match us, its, hu, hi with | [_], [_], _, _ => ⟨_, rfl, rfl⟩,
      by obtain ⟨ds, r, b⟩ := FunD.binds1 (ps := ["given", "least"]) F 2 1 (by simp) rfl fun _ _ _ _ _ _ _ us its hu hi => match us, its, hu, hi with | [_, _], [_], _, _ => ⟨_, rfl, rfl⟩
         cases r
         exact b⟩
  have D_is_period : Df K mg "is_period" s_is_period ["given"] := by
    have F := fun_mk (st := s_is_period) l_is_period c_is_period k_is_period
    exact ⟨_, _, F, PySem.W.mg_of X G a_is_period, F.binds (ps := ["given"]) fun _ _ _ _ _ _ us hl => match us, hl with | [_], _ => rfl⟩
  have D_check_base : Df K mg "check_base" s_check_base ["base"] := by
    have F := fun_mk (st := s_check_base) l_check_base c_check_base k_check_base
    exact ⟨_, _, F, PySem.W.mg_of X G a_check_base, F.binds (ps := ["base"]) fun _ _ _ _ _ _ us hl => match us, hl with | [_], _ => rfl⟩
  have D_check_levels : Df K mg "check_levels" s_check_levels ["levels"] := by
    have F := fun_mk (st := s_check_levels) l_check_levels c_check_levels k_check_levels
    exact ⟨_, _, F, PySem.W.mg_of X G a_check_levels, F.binds (ps := ["levels"]) fun _ _ _ _ _ _ us hl => match us, hl with | [_], _ => rfl⟩
  have D_check_tick : Dd K mg "check_tick" s_check_tick ["tick", "least"] (.int 0) := by
    have F : FunD K "check_tick" "check_tick" (defArgs s_check_tick) (defBody s_check_tick) (defScope s_check_tick) [(.int 0)] [] _ _ := ⟨⟨_, _, _, _, _, _, _, _, _, _, rfl, l_check_tick, c_check_tick, .inr ⟨by simp, dT_check_tick, _, [_], _, rfl, t_check_tick, rfl, .cons ⟨_, rfl⟩ .nil⟩, .inl rfl⟩, k_check_tick⟩
    exact ⟨_, _, F, PySem.W.mg_of X G a_check_tick,
      FunD.binds1 (ps := ["tick", "least"]) F 1 0 (by simp) rfl fun _ _ _ _ _ _ _ us its hu hi => match us, its, hu, hi with | [_], [_], _, _ => ⟨_, rfl, rfl⟩,
      by obtain ⟨ds, r, b⟩ := FunD.binds1 (ps := ["tick", "least"]) F 2 1 (by simp) rfl fun _ _ _ _ _ _ _ us its hu hi => match us, its, hu, hi with | [_, _], [_], _, _ => ⟨_, rfl, rfl⟩
         cases r
         exact b⟩
  have D_word_at : Df K mg "word_at" s_word_at ["levels", "level"] := by
    have F := fun_mk (st := s_word_at) l_word_at c_word_at k_word_at
    exact ⟨_, _, F, PySem.W.mg_of X G a_word_at, F.binds (ps := ["levels", "level"]) fun _ _ _ _ _ _ us hl => match us, hl with | [_, _], _ => rfl⟩
  have D_level_and_size : Df K mg "level_and_size" s_level_and_size ["base", "now", "due"] := by
    have F := fun_mk (st := s_level_and_size) l_level_and_size c_level_and_size k_level_and_size
    exact ⟨_, _, F, PySem.W.mg_of X G a_level_and_size, F.binds (ps := ["base", "now", "due"]) fun _ _ _ _ _ _ us hl => match us, hl with | [_, _, _], _ => rfl⟩
  have D_path : Df K mg "path" s_path ["base", "now", "due"] := by
    have F := fun_mk (st := s_path) l_path c_path k_path
    exact ⟨_, _, F, PySem.W.mg_of X G a_path, F.binds (ps := ["base", "now", "due"]) fun _ _ _ _ _ _ us hl => match us, hl with | [_, _, _], _ => rfl⟩
  have D_goes_in_front : Df K mg "goes_in_front" s_goes_in_front ["base", "levels", "now", "due", "lowest"] := by
    have F := fun_mk (st := s_goes_in_front) l_goes_in_front c_goes_in_front k_goes_in_front
    exact ⟨_, _, F, PySem.W.mg_of X G a_goes_in_front, F.binds (ps := ["base", "levels", "now", "due", "lowest"]) fun _ _ _ _ _ _ us hl => match us, hl with | [_, _, _, _, _], _ => rfl⟩
  have D_is_periodic : Df K mg "is_periodic" s_is_periodic ["given"] := by
    have F := fun_mk (st := s_is_periodic) l_is_periodic c_is_periodic k_is_periodic
    exact ⟨_, _, F, PySem.W.mg_of X G a_is_periodic, F.binds (ps := ["given"]) fun _ _ _ _ _ _ us hl => match us, hl with | [_], _ => rfl⟩
  have D_check_periodic : Df K mg "check_periodic" s_check_periodic ["given"] := by
    have F := fun_mk (st := s_check_periodic) l_check_periodic c_check_periodic k_check_periodic
    exact ⟨_, _, F, PySem.W.mg_of X G a_check_periodic, F.binds (ps := ["given"]) fun _ _ _ _ _ _ us hl => match us, hl with | [_], _ => rfl⟩
  have D_check_two : Df K mg "check_two" s_check_two ["one", "other"] := by
    have F := fun_mk (st := s_check_two) l_check_two c_check_two k_check_two
    exact ⟨_, _, F, PySem.W.mg_of X G a_check_two, F.binds (ps := ["one", "other"]) fun _ _ _ _ _ _ us hl => match us, hl with | [_, _], _ => rfl⟩
  have D_fires_again : Df K mg "fires_again" s_fires_again ["timer", "tick"] := by
    have F := fun_mk (st := s_fires_again) l_fires_again c_fires_again k_fires_again
    exact ⟨_, _, F, PySem.W.mg_of X G a_fires_again, F.binds (ps := ["timer", "tick"]) fun _ _ _ _ _ _ us hl => match us, hl with | [_, _], _ => rfl⟩
  have D_divisor_and_factor : Df K mg "divisor_and_factor" s_divisor_and_factor ["number", "modulus"] := by
    have F := fun_mk (st := s_divisor_and_factor) l_divisor_and_factor c_divisor_and_factor k_divisor_and_factor
    exact ⟨_, _, F, PySem.W.mg_of X G a_divisor_and_factor, F.binds (ps := ["number", "modulus"]) fun _ _ _ _ _ _ us hl => match us, hl with | [_, _], _ => rfl⟩
  have D_meetings : Df K mg "meetings" s_meetings ["one", "other"] := by
    have F := fun_mk (st := s_meetings) l_meetings c_meetings k_meetings
    exact ⟨_, _, F, PySem.W.mg_of X G a_meetings, F.binds (ps := ["one", "other"]) fun _ _ _ _ _ _ us hl => match us, hl with | [_, _], _ => rfl⟩
  have D_is_ahead : Df K mg "is_ahead" s_is_ahead ["base", "levels", "one", "other", "tick"] := by
    have F := fun_mk (st := s_is_ahead) l_is_ahead c_is_ahead k_is_ahead
    exact ⟨_, _, F, PySem.W.mg_of X G a_is_ahead, F.binds (ps := ["base", "levels", "one", "other", "tick"]) fun _ _ _ _ _ _ us hl => match us, hl with | [_, _, _, _, _], _ => rfl⟩
  have D_common : Df K mg "common" s_common ["one", "other"] := by
    have F := fun_mk (st := s_common) l_common c_common k_common
    exact ⟨_, _, F, PySem.W.mg_of X G a_common, F.binds (ps := ["one", "other"]) fun _ _ _ _ _ _ us hl => match us, hl with | [_, _], _ => rfl⟩
  have D_first_of_two : Df K mg "first_of_two" s_first_of_two ["base", "levels", "one", "other", "tick"] := by
    have F := fun_mk (st := s_first_of_two) l_first_of_two c_first_of_two k_first_of_two
    exact ⟨_, _, F, PySem.W.mg_of X G a_first_of_two, F.binds (ps := ["base", "levels", "one", "other", "tick"]) fun _ _ _ _ _ _ us hl => match us, hl with | [_, _, _, _, _], _ => rfl⟩
  have D_times_first : Df K mg "times_first" s_times_first ["base", "levels", "one", "other", "first", "behind"] := by
    have F := fun_mk (st := s_times_first) l_times_first c_times_first k_times_first
    exact ⟨_, _, F, PySem.W.mg_of X G a_times_first, F.binds (ps := ["base", "levels", "one", "other", "first", "behind"]) fun _ _ _ _ _ _ us hl => match us, hl with | [_, _, _, _, _, _], _ => rfl⟩
  have D_law_cell_at : Df K mg "_law_cell_at" s__law_cell_at ["_law_script", "_law_k"] := by
    have F := fun_mk (st := s__law_cell_at) l_law_cell_at c_law_cell_at k_law_cell_at
    exact ⟨_, _, F, PySem.W.mg_of X G a_law_cell_at, F.binds (ps := ["_law_script", "_law_k"]) fun _ _ _ _ _ _ us hl => match us, hl with | [_, _], _ => rfl⟩
  have D_law_mixed : Df K mg "_law_mixed" s__law_mixed ["_law_cell", "_law_k"] := by
    have F := fun_mk (st := s__law_mixed) l_law_mixed c_law_mixed k_law_mixed
    exact ⟨_, _, F, PySem.W.mg_of X G a_law_mixed, F.binds (ps := ["_law_cell", "_law_k"]) fun _ _ _ _ _ _ us hl => match us, hl with | [_, _], _ => rfl⟩
  have D_law_source : Df K mg "_law_source" s__law_source ["_law_script", "_law_k"] := by
    have F := fun_mk (st := s__law_source) l_law_source c_law_source k_law_source
    exact ⟨_, _, F, PySem.W.mg_of X G a_law_source, F.binds (ps := ["_law_script", "_law_k"]) fun _ _ _ _ _ _ us hl => match us, hl with | [_, _], _ => rfl⟩
  have D_law_next : Df K mg "_law_next" s__law_next ["_law_source_here", "_law_many"] := by
    have F := fun_mk (st := s__law_next) l_law_next c_law_next k_law_next
    exact ⟨_, _, F, PySem.W.mg_of X G a_law_next, F.binds (ps := ["_law_source_here", "_law_many"]) fun _ _ _ _ _ _ us hl => match us, hl with | [_, _], _ => rfl⟩
  have D_law_base : Df K mg "_law_base" s__law_base ["_law_source_here"] := by
    have F := fun_mk (st := s__law_base) l_law_base c_law_base k_law_base
    exact ⟨_, _, F, PySem.W.mg_of X G a_law_base, F.binds (ps := ["_law_source_here"]) fun _ _ _ _ _ _ us hl => match us, hl with | [_], _ => rfl⟩
  have D_law_levels : Df K mg "_law_levels" s__law_levels ["_law_source_here"] := by
    have F := fun_mk (st := s__law_levels) l_law_levels c_law_levels k_law_levels
    exact ⟨_, _, F, PySem.W.mg_of X G a_law_levels, F.binds (ps := ["_law_source_here"]) fun _ _ _ _ _ _ us hl => match us, hl with | [_], _ => rfl⟩
  have FC_law_word := funC_mk (st := s__law_word) l_law_word c_law_word k_law_word
  have mgC_law_word := PySem.W.mg_of X G a_law_word
  have bC_law_word := FC_law_word.fn.binds (ps := ["_law_ask"]) fun _ _ _ _ _ _ us hl => match us, hl with | [_], _ => rfl
  have D_law_pair : Df K mg "_law_pair" s__law_pair ["_law_source_here", "_law_measure"] := by
    have F := fun_mk (st := s__law_pair) l_law_pair c_law_pair k_law_pair
    exact ⟨_, _, F, PySem.W.mg_of X G a_law_pair, F.binds (ps := ["_law_source_here", "_law_measure"]) fun _ _ _ _ _ _ us hl => match us, hl with | [_, _], _ => rfl⟩
  have D_law_from : Df K mg "_law_from" s__law_from ["_law_one", "_law_two"] := by
    have F := fun_mk (st := s__law_from) l_law_from c_law_from k_law_from
    exact ⟨_, _, F, PySem.W.mg_of X G a_law_from, F.binds (ps := ["_law_one", "_law_two"]) fun _ _ _ _ _ _ us hl => match us, hl with | [_, _], _ => rfl⟩
  have D_law_range_right : Df K mg "_law_range_right" s__law_range_right ["_law_source_here", "_law_wheel", "_law_one", "_law_two", "_law_most"] := by
    have F := fun_mk (st := s__law_range_right) l_law_range_right c_law_range_right k_law_range_right
    exact ⟨_, _, F, PySem.W.mg_of X G a_law_range_right, F.binds (ps := ["_law_source_here", "_law_wheel", "_law_one", "_law_two", "_law_most"]) fun _ _ _ _ _ _ us hl => match us, hl with | [_, _, _, _, _], _ => rfl⟩
  have FC_law_bound_right := funC_mk (st := s__law_bound_right) l_law_bound_right c_law_bound_right k_law_bound_right
  have mgC_law_bound_right := PySem.W.mg_of X G a_law_bound_right
  have bC_law_bound_right := FC_law_bound_right.fn.binds (ps := ["_law_wheel", "_law_one", "_law_two"]) fun _ _ _ _ _ _ us hl => match us, hl with | [_, _, _], _ => rfl
  have D_law : Df K mg "law" s_law ["_law_script"] := by
    have F := fun_mk (st := s_law) l_law c_law k_law
    exact ⟨_, _, F, PySem.W.mg_of X G a_law, F.binds (ps := ["_law_script"]) fun _ _ _ _ _ _ us hl => match us, hl with | [_], _ => rfl⟩
  have X_TooMany : EC K mg "TooMany" c_TooMany := ⟨PySem.W.mg_of X G a_TooMany, x_TooMany, kp_TooMany, bx_TooMany, tx_TooMany⟩
  have EX_TooMany : ExcC K c_TooMany := ⟨ga_TooMany, gg_TooMany, bx_TooMany, hx_TooMany, cc_TooMany, sp_get, tk_cls, mo_TooMany⟩
  have XG_TimerError : EG mg "TimerError" c_TimerError := ⟨PySem.W.mg_of X G a_TimerError⟩
  have XG_NoBase : EG mg "NoBase" c_NoBase := ⟨PySem.W.mg_of X G a_NoBase⟩
  have XG_NoLevels : EG mg "NoLevels" c_NoLevels := ⟨PySem.W.mg_of X G a_NoLevels⟩
  have XG_NoTick : EG mg "NoTick" c_NoTick := ⟨PySem.W.mg_of X G a_NoTick⟩
  have XG_NoPeriod : EG mg "NoPeriod" c_NoPeriod := ⟨PySem.W.mg_of X G a_NoPeriod⟩
  have XG_NoTimer : EG mg "NoTimer" c_NoTimer := ⟨PySem.W.mg_of X G a_NoTimer⟩
  have XG_NoOrder : EG mg "NoOrder" c_NoOrder := ⟨PySem.W.mg_of X G a_NoOrder⟩
  have XG_NoSighting : EG mg "NoSighting" c_NoSighting := ⟨PySem.W.mg_of X G a_NoSighting⟩
  refine ⟨PySem.W.fnOf "law" "law" (defArgs s_law) (defBody s_law) (defScope s_law) .none kV_law dc_law pm_law an_law cd_law ct_law, [(cc_law_bound_right, P_law_bound_right)], spLaw K [(P_law_bound_right, lamQ "_law_bound_right")], (List.forall_mem_cons.mpr ⟨hT8 _ tm_law_bound_right, (fun _ hh => nomatch hh)⟩), (List.forall_mem_cons.mpr ⟨nt_law_bound_right, (fun _ hh => nomatch hh)⟩), (List.forall_mem_cons.mpr ⟨PySem.W.codeHd_of_K X ch_law_bound_right, (fun _ hh => nomatch hh)⟩), fun s v => .of_eq rfl, fun H a ns h1 _ h3 h4 => ⟨a, ns, rfl, h4, h1, (List.forall_mem_cons.mpr ⟨LamX.TabS.nil (h3 (cc_law_bound_right, P_law_bound_right) (by simp)), (fun _ hh => nomatch hh)⟩), fun _ => rfl⟩, fun base hKb hNb hTB => ?_⟩
  have TB_law_bound_right := hTB (cc_law_bound_right, P_law_bound_right) (by simp)
  have h_is_integer : Has l.prog w K mg base 1 "is_integer" ["given"] [] spIsInt := D_is_integer.has fun _ _ F => ok_is_integer F T
  have h2_is_tick : Has l.prog w K mg base 2 "is_tick" ["given", "least"] [.int 0] spIsTick ∧ Has l.prog w K mg base 2 "is_tick" ["given", "least"] [] spIsTick := D_is_tick.has fun _ _ F => ok_is_tick F T h_is_integer
  have h_is_base : Has l.prog w K mg base 2 "is_base" ["given"] [] spIsBase := D_is_base.has fun _ _ F => ok_is_base F h_is_integer
  have h_check_base : Has l.prog w K mg base 3 "check_base" ["base"] [] spCheckBase := D_check_base.has fun _ _ F => ok_check_base F h_is_base
  have h2_check_tick : Has l.prog w K mg base 3 "check_tick" ["tick", "least"] [.int 0] spCheckTick ∧ Has l.prog w K mg base 3 "check_tick" ["tick", "least"] [] spCheckTick := D_check_tick.has fun _ _ F => ok_check_tick F h2_is_tick.2
  have h_level_and_size : Has l.prog w K mg base 1 "level_and_size" ["base", "now", "due"] [] spLevel := D_level_and_size.has fun _ _ F => ok_level_and_size F 
  have h_path : Has l.prog w K mg base 2 "path" ["base", "now", "due"] [] spPath := D_path.has fun _ _ F => ok_path F h_level_and_size
  have h_word_at : Has l.prog w K mg base 1 "word_at" ["levels", "level"] [] (spWordAt K) := D_word_at.has fun _ _ F => ok_word_at F T
  have h_is_word : Has l.prog w K mg base 1 "is_word" ["given"] [] spIsWord := D_is_word.has fun _ _ F => ok_is_word F T h_WORDS
  have h_is_length : Has l.prog w K mg base 2 "is_length" ["given"] [] spIsLength := D_is_length.has fun _ _ F => ok_is_length F ⟨_, h_MOST_LEVELS⟩ h_is_integer
  have h_are_levels : Has l.prog w K mg base 3 "are_levels" ["given"] [] (spAreLevels K) := D_are_levels.has fun _ _ F => ok_are_levels F T h_is_length h_is_word
  have h_check_levels : Has l.prog w K mg base 4 "check_levels" ["levels"] [] (spCheckLevels K) := D_check_levels.has fun _ _ F => ok_check_levels F h_are_levels
  have h_goes_in_front : Has l.prog w K mg base 3 "goes_in_front" ["base", "levels", "now", "due", "lowest"] [] (spFront K) := D_goes_in_front.has fun _ _ F => ok_goes_in_front F h_path h_word_at
  have h_is_period : Has l.prog w K mg base 2 "is_period" ["given"] [] spIsPeriod := D_is_period.has fun _ _ F => ok_is_period F h_is_integer
  have h_is_periodic : Has l.prog w K mg base 3 "is_periodic" ["given"] [] spPeriodic := D_is_periodic.has fun _ _ F => ok_is_periodic F T h2_is_tick.1 h_is_period
  have h_check_periodic : Has l.prog w K mg base 4 "check_periodic" ["given"] [] spCheckPeriodic := D_check_periodic.has fun _ _ F => ok_check_periodic F h_is_periodic
  have h_check_two : Has l.prog w K mg base 5 "check_two" ["one", "other"] [] spCheckTwo := D_check_two.has fun _ _ F => ok_check_two F h_check_periodic
  have h_is_ahead : Has l.prog w K mg base 4 "is_ahead" ["base", "levels", "one", "other", "tick"] [] (spAhead K) := D_is_ahead.has fun _ _ F => ok_is_ahead F h_goes_in_front
  have h_fires_again : Has l.prog w K mg base 1 "fires_again" ["timer", "tick"] [] spFires := D_fires_again.has fun _ _ F => ok_fires_again F 
  have h_first_of_two : Has l.prog w K mg base 6 "first_of_two" ["base", "levels", "one", "other", "tick"] [] (spFirst K) := D_first_of_two.has fun _ _ F => ok_first_of_two F h_check_base h_check_levels h2_check_tick.1 h_check_two h_fires_again h_is_ahead
  have h_divisor_and_factor : Has l.prog w K mg base 1 "divisor_and_factor" ["number", "modulus"] [] spDivFac := D_divisor_and_factor.has fun _ _ F => ok_divisor_and_factor F 
  have h_meetings : Has l.prog w K mg base 2 "meetings" ["one", "other"] [] spMeet := D_meetings.has fun _ _ F => ok_meetings F T h_divisor_and_factor
  have h_common : Has l.prog w K mg base 5 "common" ["one", "other"] [] spMeet := D_common.has fun _ _ F => ok_common F h_check_periodic h_meetings
  have h_times_first : Has l.prog w K mg base 6 "times_first" ["base", "levels", "one", "other", "first", "behind"] [] (spTimes K) := D_times_first.has fun _ _ F => ok_times_first F T ⟨_, h_MOST_MEETINGS⟩ h_check_base h_check_levels h2_check_tick.1 h2_check_tick.2 h_check_two h_meetings h_is_ahead
  have hX_times_first := D_times_first.hasX (P := l.prog) (w := w) (base := base) (k := 6) (sp := spTimesMany K c_TooMany) fun _ _ F => okX_times_first F T X_TooMany ⟨_, h_MOST_MEETINGS⟩ h_check_base h_check_levels h2_check_tick.1 h2_check_tick.2 h_check_two h_meetings h_is_ahead
  have kd_TooMany : Kind8 K c_TooMany [c_NoBase, c_NoLevels, c_NoTick, c_NoPeriod, c_NoTimer, c_NoOrder, c_NoSighting, c_TooMany] 7 := kind8_of 7 EX_TooMany ve_TooMany (by decide) (eight_at ⟨fun z => absurd z (by decide), fun _ => kit_no ss_TooMany hx_NoBase tx_NoBase ss_TooMany_NoBase⟩ ⟨fun z => absurd z (by decide), fun _ => kit_no ss_TooMany hx_NoLevels tx_NoLevels ss_TooMany_NoLevels⟩ ⟨fun z => absurd z (by decide), fun _ => kit_no ss_TooMany hx_NoTick tx_NoTick ss_TooMany_NoTick⟩ ⟨fun z => absurd z (by decide), fun _ => kit_no ss_TooMany hx_NoPeriod tx_NoPeriod ss_TooMany_NoPeriod⟩ ⟨fun z => absurd z (by decide), fun _ => kit_no ss_TooMany hx_NoTimer tx_NoTimer ss_TooMany_NoTimer⟩ ⟨fun z => absurd z (by decide), fun _ => kit_no ss_TooMany hx_NoOrder tx_NoOrder ss_TooMany_NoOrder⟩ ⟨fun z => absurd z (by decide), fun _ => kit_no ss_TooMany hx_NoSighting tx_NoSighting ss_TooMany_NoSighting⟩ ⟨fun _ => rfl, fun z => absurd rfl z⟩)
  have te_TooMany := PySem.W.exm_ref bx_TimerError hx_TimerError tx_TimerError ss_TooMany_TimerError
  have h_law_cell_at : Has l.prog w K mg base 1 "_law_cell_at" ["_law_script", "_law_k"] [] (spCellAt K) := D_law_cell_at.has fun _ _ F => ok_cell_at F T
  have h_law_mixed : Has l.prog w K mg base 1 "_law_mixed" ["_law_cell", "_law_k"] [] spMixed := D_law_mixed.has fun _ _ F => ok_mixed F 
  have h_law_source : Has l.prog w K mg base 2 "_law_source" ["_law_script", "_law_k"] [] (spSource K) := D_law_source.has fun _ _ F => ok_source F T h_law_cell_at h_law_mixed
  have h_law_next : Has l.prog w K mg base 2 "_law_next" ["_law_source_here", "_law_many"] [] spNext := D_law_next.has fun _ _ F => ok_next F h_law_mixed
  have h_law_base : Has l.prog w K mg base 3 "_law_base" ["_law_source_here"] [] spBase := D_law_base.has fun _ _ F => ok_base F h_law_next
  have h_law_levels : Has l.prog w K mg base 3 "_law_levels" ["_law_source_here"] [] spLevels := D_law_levels.has fun _ _ F => ok_levels F T h_law_next
  have h_law_pair : Has l.prog w K mg base 3 "_law_pair" ["_law_source_here", "_law_measure"] [] spPair36 := D_law_pair.has fun _ _ F => ok_pair36 F h_law_next
  have h_law_from : Has l.prog w K mg base 6 "_law_from" ["_law_one", "_law_two"] [] spFrom := D_law_from.has fun _ _ F => ok_law_from F T h_common
  have h_law_range_right : Has l.prog w K mg base 7 "_law_range_right" ["_law_source_here", "_law_wheel", "_law_one", "_law_two", "_law_most"] [] (spRange36 K) := D_law_range_right.has fun _ _ F => ok_range36 F T h_law_next h_law_from h_times_first h_first_of_two
  have G_bound := ok_bound36 (P := l.prog) (w := w) (base := base) (lamT := [(P_law_bound_right, lamQ "_law_bound_right")]) FC_law_bound_right T FC_law_word mgC_law_word bC_law_word TB_law_bound_right (by simp) (fun p hp _ => congrArg Prod.snd (List.mem_singleton.mp hp)) XG_TimerError XG_NoBase XG_NoLevels XG_NoTick XG_NoOrder XG_NoPeriod XG_NoSighting XG_NoTimer ⟨X_TooMany.g⟩ te_TooMany kd_TooMany h_law_from h_times_first hX_times_first h_common
  have h_law_bound_right : Has l.prog w K mg base 9 "_law_bound_right" ["_law_wheel", "_law_one", "_law_two"] [] (spBound36 K [(P_law_bound_right, lamQ "_law_bound_right")]) := ⟨_, _, [], G_bound, mgC_law_bound_right, FC_law_bound_right.kp, bC_law_bound_right, .nil⟩
  exact ok_law (fun_mk (st := s_law) l_law c_law k_law) T h_law_source h_law_base h_law_levels h_law_next h_law_pair h_common h_law_range_right h_law_bound_right
end Td
open PySem PySem.W PyProof.Rows in
set_option maxRecDepth 100000 in
set_option maxHeartbeats 0 in
theorem PySem.Challenge.cw_timerdeque_k36_whole_counts_of_great_ran_holds : PySem.Challenge.rw_timerdeque_k36_whole_counts_of_great_ran.Holds := by
  w_on; o_law; k_head; (case hw => w_witness2)
  k_fill
  refine LamX.walk_ofTs (l := PySem.Challenge.rw_timerdeque_k36_whole_counts_of_great_ran) (n := 63) (k := 10) (x := "_law_script") (CX := fun _ => L2.CX0) rfl (by decide) rfl ⟨rfl, by decide, by decide⟩ (fun w h Y => PySem.W.km_in_of Y) ?F (fun _ _ _ _ _ h => h)
  case F =>
    intro w mg fa h Y KX G hmg
    refine' Td.all_mk KX G hmg ?hT8 ?a_is_integer ?l_is_integer ?c_is_integer ?k_is_integer ?a_is_word ?l_is_word ?c_is_word ?k_is_word ?a_is_base ?l_is_base ?c_is_base ?k_is_base ?a_is_length ?l_is_length ?c_is_length ?k_is_length ?a_are_levels ?l_are_levels ?c_are_levels ?k_are_levels ?a_is_tick ?l_is_tick ?t_is_tick ?c_is_tick ?k_is_tick ?a_is_period ?l_is_period ?c_is_period ?k_is_period ?a_check_base ?l_check_base ?c_check_base ?k_check_base ?a_check_levels ?l_check_levels ?c_check_levels ?k_check_levels ?a_check_tick ?l_check_tick ?t_check_tick ?c_check_tick ?k_check_tick ?a_word_at ?l_word_at ?c_word_at ?k_word_at ?a_level_and_size ?l_level_and_size ?c_level_and_size ?k_level_and_size ?a_path ?l_path ?c_path ?k_path ?a_goes_in_front ?l_goes_in_front ?c_goes_in_front ?k_goes_in_front ?a_is_periodic ?l_is_periodic ?c_is_periodic ?k_is_periodic ?a_check_periodic ?l_check_periodic ?c_check_periodic ?k_check_periodic ?a_check_two ?l_check_two ?c_check_two ?k_check_two ?a_fires_again ?l_fires_again ?c_fires_again ?k_fires_again ?a_divisor_and_factor ?l_divisor_and_factor ?c_divisor_and_factor ?k_divisor_and_factor ?a_meetings ?l_meetings ?c_meetings ?k_meetings ?a_is_ahead ?l_is_ahead ?c_is_ahead ?k_is_ahead ?a_common ?l_common ?c_common ?k_common ?a_first_of_two ?l_first_of_two ?c_first_of_two ?k_first_of_two ?a_times_first ?l_times_first ?c_times_first ?k_times_first ?a_law_cell_at ?l_law_cell_at ?c_law_cell_at ?k_law_cell_at ?a_law_mixed ?l_law_mixed ?c_law_mixed ?k_law_mixed ?a_law_source ?l_law_source ?c_law_source ?k_law_source ?a_law_next ?l_law_next ?c_law_next ?k_law_next ?a_law_base ?l_law_base ?c_law_base ?k_law_base ?a_law_levels ?l_law_levels ?c_law_levels ?k_law_levels ?a_law_word ?l_law_word ?c_law_word ?k_law_word ?a_law_pair ?l_law_pair ?c_law_pair ?k_law_pair ?a_law_from ?l_law_from ?c_law_from ?k_law_from ?a_law_range_right ?l_law_range_right ?c_law_range_right ?k_law_range_right ?a_law_bound_right ?l_law_bound_right ?c_law_bound_right ?k_law_bound_right ?lc_law_bound_right ?lp_law_bound_right ?ch_law_bound_right ?nt_law_bound_right ?tm_law_bound_right ?a_law ?l_law ?c_law ?k_law ?a_TooMany ?a_TimerError ?a_NoBase ?a_NoLevels ?a_NoTick ?a_NoPeriod ?a_NoTimer ?a_NoOrder ?a_NoSighting ?x_TooMany ?kp_TooMany ?bx_TooMany ?tx_TooMany ?ga_TooMany ?gg_TooMany ?hx_TooMany ?cc_TooMany ?mo_TooMany ?ss_TooMany ?sp_get ?tk_cls ?bx_TimerError ?ve_TooMany ?hx_TimerError ?tx_TimerError ?ss_TooMany_TimerError ?hx_NoBase ?tx_NoBase ?ss_TooMany_NoBase ?hx_NoLevels ?tx_NoLevels ?ss_TooMany_NoLevels ?hx_NoTick ?tx_NoTick ?ss_TooMany_NoTick ?hx_NoPeriod ?tx_NoPeriod ?ss_TooMany_NoPeriod ?hx_NoTimer ?tx_NoTimer ?ss_TooMany_NoTimer ?hx_NoOrder ?tx_NoOrder ?ss_TooMany_NoOrder ?hx_NoSighting ?tx_NoSighting ?ss_TooMany_NoSighting ?z_isinstance ?z_int ?z_bool ?z_str ?z_all ?z_list ?z_len ?z_min ?z_tuple ?z_max ?z_range ?z_ValueError ?z_sum ?a_WORDS ?l_WORDS ?a_MOST_LEVELS ?a_MOST_MEETINGS
    (case hT8 => exact PySem.W.km_tabs_of Y)
    (case a_is_integer => k_is)
    (case l_is_integer => k_is)
    (case c_is_integer => k_is)
    (case k_is_integer => k_is)
    (case a_is_word => k_is)
    (case l_is_word => k_is)
    (case c_is_word => k_is)
    (case k_is_word => k_is)
    (case a_is_base => k_is)
    (case l_is_base => k_is)
    (case c_is_base => k_is)
    (case k_is_base => k_is)
    (case a_is_length => k_is)
    (case l_is_length => k_is)
    (case c_is_length => k_is)
    (case k_is_length => k_is)
    (case a_are_levels => k_is)
    (case l_are_levels => k_is)
    (case c_are_levels => k_is)
    (case k_are_levels => k_is)
    (case a_is_tick => k_is)
    (case l_is_tick => k_is)
    (case t_is_tick => k_is)
    (case c_is_tick => k_is)
    (case k_is_tick => k_is)
    (case a_is_period => k_is)
    (case l_is_period => k_is)
    (case c_is_period => k_is)
    (case k_is_period => k_is)
    (case a_check_base => k_is)
    (case l_check_base => k_is)
    (case c_check_base => k_is)
    (case k_check_base => k_is)
    (case a_check_levels => k_is)
    (case l_check_levels => k_is)
    (case c_check_levels => k_is)
    (case k_check_levels => k_is)
    (case a_check_tick => k_is)
    (case l_check_tick => k_is)
    (case t_check_tick => k_is)
    (case c_check_tick => k_is)
    (case k_check_tick => k_is)
    (case a_word_at => k_is)
    (case l_word_at => k_is)
    (case c_word_at => k_is)
    (case k_word_at => k_is)
    (case a_level_and_size => k_is)
    (case l_level_and_size => k_is)
    (case c_level_and_size => k_is)
    (case k_level_and_size => k_is)
    (case a_path => k_is)
    (case l_path => k_is)
    (case c_path => k_is)
    (case k_path => k_is)
    (case a_goes_in_front => k_is)
    (case l_goes_in_front => k_is)
    (case c_goes_in_front => k_is)
    (case k_goes_in_front => k_is)
    (case a_is_periodic => k_is)
    (case l_is_periodic => k_is)
    (case c_is_periodic => k_is)
    (case k_is_periodic => k_is)
    (case a_check_periodic => k_is)
    (case l_check_periodic => k_is)
    (case c_check_periodic => k_is)
    (case k_check_periodic => k_is)
    (case a_check_two => k_is)
    (case l_check_two => k_is)
    (case c_check_two => k_is)
    (case k_check_two => k_is)
    (case a_fires_again => k_is)
    (case l_fires_again => k_is)
    (case c_fires_again => k_is)
    (case k_fires_again => k_is)
    (case a_divisor_and_factor => k_is)
    (case l_divisor_and_factor => k_is)
    (case c_divisor_and_factor => k_is)
    (case k_divisor_and_factor => k_is)
    (case a_meetings => k_is)
    (case l_meetings => k_is)
    (case c_meetings => k_is)
    (case k_meetings => k_is)
    (case a_is_ahead => k_is)
    (case l_is_ahead => k_is)
    (case c_is_ahead => k_is)
    (case k_is_ahead => k_is)
    (case a_common => k_is)
    (case l_common => k_is)
    (case c_common => k_is)
    (case k_common => k_is)
    (case a_first_of_two => k_is)
    (case l_first_of_two => k_is)
    (case c_first_of_two => k_is)
    (case k_first_of_two => k_is)
    (case a_times_first => k_is)
    (case l_times_first => k_is)
    (case c_times_first => k_is)
    (case k_times_first => k_is)
    (case a_law_cell_at => k_is)
    (case l_law_cell_at => k_is)
    (case c_law_cell_at => k_is)
    (case k_law_cell_at => k_is)
    (case a_law_mixed => k_is)
    (case l_law_mixed => k_is)
    (case c_law_mixed => k_is)
    (case k_law_mixed => k_is)
    (case a_law_source => k_is)
    (case l_law_source => k_is)
    (case c_law_source => k_is)
    (case k_law_source => k_is)
    (case a_law_next => k_is)
    (case l_law_next => k_is)
    (case c_law_next => k_is)
    (case k_law_next => k_is)
    (case a_law_base => k_is)
    (case l_law_base => k_is)
    (case c_law_base => k_is)
    (case k_law_base => k_is)
    (case a_law_levels => k_is)
    (case l_law_levels => k_is)
    (case c_law_levels => k_is)
    (case k_law_levels => k_is)
    (case a_law_word => k_is)
    (case l_law_word => k_is)
    (case c_law_word => k_is)
    (case k_law_word => k_is)
    (case a_law_pair => k_is)
    (case l_law_pair => k_is)
    (case c_law_pair => k_is)
    (case k_law_pair => k_is)
    (case a_law_from => k_is)
    (case l_law_from => k_is)
    (case c_law_from => k_is)
    (case k_law_from => k_is)
    (case a_law_range_right => k_is)
    (case l_law_range_right => k_is)
    (case c_law_range_right => k_is)
    (case k_law_range_right => k_is)
    (case a_law_bound_right => k_is)
    (case l_law_bound_right => k_is)
    (case c_law_bound_right => k_is)
    (case k_law_bound_right => k_is)
    (case lc_law_bound_right => k_is)
    (case lp_law_bound_right => rfl)
    (case ch_law_bound_right => rfl)
    (case nt_law_bound_right => rfl)
    (case tm_law_bound_right => simp)
    (case a_law => k_is)
    (case l_law => k_is)
    (case c_law => k_is)
    (case k_law => k_is)
    (case a_TooMany => k_is)
    (case a_TimerError => k_is)
    (case a_NoBase => k_is)
    (case a_NoLevels => k_is)
    (case a_NoTick => k_is)
    (case a_NoPeriod => k_is)
    (case a_NoTimer => k_is)
    (case a_NoOrder => k_is)
    (case a_NoSighting => k_is)
    (case x_TooMany => k_exc)
    (case kp_TooMany => k_is)
    (case bx_TooMany => k_is)
    (case tx_TooMany => k_is)
    (case ga_TooMany => k_is)
    (case gg_TooMany => k_is)
    (case hx_TooMany => k_is)
    (case cc_TooMany => k_is)
    (case mo_TooMany => k_is)
    (case ss_TooMany => k_is)
    (case sp_get => k_is)
    (case tk_cls => k_is)
    (case bx_TimerError => k_is)
    (case ve_TooMany => k_is)
    (case hx_TimerError => k_is)
    (case tx_TimerError => k_is)
    (case ss_TooMany_TimerError => k_is)
    (case hx_NoBase => k_is)
    (case tx_NoBase => k_is)
    (case ss_TooMany_NoBase => k_is)
    (case hx_NoLevels => k_is)
    (case tx_NoLevels => k_is)
    (case ss_TooMany_NoLevels => k_is)
    (case hx_NoTick => k_is)
    (case tx_NoTick => k_is)
    (case ss_TooMany_NoTick => k_is)
    (case hx_NoPeriod => k_is)
    (case tx_NoPeriod => k_is)
    (case ss_TooMany_NoPeriod => k_is)
    (case hx_NoTimer => k_is)
    (case tx_NoTimer => k_is)
    (case ss_TooMany_NoTimer => k_is)
    (case hx_NoOrder => k_is)
    (case tx_NoOrder => k_is)
    (case ss_TooMany_NoOrder => k_is)
    (case hx_NoSighting => k_is)
    (case tx_NoSighting => k_is)
    (case ss_TooMany_NoSighting => k_is)
    (case z_isinstance => k_is)
    (case z_int => k_is)
    (case z_bool => k_is)
    (case z_str => k_is)
    (case z_all => k_is)
    (case z_list => k_is)
    (case z_len => k_is)
    (case z_min => k_is)
    (case z_tuple => k_is)
    (case z_max => k_is)
    (case z_range => k_is)
    (case z_ValueError => k_is)
    (case z_sum => k_is)
    (case a_WORDS => k_is)
    (case l_WORDS => k_is)
    (case a_MOST_LEVELS => k_is)
    (case a_MOST_MEETINGS => k_is)
