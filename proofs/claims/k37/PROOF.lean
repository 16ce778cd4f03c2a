import PyProof.Rows.All
import Wide.All
import OpenK.AllK
import Wide.FinOn
import HandS.ForMost
import HandS.IsInst
import HandS.Wide
import HandS.WideBits
import HandS.Defaults
import HandS.Zip
import HandS.Flow
import HandS.SortKw
import HandS.SortOrd
import HandS.MakeKwOnly
import HandS.Conv
import HandS.More
import HandS.Small
import KE.DatumOrd
import HandS.NoneIn
import HandS.Style
import HandS.Iter
import HandS.WordsDict
import HandS.DictTup
import HandS.DictSub
import PyProof.DictMoreH
import HandS.SortRule
import PyProof.LongRange
import HandS.Exc
import HandS.ExcOwn
import HandS.ExcIs
import HandS.TryOnly
import HandS.WordsExc
import PySem.Challenge.RW_timerdeque_k37_whole_many_timers_by_turn
set_option Elab.async false
set_option linter.all false
set_option maxRecDepth 100000
set_option maxHeartbeats 4000000
set_option exponentiation.threshold 10000
namespace Td
open PySem PySem.Spec PyProof.Rows L2
/-! ### small things: promises by name, heaps, numbers -/
section
variable {P : Program} {w : World} {K : PySem.W.Frag} {mg : Str → Option Value} {base : Heap}
/-- the module's name x holds a def that keeps the promise sp, its last parameters filled up by dvs -/
def Has (P : Program) (w : World) (K : PySem.W.Frag) (mg : Str → Option Value) (base : Heap) (k : Nat) (x : Str) (ps : List Str) (dvs : List V) (sp : Sp) : Prop :=
  ∃ (f : Addr) (fd : FuncData) (ds : List Value), FnOk P w K mg base CX0 k f fd ps sp ∧ mg x = some (.ref f) ∧ PySem.W.keepIn K (.ref f) = true ∧ Binds K fd ps ds ∧ Vals dvs ds
/-- what the top says of a def without defaults -/
def Df (K : PySem.W.Frag) (mg : Str → Option Value) (x : Str) (st : Stmt) (ps : List Str) : Prop :=
  ∃ (f : Addr) (fd : FuncData), Fun K x x st f fd ∧ mg x = some (.ref f) ∧ Binds K fd ps []
theorem Df.has {k : Nat} {x : Str} {st : Stmt} {ps : List Str} {sp : Sp} (D : Df K mg x st ps) (ok : ∀ f fd, Fun K x x st f fd → FnOk P w K mg base CX0 k f fd ps sp) : Has P w K mg base k x ps [] sp := by
  obtain ⟨f, fd, F, m, b⟩ := D
  exact ⟨f, fd, [], ok f fd F, m, F.kp, b, .nil⟩
/-- a def with one default, the last parameter's -/
def Dd (K : PySem.W.Frag) (mg : Str → Option Value) (x : Str) (st : Stmt) (ps : List Str) (d : V) : Prop :=
  ∃ (f : Addr) (fd : FuncData), FunD K x x (defArgs st) (defBody st) (defScope st) [d] [] f fd ∧ mg x = some (.ref f) ∧ (∃ ds, Vals [d] ds ∧ Binds K fd ps ds) ∧ Binds K fd ps []
theorem Dd.has {k : Nat} {x : Str} {st : Stmt} {ps : List Str} {d : V} {sp : Sp} (D : Dd K mg x st ps d) (ok : ∀ f fd, FunD K x x (defArgs st) (defBody st) (defScope st) [d] [] f fd → FnOk P w K mg base CX0 k f fd ps sp) :
    Has P w K mg base k x ps [d] sp ∧ Has P w K mg base k x ps [] sp := by
  obtain ⟨f, fd, F, m, ⟨ds, r, b⟩, b0⟩ := D
  exact ⟨⟨f, fd, ds, ok f fd F, m, F.kp, b, r⟩, ⟨f, fd, [], ok f fd F, m, F.kp, b0, .nil⟩⟩
end
section
variable {X : Cx}
/-- a product of which one side is small, or both are not too great -/
def CMulA (i j : Int) : Prop := IntMulOk i j
theorem op_mulA : OpR X (binaryOp .Mult) (rI CMulA fun i j => .int (i * j)) := opI fun _ _ _ _ _ _ _ hc q => mul_int q hc
end
/-! x *= e, ints -/
section
variable {X : Cx}
def ipC (C : Int → Int → Prop) (f : Int → Int → Int) : TIp := fun x y H Q => ∃ i j, x = .int i ∧ y = .int j ∧ C i j ∧ Q (.int (f i j)) H
theorem ip_mulA : PIp X .Mult (ipC CMulA fun i j => i * j) := by
  intro pins s σ H x y v u Q I r1 r2 h
  obtain ⟨i, j, rfl, rfl, hm, q⟩ := h
  obtain ⟨t, rfl⟩ := r1
  obtain ⟨t', rfl⟩ := r2
  exact imul_int ⟨.int _, H, I.tok _, ⟨_, rfl⟩, q⟩ hm
end
theorem mul_l {i j : Int} (h1 : -(2 ^ 64) < i) (h2 : i < 2 ^ 64) : CMulA i j := CMul.ok (.inl ⟨h1, h2⟩)
theorem mul_r {i j : Int} (h1 : -(2 ^ 64) < j) (h2 : j < 2 ^ 64) : CMulA i j := CMul.ok (.inr ⟨h1, h2⟩)
theorem mul_w {i j : Int} (a b : Nat) (ha : i.natAbs < 2 ^ a) (hb : j.natAbs < 2 ^ b) (h0 : 0 < a := by decide) (h1 : 0 < b := by decide) (h : a + b ≤ 1000000 := by decide) : CMulA i j := (wide_mul ha hb h0 h1 h).ok
theorem div_s {i j : Int} (h : 0 < j) (h2 : j < 2 ^ 300) : CDivW i j := wide_div (b := 300) h (by omega) (by decide) (by decide)
theorem div_b {i j : Int} (b : Nat) (h : 0 < j) (h2 : j < 2 ^ b) (h0 : 0 < b := by decide) (h9 : b ≤ 9000 := by decide) : CDivW i j := by
  refine wide_div (b := b) h ?_ h0 h9
  have e : ((2 ^ b : Nat) : Int) = (2 : Int) ^ b := by
    rw [Int.natCast_pow]
    rfl
  omega
theorem same_upd {H : Hp} {p : Addr} {o : HO} (h : H p = none) : Same H (upd H p o) := fun b x e => by
  rw [upd_ne (ne_of_none e h)]
  exact e
theorem sizeLine_ge {n : Nat} (h : n ≤ 1000000) : n < sizeLine := by
  rw [sizeLine_eq]
  omega
theorem sizeLine_le {n : Nat} (h : n ≤ 1000000) : n ≤ sizeLine := Nat.le_of_lt (sizeLine_ge h)
theorem pos_of {a c : Nat} (h : a ≤ c) (n : ¬ a = c) : 0 < c := by omega
/-! ### operators on numbers that are not negative -/
def rN (C : Nat → Nat → Prop) (g : Nat → Nat → Nat) : R2 := fun x y H Q => ∃ a b : Nat, x = .int (a : Nat) ∧ y = .int (b : Nat) ∧ C a b ∧ Q (.int ((g a b : Nat) : Int)) H
section
variable {X : Cx}
theorem opN {f : Value → Value → Sem Value} {C : Nat → Nat → Prop} {g : Nat → Nat → Nat} {CI : Int → Int → Prop} {gI : Int → Int → V} (h : OpR X f (rI CI gI)) (e : ∀ a b : Nat, C a b → CI (a : Nat) (b : Nat) ∧ gI (a : Nat) (b : Nat) = .int ((g a b : Nat) : Int)) : OpR X f (rN C g) := by
  intro pins s σ H x y v u Q I rx ry hq
  obtain ⟨a, b, ex, ey, hc, q⟩ := hq
  obtain ⟨h1, h2⟩ := e a b hc
  exact h pins s σ H x y v u Q I rx ry ⟨_, _, ex, ey, h1, by rw [h2]; exact q⟩
theorem opN0 {f : Value → Value → Sem Value} {C : Nat → Nat → Prop} {g : Nat → Nat → Nat} {gI : Int → Int → V} (h : OpR X f (rI0 gI)) (e : ∀ a b : Nat, C a b → gI (a : Nat) (b : Nat) = .int ((g a b : Nat) : Int)) : OpR X f (rN C g) := by
  intro pins s σ H x y v u Q I rx ry hq
  obtain ⟨a, b, ex, ey, hc, q⟩ := hq
  exact h pins s σ H x y v u Q I rx ry ⟨_, _, ex, ey, by rw [e a b hc]; exact q⟩
def NDiv (_ b : Nat) : Prop := 0 < b ∧ b < 2 ^ 9000
def NMod (_ b : Nat) : Prop := 0 < b
def NSub (a b : Nat) : Prop := b ≤ a
def NMul (a b : Nat) : Prop := IntMulOk (a : Int) (b : Int)
def NAny (_ _ : Nat) : Prop := True
theorem op_divN : OpR X (binaryOp .FloorDiv) (rN NDiv fun a b => a / b) := opN op_fdivW fun a b h => ⟨wide_div (b := 9000) (Int.natCast_pos.mpr h.1) h.2 (by decide) (Nat.le_refl _), rfl⟩
theorem op_remN : OpR X (binaryOp .Mod) (rN NMod fun a b => a % b) := opN op_mod fun a b h => ⟨Int.natCast_pos.mpr h, rfl⟩
theorem op_mulN : OpR X (binaryOp .Mult) (rN NMul fun a b => a * b) := opN op_mulA fun a b h => ⟨h, congrArg V.int (Int.natCast_mul a b).symm⟩
theorem op_addN : OpR X (binaryOp .Add) (rN NAny fun a b => a + b) := opN0 op_add fun _ _ _ => rfl
theorem op_subN : OpR X (binaryOp .Sub) (rN NSub fun a b => a - b) := opN0 op_sub fun a b h => congrArg V.int (Int.natCast_sub h).symm
end
theorem ndiv {a b : Nat} (t : Nat) (h : 0 < b) (h2 : b < 2 ^ t) (ht : t ≤ 9000 := by decide) : NDiv a b := ⟨h, Nat.lt_of_lt_of_le h2 (Nat.pow_le_pow_right (by decide) ht)⟩
theorem nmul_l {a b : Nat} (h : a < 2 ^ 64) : NMul a b := mul_l (by omega) (by omega)
theorem nmul_r {a b : Nat} (h : b < 2 ^ 64) : NMul a b := mul_r (by omega) (by omega)
theorem nmul_w {a b : Nat} (i j : Nat) (ha : a < 2 ^ i) (hb : b < 2 ^ j) (h0 : 0 < i := by decide) (h1 : 0 < j := by decide) (h : i + j ≤ 1000000 := by decide) : NMul a b := mul_w i j ha hb h0 h1 h
theorem int_ne {a b : Nat} (h : a ≠ b) : decide (V.int (a : Nat) = V.int (b : Nat)) = false := decide_eq_false fun e => h (Int.ofNat.inj (V.int.inj e))
theorem dT {p : Prop} [Decidable p] (h : p) : V.bl (decide p) = V.bl true := congrArg V.bl (decide_eq_true h)
theorem dF {p : Prop} [Decidable p] (h : ¬ p) : V.bl (decide p) = V.bl false := congrArg V.bl (decide_eq_false h)
theorem nT {p : Prop} [Decidable p] (h : ¬ p) : V.bl (!decide p) = V.bl true := congrArg V.bl (congrArg (!·) (decide_eq_false h))
theorem nF {p : Prop} [Decidable p] (h : p) : V.bl (!decide p) = V.bl false := congrArg V.bl (congrArg (!·) (decide_eq_true h))
theorem vN {a b : Nat} (h : a ≠ b) : ¬ V.int (a : Nat) = V.int (b : Nat) := fun e => h (Int.ofNat.inj (V.int.inj e))
theorem vE {a b : Nat} (h : a = b) : V.int (a : Nat) = V.int (b : Nat) := congrArg (fun c : Nat => V.int (c : Nat)) h
theorem vI {a b : Int} (h : a ≠ b) : ¬ V.int a = V.int b := fun e => h (V.int.inj e)
/-! ### rules with the written part named (within a comprehension's block) -/
section
variable {X : Cx} {K : PySem.W.Frag}
theorem ix_tupK (e : X.K = K) : IxR X (rIxT K) := by subst e; exact ix_tup
theorem ix_listK (e : X.K = K) : IxR X (rIxL K) := by subst e; exact ix_list
theorem sl_tupK (e : X.K = K) : SlR X (rSlT K) := by subst e; exact sl_tup
theorem sl_listK (e : X.K = K) : SlR X (rSlL K) := by subst e; exact sl_list
theorem op_eqK (e : X.K = K) (hu : X.A.units + 64 < cLine) : OpR X (compareOp .Eq) (rEqD K) := by subst e; exact op_eqD hu
theorem op_neK (e : X.K = K) (hu : X.A.units + 64 < cLine) : OpR X (compareOp .NotEq) (rNeD K) := by subst e; exact op_neD hu
theorem isiK (e : X.K = K) : CallR X (.builtin "isinstance") (rIsi K) := by subst e; exact call_isi
def rLenK (K : PySem.W.Frag) : List V → Hp → VK → Prop := fun xs H Q => ∃ p ys, xs = [.ref p] ∧ (SqL K H p ys ∨ SqT K H p ys) ∧ Q (.int ys.length) H
theorem lenK (e : X.K = K) : CallR X (.builtin "len") (rLenK K) := by subst e; exact call_len_seq
theorem allK (e : X.K = K) (hc : X.calm = true) : CallR X (.builtin "all") (rAll K) := by subst e; exact cr_all hc
theorem sumK (e : X.K = K) (hc : X.calm = true) : CallR X (.builtin "sum") (rSum K) := by subst e; exact cr_sum hc
theorem maxK (e : X.K = K) (hc : X.calm = true) : CallR X (.builtin "max") (rMax K) := by subst e; exact cr_max hc
theorem minK (e : X.K = K) (hc : X.calm = true) : CallR X (.builtin "min") (rMin K) := by subst e; exact cr_min hc
theorem anyK (e : X.K = K) (hc : X.calm = true) : CallR X (.builtin "any") (rAny K) := by subst e; exact cr_any hc
end
section
variable {X : Cx} {K : PySem.W.Frag}
theorem ix_ltK (e : X.K = K) : IxR X (fun x y H Q => rIxL K x y H Q ∨ rIxT K x y H Q) := by subst e; exact ix_list.or ix_tup
theorem pe_orTK {a b : Expr} {ta tb : TE} {rest : List Expr} {pos : Pos} (e : X.K = K) (ha : PE X a ta) (hb : PE X (.BoolOp .Or (b :: rest) pos) tb) : PE X (.BoolOp .Or (a :: b :: rest) pos) (tOrT K ta tb) := by subst e; exact pe_orT ha hb
end
theorem yesT {σ : L2.St} {H : Hp} {Q : Bool → Hp → Prop} (h : Q true H) : tYes σ H Q := h
section
variable {X : Cx} {K : PySem.W.Frag}
theorem pg_tupK {es : List Expr} {k : Nat} {t : TGs} {n : Nat} {pos : Pos} (e : X.K = K) (hc : X.calm = true) (h : PGs X es t)
    (hn : (assignEach es X.env).length = n := by rfl) (hst : (assignEach es X.env).findIdx? (·.1) = none := by rfl) : PG X (.Tuple es k pos) (gTup K n t) := by
  subst e
  exact pg_tup hc h hn hst
end
theorem tyx_list {K : PySem.W.Frag} {H : Hp} {a : Addr} {xs : List V} (h : SqL K H a xs) : TyX K H (.ref a) (.type "list") := by
  rcases h with (h | ⟨o, h⟩) | ⟨o, its, n, h, hc, _⟩
  · exact .base (.lst h)
  · exact .base (.frz h)
  · exact .kList h hc
/-- max and min of two numbers that are not negative -/
def rNN (g : Nat → Nat → Nat) : List V → Hp → VK → Prop := fun xs H Q => ∃ a b : Nat, xs = [.int (a : Nat), .int (b : Nat)] ∧ Q (.int ((g a b : Nat) : Int)) H
section
variable {X : Cx}
theorem max2N (hc : X.calm = true) : CallR X (.builtin "max") (rNN max) := by
  intro pins s σ H xs us Q I r h
  obtain ⟨a, b, rfl, q⟩ := h
  refine call_max2 hc pins s σ H _ us Q I r ⟨_, _, rfl, ?_⟩
  have e : (if (b : Int) > (a : Int) then (b : Int) else (a : Int)) = ((max a b : Nat) : Int) := by split <;> omega
  rw [e]
  exact q
theorem max0N (hc : X.calm = true) : CallR X (.builtin "max") (fun xs H Q => ∃ (z : Int) (n : Nat), xs = [.int 0, .int z] ∧ (if z > 0 then z else 0) = (n : Int) ∧ Q (.int (n : Nat)) H) := by
  intro pins s σ H xs us Q I r h
  obtain ⟨z, n, rfl, e, q⟩ := h
  refine call_max2 hc pins s σ H _ us Q I r ⟨0, z, rfl, ?_⟩
  rw [e]
  exact q
theorem min2N (hc : X.calm = true) : CallR X (.builtin "min") (rNN min) := by
  intro pins s σ H xs us Q I r h
  obtain ⟨a, b, rfl, q⟩ := h
  refine call_min2 hc pins s σ H _ us Q I r ⟨_, _, rfl, ?_⟩
  have e : (if (b : Int) < (a : Int) then (b : Int) else (a : Int)) = ((min a b : Nat) : Int) := by split <;> omega
  rw [e]
  exact q
end
/-- one rest behind several ways -/
theorem cut_at {α : Type} {I : α → Hp → Prop} {G : Prop} (R : α → Hp → Prop) (h1 : (∀ a H, I a H → R a H) → G) (h2 : ∀ a H, I a H → R a H) : G := h1 h2
theorem cut_rest {I : Hp → Prop} {G : Prop} (R : Hp → Prop) (h1 : (∀ H, I H → R H) → G) (h2 : ∀ H, I H → R H) : G := h1 h2
/-! ### range over numbers of any size -/
theorem turn_long {P : Program} {w : World} {K : PySem.W.Frag} {tg : Expr} (r : Addr) (lo c : Int) (n : Nat) :
    Turn P w K tg (Itc lo c n) [r] r (fun i hp => IsLongIter hp r (lo + (i : Nat) * c) ((n : Int) - (i : Nat)) c) where
  mem := List.mem_singleton.mpr rfl
  obj := fun _ _ here b hb => by
    cases List.mem_singleton.mp hb
    exact ⟨_, here, fun _ z => nomatch z⟩
  keep := fun _ _ _ here same => same r (List.mem_singleton.mpr rfl) _ here
  item := by
    intro Y y1 y2 y3 calm i pins s σ H E inv own here more
    subst y1; subst y2; subst y3
    have o := own r (List.mem_singleton.mpr rfl)
    refine (Walks.longrange (prog := Y.prog) (w := Y.w) (inv.ok.hd calm) r lo c n).item i s _ _ more here fun v h2 k hv next keep => ?_
    obtain ⟨t, rfl⟩ := hv
    have inv2 : Inv Y pins σ H { s with heap := h2, toks := k } := inv.turned (fun b ob hb e => keep b ob (fun z => hb (List.mem_singleton.mp z)) e) o.1 o.2.1 o.2.2.2.1 o.2.2.2.2.1 o.2.2.2.2.2
    have stay : ∀ b ∈ [r], H b = none := fun b hb => (own b hb).1
    exact ⟨_, rfl, go_of (s := { s with heap := h2, toks := k }) (n := "longrange_iterator") next rfl rfl (by decide) ⟨.int (lo + (i : Nat) * c), H, inv2, ⟨t, rfl⟩, ⟨rfl, rfl⟩, next, stay⟩⟩
  done := by
    intro Y y1 y2 y3 calm i pins s σ H E inv own here over
    subst y1; subst y2; subst y3
    have o := own r (List.mem_singleton.mpr rfl)
    have le : n ≤ i := over
    exact wpAny_pyNext_long_end (inv.ok.hd calm) here (by omega) fun h2 same => ⟨rfl, inv.turned (t' := s.toks) (fun b ob hb e => same b ob hb e) o.1 o.2.1 o.2.2.2.1 o.2.2.2.2.1 o.2.2.2.2.2⟩
  self := fun _ _ _ _ _ here h => wpAny_pyIter_longiter here h
/-- a range object just made, whatever its size -/
theorem range_wide {X : Cx} {tg : Expr} {pins : List (Addr × Obj)} {σ : L2.St} {H : Hp} {s : Shared} {R : It → Hp → Prop} {E : Value → Shared → Prop} {lo hi c : Int} {t u v : Tok} {tk n : Nat} (I : Inv X pins σ H s)
    (hn : Builtin.Range.rangeSize lo hi c = n) (q : R (Itc lo c n) H) :
    wpAny (model X.prog X.w) X.A (pyIter (.ref s.heap.objs.size)) (PIE X pins σ tg R) E { s with heap := s.heap.push { cls := .type "range", data := .fields #[.int lo t, .int hi u, .int c v] }, toks := tk } := by
  have made : Inv X pins σ H { s with heap := s.heap.push { cls := .type "range", data := .fields #[.int lo t, .int hi u, .int c v] }, toks := tk } := I.kept fun b ob e => Heap.get?_push_of_some _ e
  have e0 : lo + ((0 : Nat) : Int) * c = lo := by simp
  have e9 : (n : Int) - ((0 : Nat) : Int) = Builtin.Range.rangeSize lo hi c := by
    rw [hn]
    simp
  cases small : Builtin.Range.small lo hi c with
  | true =>
    refine wpAny_pyIter_range (IsRange.new ..) small (pi_one (tk := tk) made _ (turn_rangeC _ lo c n) ?_ q)
    show IsRangeIter _ _ (lo + ((0 : Nat) : Int) * c) ((n : Int) - ((0 : Nat) : Int)) c
    rw [e0, e9]
    exact Heap.get?_push_size _ rfl
  | false =>
    refine wpAny_pyIter_longrange (IsRange.new ..) small (pi_one (tk := tk) made _ (turn_long _ lo c n) ?_ q)
    show IsLongIter _ _ (lo + ((0 : Nat) : Int) * c) ((n : Int) - ((0 : Nat) : Int)) c
    rw [e0, e9]
    exact Heap.get?_push_size _ rfl
theorem itc_one (lo : Int) (n : Nat) : Itc lo 1 n = Itr lo n := by
  unfold Itc Itr
  congr 1
  funext i H x H'
  rw [Int.mul_one]
def iWide2 (ta : TA) : TI := fun σ H R => ta σ H fun vs H1 => ∃ i j : Int, vs = [.int i, .int j] ∧ R (Itr i (j - i).toNat) H1
def iWide3 (ta : TA) : TI := fun σ H R => ta σ H fun vs H1 => ∃ (i j c : Int) (n : Nat), vs = [.int i, .int j, .int c] ∧ CDivP (j - i) c ∧ Builtin.Range.rangeSize i j c = n ∧ R (Itc i c n) H1
section
variable {X : Cx} {tg : Expr}
theorem pi_wide2 {a b : Expr} {ta : TA} {p pos : Pos} (hg : Gl X "range") (hm : X.mg "range" = none) (ha : PA X [a, b] ta) (h2 : starEach [a, b] X.env = [(false, eval a X.env), (false, eval b X.env)] := by rfl) (h1 : starEach [b] X.env = [(false, eval b X.env)] := by rfl) :
    PI X tg (.Call (.Name "range" p) [a, b] [] pos) (iWide2 ta) := by
  refine ⟨fun pins s σ H R I h => Call_ (ld_blt I hg hm boot_range (PyProof.Rows.callWith_type1 (thn (ha.run pos pins s σ H _ I h) fun us s1 ⟨vs, H1, I1, r1, q1⟩ => ?_) (by rw [h2, h1]) (by rw [h1]; rfl)))⟩
  obtain ⟨i, j, rfl, q⟩ := q1
  obtain ⟨u1, u2, rfl, ⟨t, rfl⟩, ⟨t', rfl⟩⟩ := vals2 r1
  refine call_range_2 (range_wide (n := (j - i).toNat) I1 ?_ (by rw [itc_one]; exact q))
  rw [rangeSize_one]
  split <;> omega
theorem pi_wide3 {a b c : Expr} {ta : TA} {p pos : Pos} (hg : Gl X "range") (hm : X.mg "range" = none) (ha : PA X [a, b, c] ta)
    (h3 : starEach [a, b, c] X.env = (false, eval a X.env) :: starEach [b, c] X.env := by rfl) (hn : (backTo pos (starEach [b, c] X.env)).any (·.1) = false := by rfl) :
    PI X tg (.Call (.Name "range" p) [a, b, c] [] pos) (iWide3 ta) := by
  refine ⟨fun pins s σ H R I h => Call_ (ld_blt I hg hm boot_range (PyProof.Rows.callWith_type1 (thn (ha.run pos pins s σ H _ I h) fun us s1 ⟨vs, H1, I1, r1, q1⟩ => ?_) h3 hn))⟩
  obtain ⟨i, j, k, n, rfl, hk, hz, q⟩ := q1
  cases r1 with
  | cons ra rr =>
    obtain ⟨u2, u3, rfl, ⟨t', rfl⟩, ⟨t'', rfl⟩⟩ := vals2 rr
    obtain ⟨t, rfl⟩ := ra
    have k0 : k ≠ 0 := fun z => by
      have := hk.1
      omega
    exact call_range_3 k0 (range_wide (tk := s1.toks) I1 hz q) (.inl hk.2)
end
/-- a list made over a range with a step -/
theorem lc_step {lo c : Int} {n : Nat} {g : TG} {tt : TT} {te : TE} {ws : List Nat} {σ : L2.St} {G : Hp} {D : Addr} {Qd : Hp → Prop} (Pv : Nat → Hp → Prop) (start : Pv 0 (upd G D (.lst [])))
    (step : ∀ i G, i < n → Pv i G → g (.int (lo + (i : Nat) * c)) (wipe σ ws) G fun τ G2 => wipe τ ws = wipe σ ws ∧ tt τ G2 fun k G3 => if k = true then te τ G3 fun z G4 => ∃ ac, G4 D = some (.lst ac) ∧ ac.length < sizeLine ∧ Pv (i + 1) (upd G4 D (.lst (ac ++ [z]))) else Pv (i + 1) G3)
    (last : ∀ G, Pv n G → Qd G) : ∃ W : Nat → Nat → Hp → Prop, (∃ m, W 0 m (upd G D (.lst []))) ∧ ∀ i m G, W i m G → ((Itc lo c n).stop i G ∧ Qd G) ∨
      ((Itc lo c n).go i G ∧ ∃ N : Hp → Prop, (∀ G', N G' → ∃ m', m' < m ∧ W (i + 1) m' G') ∧ ∀ x G', (Itc lo c n).yld i G x G' → g x (wipe σ ws) G' fun τ G2 => wipe τ ws = wipe σ ws ∧ tt τ G2 fun k G3 => if k = true then te τ G3 fun z G4 => ∃ ac, G4 D = some (.lst ac) ∧ ac.length < sizeLine ∧ N (upd G4 D (.lst (ac ++ [z]))) else N G3) := by
  refine ⟨fun i m G => (m = n - i ∧ i ≤ n) ∧ Pv i G, ⟨n, ⟨rfl, Nat.zero_le _⟩, start⟩, ?_⟩
  rintro i m G ⟨⟨rfl, le⟩, pv⟩
  rcases Nat.lt_or_ge i n with lt | ge
  · exact .inr ⟨lt, Pv (i + 1), fun G' p' => ⟨n - (i + 1), by omega, ⟨rfl, lt⟩, p'⟩, fun x G' ⟨e1, e2⟩ => by
      rw [e1, e2]
      exact step i G lt pv⟩
  · have e : i = n := Nat.le_antisymm le ge
    rw [e] at pv ⊢
    exact .inl ⟨Nat.le_refl _, last G pv⟩
/-! ### sorted(xs, reverse=True) of pairs of whole numbers; enumerate in a comprehension -/
def pairV (H : Hp) : V → Int × Int
  | .ref b => match H b with
    | some (.tup [.int i, .int j]) => (i, j)
    | _ => (0, 0)
  | _ => (0, 0)
theorem pairV_of {H : Hp} {b : Addr} {i j : Int} (h : H b = some (.tup [.int i, .int j])) : pairV H (.ref b) = (i, j) := by
  show (match H b with | some (.tup [.int i, .int j]) => (i, j) | _ => (0, 0)) = (i, j)
  rw [h]
def rSortedPR (K : PySem.W.Frag) : List V → List V → Hp → VK → Prop := fun vs zs H Q => ∃ (a : Addr) (xs : List V) (k : V → Int × Int), vs = [V.ref a] ∧ zs = [.bl true] ∧ SqL K H a xs ∧ (∀ x ∈ xs, ∃ t, x = V.ref t ∧ H t = some (.tup [.int (k x).1, .int (k x).2])) ∧
  ∀ ys p, SrtO.Srtd (ltP k) ys → ys.Perm xs → H p = none → Q (.ref p) (upd H p (.lst ys.reverse))
section
variable {X : Cx}
theorem cr_sortedPR : CallRK X (.builtin "sorted") [Str.ofString "reverse"] (rSortedPR X.K) := by
  intro pins s σ H vs zs us ws Q I r rz h
  obtain ⟨a, xs, k, rfl, rfl, hs, hx, q⟩ := h
  obtain rfl := Vals.ref1 r
  obtain ⟨w1, rfl, e0⟩ := vals1 rz
  obtain rfl : w1 = Value.bool true := e0
  obtain ⟨its, rv, hl, hz⟩ := I.list hs
  obtain ⟨e1, e2⟩ := refs_back rv fun x m => by
    obtain ⟨t, e, _⟩ := hx x m
    exact ⟨t, e⟩
  have hp : ∀ v ∈ its, Srt.IsPair s.heap v (k (backV v)).1 (k (backV v)).2 := fun v hv => by
    obtain ⟨t, rfl⟩ := e2 v hv
    have hm : V.ref t ∈ xs := by rw [e1]; exact List.mem_map.mpr ⟨_, hv, rfl⟩
    obtain ⟨t', e, ht⟩ := hx _ hm
    cases e
    obtain ⟨_, its2, r2, o, ho, hc, n, hd⟩ := I.hok _ _ ht
    obtain ⟨u1, u2, rfl, ri, rj⟩ := vals2 r2
    obtain ⟨t1, rfl⟩ := ri
    obtain ⟨t2, rfl⟩ := rj
    exact ⟨t, o, t1, t2, n, rfl, ho, hc, hd⟩
  refine SrtR.sorted_ordK (b := true) (fun _ => rfl) (PyProof.Rows.args_sorted_rev _ _) (fun _ => PyProof.Rows.args_list_sort_rev _ _) (SrtO.swo_lex fun u => k (backV u)) hl.isList (by rw [← rv.length]; exact hz)
    (fun h2 h₁ a' ha' kp => SrtO.pairs_sortableO (by omega) (fun v hv => (hp v hv).keeps fun b o e c => (kp b o e).2) fun o e => ?_) fun out h1 h2 => ?_
  · have e' : some o = some (seqObj "list" its.toArray 0) := e.symm.trans ha'
    cases e'
    intro c
    exact absurd (Value.type.inj c) (by decide)
  · have h2p : out.Perm its := h2.perm.trans (List.reverse_perm _)
    have h3 : ∀ u ∈ out, ∃ a, u = Value.ref a := fun u hu => e2 u (h2p.mem_iff.mp hu)
    have hb : (out.map backV).Perm xs := by
      rw [e1]
      exact h2p.map backV
    obtain ⟨ep, he'⟩ := PyProof.Rows.sortedAll_at s.heap its out.toArray.reverse
    have hlen : (out.map backV).reverse.length ≤ sizeLine := by
      rw [List.length_reverse, hb.length_eq]
      exact hz
    have er : (out.map backV).reverse = out.reverse.map backV := by rw [List.map_reverse]
    have h4 : ∀ u ∈ out.reverse, ∃ a, u = Value.ref a := fun u hu => h3 u (List.mem_reverse.mp hu)
    have ea : out.reverse.toArray = out.toArray.reverse := by
      apply Array.ext'
      rw [Array.toList_reverse]
    exact ⟨.ref _, upd H (s.heap.objs.size + 1) (.lst (out.map backV).reverse), I.laid (t' := s.toks) (fun _ _ => PyProof.Rows.sortedAll_old) (Nat.le_succ _) ⟨hlen, out.reverse, ep, by rw [er]; exact vals_back h4, by rw [ea]; exact he'⟩, rfl, q _ _ (SrtO.srtd_map h1) hb (I.hok.fresh (Nat.le_succ _))⟩
end
theorem lc_enum {K : PySem.W.Frag} {a : Addr} {xs : List V} {g : TG} {tt : TT} {te : TE} {ws : List Nat} {σ : L2.St} {G : Hp} {D : Addr} {Qd : Hp → Prop} (Pv : Nat → Hp → Prop) (start : Pv 0 (upd G D (.lst []))) (lst : ∀ i G, i ≤ xs.length → Pv i G → SqL K G a xs)
    (step : ∀ (i : Nat) (x : V) (T : Addr) (G : Hp), xs[i]? = some x → Pv i G → G T = none → g (.ref T) (wipe σ ws) (upd G T (.tup [.int (i : Nat), x])) fun τ G2 => wipe τ ws = wipe σ ws ∧ tt τ G2 fun c G3 => if c = true then te τ G3 fun z G4 => ∃ ac, G4 D = some (.lst ac) ∧ ac.length < sizeLine ∧ Pv (i + 1) (upd G4 D (.lst (ac ++ [z]))) else Pv (i + 1) G3)
    (last : ∀ G, Pv xs.length G → Qd G) : ∃ W : Nat → Nat → Hp → Prop, (∃ m, W 0 m (upd G D (.lst []))) ∧ ∀ i m G, W i m G → ((Ite K a).stop i G ∧ Qd G) ∨
      ((Ite K a).go i G ∧ ∃ N : Hp → Prop, (∀ G', N G' → ∃ m', m' < m ∧ W (i + 1) m' G') ∧ ∀ x G', (Ite K a).yld i G x G' → g x (wipe σ ws) G' fun τ G2 => wipe τ ws = wipe σ ws ∧ tt τ G2 fun c G3 => if c = true then te τ G3 fun z G4 => ∃ ac, G4 D = some (.lst ac) ∧ ac.length < sizeLine ∧ N (upd G4 D (.lst (ac ++ [z]))) else N G3) := by
  refine ⟨fun i m G => (m = xs.length - i ∧ i ≤ xs.length) ∧ Pv i G, ⟨xs.length, ⟨rfl, Nat.zero_le _⟩, start⟩, ?_⟩
  rintro i m G ⟨⟨rfl, le⟩, pv⟩
  have here := lst i G le pv
  rcases Nat.lt_or_ge i xs.length with lt | ge
  · refine .inr ⟨⟨xs, _, here, List.getElem?_eq_getElem lt⟩, Pv (i + 1), fun G' p' => ⟨xs.length - (i + 1), by omega, ⟨rfl, lt⟩, p'⟩, fun v G' y => ?_⟩
    obtain ⟨T, x, rfl, nT, rfl, hx⟩ := y
    exact step i x T G (hx xs here) pv nT
  · have e : i = xs.length := Nat.le_antisymm le ge
    rw [e] at pv ⊢
    exact .inl ⟨⟨xs, here, Nat.le_refl _⟩, last G pv⟩
theorem inV_nat {x : Nat} : ∀ {ns : List Nat}, inV (.int (x : Nat)) (ns.map fun y => V.int (y : Nat)) = decide (x ∈ ns)
  | [] => rfl
  | y :: ns => by
    have ih := inV_nat (x := x) (ns := ns)
    show (eqV (.int (y : Nat)) (.int (x : Nat)) || inV (.int (x : Nat)) (ns.map fun y => V.int (y : Nat))) = _
    rw [ih]
    have e : eqV (.int (y : Nat)) (.int (x : Nat)) = decide (y = x) := by
      show decide ((y : Int) = (x : Int)) = _
      exact decide_eq_decide.mpr Int.ofNat_inj
    rw [e]
    by_cases c : y = x
    · have z : x ∈ y :: ns := by
        rw [c]
        exact List.mem_cons_self ..
      rw [decide_eq_true c, decide_eq_true z]
      rfl
    · rw [decide_eq_false c, Bool.false_or]
      exact decide_eq_decide.mpr ⟨fun h => List.mem_cons_of_mem _ h, fun h => (List.mem_cons.mp h).resolve_left fun z => c z.symm⟩
theorem flat_nats (ns : List Nat) : (ns.map fun y => V.int (y : Nat)).all flatV = true := by
  rw [List.all_eq_true]
  intro v hv
  obtain ⟨y, _, rfl⟩ := List.mem_map.mp hv
  rfl
/-! ### digits: the mathematics -/
/-- k is the level of d at n -/
def IsLev (b n d k : Nat) : Prop := n / b ^ (k + 1) = d / b ^ (k + 1) ∧ ∀ j, j < k → n / b ^ (j + 1) ≠ d / b ^ (j + 1)
abbrev Row3 := Nat × Nat × Nat
/-- the stations below level k -/
def tailOf (b d : Nat) : Nat → List Row3
  | 0 => []
  | k + 1 => if d / b ^ k % b ≠ 0 then (k, d / b ^ k % b, d / b ^ (k + 1) * b ^ (k + 1)) :: tailOf b d k else tailOf b d k
/-- the stations of a timer set at n, k its level -/
def rowsOf (b n d k : Nat) : List Row3 := (k, d / b ^ k % b, n) :: tailOf b d k
theorem div_succ (n b k : Nat) : n / b ^ (k + 1) = n / b ^ k / b := by
  rw [Nat.pow_succ, Nat.div_div_eq_div_mul]
theorem pow_pos' {b : Nat} (h : 2 ≤ b) (k : Nat) : 0 < b ^ k := Nat.pow_pos (by omega)
theorem IsLev.uniq {b n d k k' : Nat} (h : IsLev b n d k) (h' : IsLev b n d k') : k = k' := by
  rcases Nat.lt_trichotomy k k' with l | l | l
  · exact absurd h.1 (h'.2 k l)
  · exact l
  · exact absurd h'.1 (h.2 k' l)
theorem IsLev.ne {b n d k : Nat} (h : IsLev b n d k) (hnd : n < d) : n / b ^ k < d / b ^ k := by
  cases k with
  | zero =>
    rw [Nat.pow_zero, Nat.div_one, Nat.div_one]
    exact hnd
  | succ j =>
    have h1 := h.2 j (Nat.lt_succ_self j)
    have h2 : n / b ^ (j + 1) ≤ d / b ^ (j + 1) := Nat.div_le_div_right (Nat.le_of_lt hnd)
    omega
theorem IsLev.size {b n d k : Nat} (h : IsLev b n d k) (hb : 2 ≤ b) (hnd : n < d) : b ^ k ≤ d := by
  have h1 := h.ne hnd
  have h2 : 0 < d / b ^ k := Nat.lt_of_le_of_lt (Nat.zero_le _) h1
  exact (Nat.div_pos_iff.mp h2).2
theorem IsLev.digit {b n d k : Nat} (h : IsLev b n d k) (hnd : n < d) : n / b ^ k % b < d / b ^ k % b := by
  have h1 := h.ne hnd
  have h2 := h.1
  rw [div_succ, div_succ] at h2
  have e1 := Nat.div_add_mod (n / b ^ k) b
  have e2 := Nat.div_add_mod (d / b ^ k) b
  rw [h2] at e1
  omega
theorem pow_two_le {b : Nat} (hb : 2 ≤ b) (k : Nat) : 2 ^ k ≤ b ^ k := Nat.pow_le_pow_left hb k
theorem lev_small {b n d k t : Nat} (h : IsLev b n d k) (hb : 2 ≤ b) (hnd : n < d) (hd : d < 2 ^ t) : k < t := by
  have h1 := h.size hb hnd
  have h2 := pow_two_le hb k
  exact (Nat.pow_lt_pow_iff_right (by decide : 1 < 2)).mp (Nat.lt_of_le_of_lt (Nat.le_trans h2 h1) hd)
/-- cutting below: what two cuts beside one another differ by -/
theorem cut_step (b d k : Nat) : d / b ^ k * b ^ k = d / b ^ (k + 1) * b ^ (k + 1) + d / b ^ k % b * b ^ k := by
  rw [div_succ]
  have e := Nat.div_add_mod (d / b ^ k) b
  have e2 : b ^ (k + 1) = b * b ^ k := by rw [Nat.pow_succ, Nat.mul_comm]
  rw [e2, ← Nat.mul_assoc, ← Nat.add_mul, Nat.mul_comm (d / b ^ k / b) b, e]
theorem cut_le (b d k : Nat) : d / b ^ k * b ^ k ≤ d := Nat.div_mul_le_self d (b ^ k)
theorem cut_mono (b d : Nat) {j k : Nat} (h : j ≤ k) : d / b ^ k * b ^ k ≤ d / b ^ j * b ^ j := by
  induction k with
  | zero =>
    have e : j = 0 := by omega
    rw [e]
    exact Nat.le_refl _
  | succ k ih =>
    by_cases e : j = k + 1
    · rw [e]
      exact Nat.le_refl _
    · have h1 := ih (by omega)
      have h2 := cut_step b d k
      omega
theorem lt_cut {b n d k : Nat} (hb : 2 ≤ b) (h : n / b ^ k < d / b ^ k) : n < d / b ^ k * b ^ k := by
  have hp := pow_pos' hb k
  exact (Nat.div_lt_iff_lt_mul hp).mp h
theorem tail_len (b d : Nat) : ∀ k, (tailOf b d k).length ≤ k
  | 0 => Nat.le_refl _
  | k + 1 => by
    have ih := tail_len b d k
    unfold tailOf
    split
    · rw [List.length_cons]
      omega
    · omega
/-- a later tick that lies ahead of the next cut has the same level -/
theorem IsLev.later {b n d k t : Nat} (hb : 2 ≤ b) (h : IsLev b n d k) (hnd : n < d) (h1 : n ≤ t) (h2 : t < d / b ^ k * b ^ k) : IsLev b t d k := by
  have hp := pow_pos' hb k
  have hp1 := pow_pos' hb (k + 1)
  have htd : t < d := Nat.lt_of_lt_of_le h2 (cut_le b d k)
  refine ⟨?_, fun j hj => ?_⟩
  · have a1 : n / b ^ (k + 1) ≤ t / b ^ (k + 1) := Nat.div_le_div_right h1
    have a2 : t / b ^ (k + 1) ≤ d / b ^ (k + 1) := Nat.div_le_div_right (Nat.le_of_lt htd)
    have a3 := h.1
    omega
  · have a1 : t / b ^ k < d / b ^ k := (Nat.div_lt_iff_lt_mul hp).mpr h2
    intro e
    have e2 : k = (j + 1) + (k - (j + 1)) := by omega
    rw [e2, Nat.pow_add, ← Nat.div_div_eq_div_mul, ← Nat.div_div_eq_div_mul, e] at a1
    omega
/-! ### rules that the layer lacks: min(.., default=None), sorted of a dict with pairs of ints as its keys -/
theorem minOf_spec : ∀ (x : Int) (xs : List Int), PySem.W.minOf x xs ∈ x :: xs ∧ ∀ y ∈ x :: xs, PySem.W.minOf x xs ≤ y := by
  intro x xs
  unfold PySem.W.minOf
  induction xs generalizing x with
  | nil =>
    refine ⟨List.mem_cons_self .., fun y hy => ?_⟩
    rcases List.mem_cons.mp hy with e | hy
    · rw [e]
      exact Int.le_refl _
    · cases hy
  | cons z zs ih =>
    have e : (PySem.W.DatumOrd.lt z x = true) ↔ z < x := by
      show decide (z < x) = true ↔ z < x
      exact decide_eq_true_iff
    rw [List.foldl_cons]
    obtain ⟨h1, h2⟩ := ih (if PySem.W.DatumOrd.lt z x = true then z else x)
    refine ⟨?_, fun y hy => ?_⟩
    · rcases List.mem_cons.mp h1 with e1 | h1
      · rw [e1]
        split
        · exact List.mem_cons_of_mem _ (List.mem_cons_self ..)
        · exact List.mem_cons_self ..
      · exact List.mem_cons_of_mem _ (List.mem_cons_of_mem _ h1)
    · have h3 := h2 _ (List.mem_cons_self ..)
      rcases List.mem_cons.mp hy with e1 | hy
      · rw [e1]
        by_cases c : z < x
        · rw [if_pos (e.mpr c)] at h3 ⊢
          omega
        · rw [if_neg (fun q => c (e.mp q))] at h3 ⊢
          exact h3
      · rcases List.mem_cons.mp hy with e1 | hy
        · rw [e1]
          by_cases c : z < x
          · rw [if_pos (e.mpr c)] at h3 ⊢
            exact h3
          · rw [if_neg (fun q => c (e.mp q))] at h3 ⊢
            omega
        · exact h2 y (List.mem_cons_of_mem _ hy)
def rMinD (K : PySem.W.Frag) : List V → List V → Hp → VK → Prop := fun vs zs H Q => ∃ (a : Addr) (ns : List Int), vs = [V.ref a] ∧ zs = [.non] ∧ SqL K H a (ns.map V.int) ∧ (ns = [] → Q .non H) ∧ ∀ v ∈ ns, (∀ x ∈ ns, v ≤ x) → Q (.int v) H
section
variable {X : Cx} {K : PySem.W.Frag}
theorem minDef (e : X.K = K) (hc : X.calm = true) (hu : X.A.units + 64 < cLine) : CallRK X (.builtin "min") [Str.ofString "default"] (rMinD K) := by
  subst e
  intro pins s σ H vs zs us ws Q I r rz h
  obtain ⟨a, ns, rfl, rfl, hs, q0, q1⟩ := h
  obtain ⟨its, rv, hl, hz⟩ := I.list hs
  obtain ⟨w1, rfl, e1⟩ := vals1 rz
  obtain rfl : w1 = Value.none := e1
  rw [Vals.ref1 r]
  have hi := rv.ints
  refine PySem.W.min_list_datum_default (α := Int) (xs := ns) (I.ok.hd hc) hl.isList (PySem.W.HoldAll.of_ints hi) (by show X.A.units + 1 + 0 < cLine; omega) (fun en h' tk hk => ?_) (fun y ys i v h' tk en hv hh hk => ?_)
  · exact ⟨.non, H, I.kept hk, rfl, q0 en⟩
  · obtain ⟨as, hr⟩ := hh
    have hm := minOf_spec y ys
    have ev : ∃ t, v = Value.int (PySem.W.minOf y ys) t := by
      cases hr
      exact ⟨_, rfl⟩
    obtain ⟨t, rfl⟩ := ev
    subst en
    exact ⟨.int _, H, I.kept hk, ⟨_, rfl⟩, q1 _ hm.1 hm.2⟩
end
/-! ### where two periodic timers meet: the mathematics -/
def IsMeet (a p o q f e : Nat) : Prop := e = p / Nat.gcd p q * q ∧ max a o ≤ f ∧ f < max a o + e ∧ p ∣ f - a ∧ q ∣ f - o
theorem lcm_form {p q : Nat} (hp : 1 ≤ p) : p / Nat.gcd p q * q = q / Nat.gcd p q * p := by
  have hg : 0 < Nat.gcd p q := Nat.gcd_pos_of_pos_left q hp
  have e1 : p / Nat.gcd p q * Nat.gcd p q = p := Nat.div_mul_cancel (Nat.gcd_dvd_left p q)
  have e2 : q / Nat.gcd p q * Nat.gcd p q = q := Nat.div_mul_cancel (Nat.gcd_dvd_right p q)
  refine Nat.eq_of_mul_eq_mul_right hg ?_
  rw [Nat.mul_right_comm, e1, Nat.mul_right_comm, e2, Nat.mul_comm]
theorem lcm_pos {p q : Nat} (hp : 1 ≤ p) (hq : 1 ≤ q) : 0 < p / Nat.gcd p q * q := by
  have hg : 0 < Nat.gcd p q := Nat.gcd_pos_of_pos_left q hp
  exact Nat.mul_pos (Nat.div_pos (Nat.le_of_dvd (by omega) (Nat.gcd_dvd_left p q)) hg) (by omega)
/-- one step of the division chain -/
theorem chain_step {n m d r : Nat} {x y : Int} (hx : (m : Int) ∣ x * n - d) (hy : (m : Int) ∣ y * n - r) :
    (m : Int) ∣ (x - ((d / r : Nat) : Int) * y) * n - ((d % r : Nat) : Int) := by
  have e1 : ((d % r : Nat) : Int) = (d : Int) - ((d / r : Nat) : Int) * (r : Int) := by
    have z := Nat.div_add_mod d r
    have z2 : ((r * (d / r) + d % r : Nat) : Int) = (d : Int) := congrArg Int.ofNat z
    rw [Int.natCast_add, Int.natCast_mul, Int.mul_comm] at z2
    omega
  have e2 : (x - ((d / r : Nat) : Int) * y) * n - ((d % r : Nat) : Int) = (x * n - d) - ((d / r : Nat) : Int) * (y * n - r) := by
    rw [e1, Int.sub_mul, Int.mul_sub, Int.mul_assoc]
    omega
  rw [e2]
  exact Int.dvd_sub hx (Int.dvd_mul_of_dvd_right hy)
theorem chain_size {m d r a b : Nat} (h : a * r + b * d = m) : b * (d % r) + (a + d / r * b) * r = m := by
  have e := Nat.div_add_mod d r
  have e1 : b * d = b * (r * (d / r)) + b * (d % r) := by rw [← Nat.mul_add, e]
  have e2 : (a + d / r * b) * r = a * r + b * (r * (d / r)) := by
    rw [Nat.add_mul, Nat.mul_comm (d / r) b, Nat.mul_assoc, Nat.mul_comm (d / r) r]
  rw [e2]
  omega
theorem meet_of {a p o q : Nat} {x : Int} (hp : 1 ≤ p) (hq : 1 ≤ q) (hx : (q : Int) ∣ x * p - (Nat.gcd p q : Nat)) (hg : ((o : Int) - a) % ((Nat.gcd p q : Nat) : Int) = 0) :
    ∃ f : Nat, (if (o : Int) > (a : Int) then (o : Int) else (a : Int)) + ((a : Int) + ((o : Int) - a) / ((Nat.gcd p q : Nat) : Int) * x * p - (if (o : Int) > (a : Int) then (o : Int) else (a : Int))) % ((p / Nat.gcd p q * q : Nat) : Int) = (f : Int) ∧ IsMeet a p o q f (p / Nat.gcd p q * q) := by
  have hbegin : (if (o : Int) > (a : Int) then (o : Int) else (a : Int)) = ((max a o : Nat) : Int) := by split <;> omega
  rw [hbegin]
  have he := lcm_pos hp hq
  have hpe : (p : Int) ∣ ((p / Nat.gcd p q * q : Nat) : Int) := by
    rw [lcm_form hp]
    exact Int.natCast_dvd_natCast.mpr (Nat.dvd_mul_left p _)
  have hqe : (q : Int) ∣ ((p / Nat.gcd p q * q : Nat) : Int) := Int.natCast_dvd_natCast.mpr (Nat.dvd_mul_left q _)
  have hgd : ((Nat.gcd p q : Nat) : Int) * (((o : Int) - a) / ((Nat.gcd p q : Nat) : Int)) = (o : Int) - a := by
    have z := Int.emod_add_mul_ediv ((o : Int) - a) ((Nat.gcd p q : Nat) : Int)
    omega
  generalize ((o : Int) - a) / ((Nat.gcd p q : Nat) : Int) = u at hgd ⊢
  generalize hE : p / Nat.gcd p q * q = e at he hpe hqe ⊢
  have r0 : 0 ≤ ((a : Int) + u * x * p - ((max a o : Nat) : Int)) % (e : Int) := Int.emod_nonneg _ (by omega)
  have r1 : ((a : Int) + u * x * p - ((max a o : Nat) : Int)) % (e : Int) < e := Int.emod_lt_of_pos _ (by omega)
  have r2 := Int.emod_add_mul_ediv ((a : Int) + u * x * p - ((max a o : Nat) : Int)) (e : Int)
  generalize ((a : Int) + u * x * p - ((max a o : Nat) : Int)) / (e : Int) = w at r2
  generalize ((a : Int) + u * x * p - ((max a o : Nat) : Int)) % (e : Int) = r at r0 r1 r2 ⊢
  refine ⟨(((max a o : Nat) : Int) + r).toNat, by omega, by rw [hE], by omega, by omega, ?_, ?_⟩
  · have e1 : (((((max a o : Nat) : Int) + r).toNat - a : Nat) : Int) = u * x * p - e * w := by omega
    rw [← Int.natCast_dvd_natCast, e1]
    exact Int.dvd_sub (Int.dvd_mul_left _ _) (Int.dvd_mul_of_dvd_left hpe)
  · have e1 : (((((max a o : Nat) : Int) + r).toNat - o : Nat) : Int) = u * (x * p - (Nat.gcd p q : Nat)) - e * w := by
      rw [Int.mul_sub, ← Int.mul_assoc, Int.mul_comm u ((Nat.gcd p q : Nat) : Int)]
      omega
    rw [← Int.natCast_dvd_natCast, e1]
    exact Int.dvd_sub (Int.dvd_mul_of_dvd_right hx) (Int.dvd_mul_of_dvd_left hqe)
theorem lcm_dvd {p q d : Nat} (hp : 1 ≤ p) (h1 : p ∣ d) (h2 : q ∣ d) : p / Nat.gcd p q * q ∣ d := by
  have hg : 0 < Nat.gcd p q := Nat.gcd_pos_of_pos_left q hp
  have e : p / Nat.gcd p q * q = Nat.lcm p q := by
    unfold Nat.lcm
    rw [Nat.div_mul_right_comm (Nat.gcd_dvd_left p q)]
  rw [e]
  exact Nat.lcm_dvd h1 h2
theorem meet_uniq {a p o q f e f' : Nat} (hp : 1 ≤ p) (h : IsMeet a p o q f e) (h1 : max a o ≤ f') (h2 : f' < max a o + e) (h3 : p ∣ f' - a) (h4 : q ∣ f' - o) : f' = f := by
  obtain ⟨he, b1, b2, b3, b4⟩ := h
  rcases Nat.lt_trichotomy f' f with l | l | l
  · have d1 : p ∣ f - f' := by
      have z := Nat.dvd_sub b3 h3
      rw [show f - a - (f' - a) = f - f' by omega] at z
      exact z
    have d2 : q ∣ f - f' := by
      have z := Nat.dvd_sub b4 h4
      rw [show f - o - (f' - o) = f - f' by omega] at z
      exact z
    have := Nat.le_of_dvd (by omega) (lcm_dvd hp d1 d2)
    omega
  · exact l
  · have d1 : p ∣ f' - f := by
      have z := Nat.dvd_sub h3 b3
      rw [show f' - a - (f - a) = f' - f by omega] at z
      exact z
    have d2 : q ∣ f' - f := by
      have z := Nat.dvd_sub h4 b4
      rw [show f' - o - (f - o) = f' - f by omega] at z
      exact z
    have := Nat.le_of_dvd (by omega) (lcm_dvd hp d1 d2)
    omega
theorem IsMeet.swap {a p o q f e : Nat} (hp : 1 ≤ p) (h : IsMeet a p o q f e) : IsMeet o q a p f e := by
  obtain ⟨he, b1, b2, b3, b4⟩ := h
  refine ⟨?_, by omega, by omega, b4, b3⟩
  rw [he, lcm_form hp, Nat.gcd_comm]
/-- two timers meet only where the phases differ by what their measure divides -/
theorem meet_gcd {a p o q f : Nat} (h1 : a ≤ f) (h2 : o ≤ f) (h3 : p ∣ f - a) (h4 : q ∣ f - o) : ((o : Int) - a) % ((Nat.gcd p q : Nat) : Int) = 0 := by
  have d1 : ((Nat.gcd p q : Nat) : Int) ∣ ((f - a : Nat) : Int) := Int.natCast_dvd_natCast.mpr (Nat.dvd_trans (Nat.gcd_dvd_left p q) h3)
  have d2 : ((Nat.gcd p q : Nat) : Int) ∣ ((f - o : Nat) : Int) := Int.natCast_dvd_natCast.mpr (Nat.dvd_trans (Nat.gcd_dvd_right p q) h4)
  have d3 := Int.dvd_sub d1 d2
  rw [show ((f - a : Nat) : Int) - ((f - o : Nat) : Int) = (o : Int) - a by omega] at d3
  exact Int.emod_eq_zero_of_dvd d3
theorem gcd_swap {a o p q : Nat} : ((o : Int) - a) % ((Nat.gcd p q : Nat) : Int) = 0 ↔ ((a : Int) - o) % ((Nat.gcd q p : Nat) : Int) = 0 := by
  rw [Nat.gcd_comm]
  constructor
  · intro h
    have z := Int.dvd_neg.mpr (Int.dvd_of_emod_eq_zero h)
    rw [show -((o : Int) - a) = (a : Int) - o by omega] at z
    exact Int.emod_eq_zero_of_dvd z
  · intro h
    have z := Int.dvd_neg.mpr (Int.dvd_of_emod_eq_zero h)
    rw [show -((a : Int) - o) = (o : Int) - a by omega] at z
    exact Int.emod_eq_zero_of_dvd z
/-! ### d.setdefault(t, x), t a tuple of whole numbers or texts -/
def rSetT : V → List V → Hp → VK → Prop := fun x xs H Q => ∃ (a : Addr) (kvs : List (List L2.Key × V)) (k : List L2.Key) (b : Addr) (d : V), x = .ref a ∧ xs = [.ref b, d] ∧ H a = some (.dT kvs) ∧ H b = some (.tup (k.map kV)) ∧ kvs.length < sizeLine ∧
  (∀ v, valV kvs k = some v → Q v H) ∧ (valV kvs k = none → Q d (upd H a (.dT (putK kvs k d))))
section
variable {X : Cx}
theorem mt_setT (hu : X.A.units + 1 < cLine) : MtR X "dict.setdefault" rSetT := by
  intro pins s σ H x xs v us Q I rx rxs h
  obtain ⟨a, kvs, k, b, d, rfl, rfl, ha, hb, hl, q1, q2⟩ := h
  cases rx
  obtain ⟨u1, u2, rfl, r1, r2⟩ := vals2 rxs
  cases r1
  obtain ⟨z, hd, xs', rel, dd⟩ := dt_of I.hok ha
  have hz : xs'.length ≤ sizeLine := by rw [← Paired.length rel]; exact z
  have hl2 : (putK kvs k d).length ≤ sizeLine := by have := length_putK kvs k d; omega
  refine PySem.call_setdefault_heap (tupleKind_room_in1 hu) (key_of I.hok hb) hd dd (fun p hp => ?_) (fun hn h' dd' hs => ?_) hz
  · have r := rel.val k
    rw [hp] at r
    cases ev : valV kvs k with
    | none =>
      rw [ev] at r
      exact (show False from r).elim
    | some v0 =>
      rw [ev] at r
      exact ⟨v0, H, I.tok _, r, q1 v0 ev⟩
  · have r := rel.val k
    rw [hn] at r
    have e : valV kvs k = none := by
      cases ev : valV kvs k with
      | none => rfl
      | some v0 =>
        rw [ev] at r
        exact (show False from r).elim
    obtain ⟨q, es, ep, hq, h2, h3, h4, _, h5⟩ := dd'
    exact ⟨d, upd H a (.dT (putK kvs k d)), d_write (ob := .dT (putK kvs k d)) I (by rw [ha]; exact True.intro) hs ⟨q, hq⟩ ⟨hl2, hd, _, (rel.put k hb r2).keeps fun c ys ec => (by rw [upd_ne (ne_of ec ha (fun z => nomatch z))]; exact ec), q, es, ep, hq, h2, h3, h4, h5⟩, r2, q2 e⟩
end
/-! ### sorted of a dict whose keys are pairs of whole numbers -/
def pairAt (H : Hp) : Value → Int × Int
  | .ref b => match H b with
    | some (.tup [.int i, .int j]) => (i, j)
    | _ => (0, 0)
  | _ => (0, 0)
theorem pairAt_of {H : Hp} {b : Addr} {i j : Int} (h : H b = some (.tup [.int i, .int j])) : pairAt H (.ref b) = (i, j) := by
  show (match H b with | some (.tup [.int i, .int j]) => (i, j) | _ => (0, 0)) = (i, j)
  rw [h]
def unRef : Value → Addr
  | .ref b => b
  | _ => 0
section
variable {X : Cx}
theorem call_sortedDT (hc : X.calm = true) : CallR X (.builtin "sorted") (fun xs H Q => ∃ (d : Addr) (kvs : List (List Key × V)) (ps : List (Int × Int)), xs = [V.ref d] ∧ Rd H d (.dT kvs) ∧ kvs.map (·.1) = ps.map (fun p => [Sum.inl p.1, Sum.inl p.2]) ∧
    ∀ (p : Addr) (bs : List Addr), H p = none → (bs.map fun b => pairAt H (.ref b)).Perm ps → (bs.map fun b => pairAt H (.ref b)).Pairwise (fun a b => SrtO.lexB b a = false) → (∀ b ∈ bs, H b = some (.tup [.int (pairAt H (.ref b)).1, .int (pairAt H (.ref b)).2])) → Q (.ref p) (upd H p (.lst (bs.map V.ref)))) := by
  intro pins s σ H xs us Q I r h
  obtain ⟨d, kvs, ps, rfl, hd, hps, q⟩ := h
  obtain ⟨u, rfl, rx⟩ := r.one
  cases rx
  obtain ⟨z, hs, ks, pr, o, es, ep, ho, hx, hdt, he, hn⟩ := (show ObjOk X.prog X.w H s.heap d (.dT kvs) from hd.ok I.hok)
  have l1 : es.size = ks.length := size_of_entries he
  have l2 : kvs.length = ks.length := Paired.length pr
  have ik : IsKeys H kvs (ks.map fun x => x.2.1) := isKeys_of pr
  -- what stands at the keys
  have keys : ∀ (kvs : List (List Key × V)) (ps : List (Int × Int)) (bs : List Addr), kvs.map (·.1) = ps.map (fun p => [Sum.inl p.1, Sum.inl p.2]) → IsKeys H kvs bs → bs.map (fun b => pairAt H (.ref b)) = ps ∧ ∀ b ∈ bs, H b = some (.tup [.int (pairAt H (.ref b)).1, .int (pairAt H (.ref b)).2]) := by
    intro kvs ps bs e1 e2
    induction e2 generalizing ps with
    | nil =>
      cases ps with
      | nil => exact ⟨rfl, fun b h => by cases h⟩
      | cons p ps => cases e1
    | cons h t ih =>
      cases ps with
      | nil => cases e1
      | cons p ps =>
        rw [List.map_cons, List.map_cons] at e1
        obtain ⟨e3, e4⟩ := List.cons.inj e1
        obtain ⟨i1, i2⟩ := ih ps e4
        rw [e3] at h
        have h' : H _ = some (.tup [.int p.1, .int p.2]) := h
        have hp := pairAt_of h'
        refine ⟨?_, fun b hb => ?_⟩
        · rw [List.map_cons, i1, hp]
        · rcases List.mem_cons.mp hb with e | hb
          · rw [e, hp]
            exact h'
          · exact i2 b hb
  obtain ⟨kp1, kp2⟩ := keys kvs ps _ hps ik
  refine Calls.call_function_entry PyProof.Rows.kind_sorted PyProof.Rows.plain_sorted PyProof.Rows.entry_sorted (PyProof.Rows.args_sorted1 _) ?_
  unfold Builtin.«sorted»
  refine wpAny_bind (m := checkCount "sorted" 1 1 _) (wpAny_pure ?_)
  refine wpAny_bind (PySem.W.kdu_collect (A := X.A.in1) (kdl_raw hs hx hdt) (I.ok.hd hc) ho (by omega) fun h' tk acc hk it => ?_)
  have ea : acc.toList = ks.map fun x => Value.ref x.2.1 := by
    have hl : acc.toList.length = ks.length := by rw [Array.length_toList, it.1]; exact l1
    apply List.ext_getElem?
    intro j
    rw [List.getElem?_map]
    cases hj : acc.toList[j]? with
    | none =>
      have h1 := List.getElem?_eq_none_iff.mp hj
      rw [List.getElem?_eq_none (by omega)]
      all_goals rfl
    | some v =>
      obtain ⟨en, hen, hv⟩ := it.2 j v (by rw [← Array.getElem?_toList]; exact hj)
      have qe := entry_at he j
      rw [hen] at qe
      cases hb : ks[j]? with
      | none =>
        rw [hb] at qe
        exact nomatch (show some en = none from qe)
      | some b =>
        rw [hb] at qe
        have e2 : en = entryOfKey (tupleKind (mixKind X.prog X.w)) b := Option.some.inj qe
        rw [hv, e2]
        all_goals rfl
  have I1 : Inv X pins σ H { s with heap := h', toks := tk } := I.kept hk
  have hal : acc.toList.length ≤ sizeLine := by
    rw [ea, List.length_map]
    omega
  refine wpAny_bind (wpAny_newList ?_ hal)
  have hoL : (h'.push (seqObj "list" acc.toList.toArray 0)).get? h'.objs.size = some (seqObj "list" acc.toList.toArray 0) := Heap.get?_push_size _ rfl
  show wpAny _ _ _ _ _ { s with heap := h'.push (seqObj "list" acc.toList.toArray 0), toks := tk }
  have hp : ∀ v ∈ acc.toList, Srt.IsPair (h'.push (seqObj "list" acc.toList.toArray 0)) v (pairAt H v).1 (pairAt H v).2 := fun v hv => by
    rw [ea] at hv
    obtain ⟨x, hxm, rfl⟩ := List.mem_map.mp hv
    have ht := kp2 x.2.1 (List.mem_map.mpr ⟨x, hxm, rfl⟩)
    obtain ⟨_, its2, r2, o2, ho2, hc2, n2, hd2⟩ := I1.hok _ _ ht
    obtain ⟨u1, u2, rfl, ri, rj⟩ := vals2 r2
    obtain ⟨t1, rfl⟩ := ri
    obtain ⟨t2, rfl⟩ := rj
    exact ⟨x.2.1, o2, t1, t2, n2, rfl, Heap.get?_push_of_some _ ho2, hc2, hd2⟩
  refine wpAny_bind (wpAny_holding (wpAny_call_entry PyProof.Rows.slot_list_sort ⟨_, hoL, rfl⟩ PyProof.Rows.entry_list_sort
    (SrtO.list_sort_ord (s := { s with heap := h'.push (seqObj "list" acc.toList.toArray 0), toks := tk }) (SrtO.swo_lex (pairAt H)) hoL hal (fun h2 => SrtO.pairs_sortableO (by omega) hp fun o e => ?_) fun out h1 h2 => ⟨_, rfl, ?_⟩) (PyProof.Rows.args_list_sort _)))
  · have e' : some o = some (seqObj "list" acc.toList.toArray 0) := e.symm.trans hoL
    cases e'
    intro c
    exact absurd (Value.type.inj c) (by decide)
  · obtain ⟨e', he'⟩ := PyProof.Rows.sortedHeap_at (vs := acc.toList) (out := out.toArray) hoL
    obtain ⟨bs, rfl, hbs⟩ : ∃ bs : List Addr, out = bs.map Value.ref ∧ bs.Perm (ks.map fun x => x.2.1) := by
      have hperm := h2.perm
      rw [ea] at hperm
      have e9 : (ks.map fun x => Value.ref x.2.1) = (ks.map fun x => x.2.1).map Value.ref := by rw [List.map_map]; rfl
      rw [e9] at hperm
      refine ⟨out.map unRef, ?_, ?_⟩
      · rw [List.map_map]
        have e11 : out.map (Value.ref ∘ unRef) = out.map id := List.map_congr_left fun v hv => by
          obtain ⟨b, _, rfl⟩ := List.mem_map.mp (hperm.mem_iff.mp hv)
          rfl
        rw [e11, List.map_id]
      · have z := hperm.map unRef
        rw [List.map_map] at z
        have e10 : ∀ l : List Addr, l.map (unRef ∘ Value.ref) = l := fun l => by
          induction l with
          | nil => rfl
          | cons a l ih => rw [List.map_cons, ih]; rfl
        rw [e10] at z
        exact z
    have hlen : (bs.map V.ref).length ≤ sizeLine := by
      rw [List.length_map, hbs.length_eq, List.length_map]
      omega
    have hkeys : (bs.map fun b => pairAt H (.ref b)).Perm ps := by
      have z := hbs.map fun b => pairAt H (.ref b)
      rw [kp1] at z
      exact z
    have hsort : (bs.map fun b => pairAt H (.ref b)).Pairwise (fun a b => SrtO.lexB b a = false) := by
      rw [List.pairwise_map]
      exact List.pairwise_map.mp h1
    refine wpAny_pure ⟨_, rfl, .ref h'.objs.size, upd H h'.objs.size (.lst (bs.map V.ref)), I1.laid (t' := tk) (fun b u e => ?_) (Nat.le_refl _)
      (show ObjOk X.prog X.w _ _ _ (.lst (bs.map V.ref)) from ⟨hlen, bs.map Value.ref, e', vals_refs bs, he'⟩), rfl, q _ bs (I1.hok.fresh (Nat.le_refl _)) hkeys hsort fun b hb => kp2 b (hbs.mem_iff.mp hb)⟩
    have hb : b < h'.objs.size := Heap.lt_size e
    rw [PyProof.Rows.sortedHeap_old (Nat.ne_of_lt hb) (by rw [size_push']; exact Nat.lt_succ_of_lt hb)]
    exact Heap.get?_push_of_some _ e
end
/-! ### exceptions: defs that may raise, any value as an argument -/
section
variable {P : Program} {w : World} {K : PySem.W.Frag} {mg : Str → Option Value} {base : Heap}
/-- as Has, for a def that may raise -/
def HasX (P : Program) (w : World) (K : PySem.W.Frag) (mg : Str → Option Value) (base : Heap) (k : Nat) (x : Str) (ps : List Str) (dvs : List V) (sp : Sp) : Prop :=
  ∃ (f : Addr) (fd : FuncData) (ds : List Value), FnOk P w K mg base (L2.CX P w) k f fd ps sp ∧ mg x = some (.ref f) ∧ PySem.W.keepIn K (.ref f) = true ∧ Binds K fd ps ds ∧ Vals dvs ds
def HasMX (P : Program) (w : World) (K : PySem.W.Frag) (mg : Str → Option Value) (base : Heap) (k : Nat) (C : Addr) (m : Str) (ps : List Str) (dvs : List V) (sp : Sp) : Prop :=
  ∃ (f : Addr) (fd : FuncData) (ds : List Value), FnOk P w K mg base (L2.CX P w) k f fd ps sp ∧ Meth K C m f ∧ Binds K fd ps ds ∧ Vals dvs ds
theorem Df.hasX {k : Nat} {x : Str} {st : Stmt} {ps : List Str} {sp : Sp} (D : Df K mg x st ps) (ok : ∀ f fd, Fun K x x st f fd → FnOk P w K mg base (L2.CX P w) k f fd ps sp) : HasX P w K mg base k x ps [] sp := by
  obtain ⟨f, fd, F, m, b⟩ := D
  exact ⟨f, fd, [], ok f fd F, m, F.kp, b, .nil⟩
theorem Dd.hasX {k : Nat} {x : Str} {st : Stmt} {ps : List Str} {d : V} {sp : Sp} (D : Dd K mg x st ps d) (ok : ∀ f fd, FunD K x x (defArgs st) (defBody st) (defScope st) [d] [] f fd → FnOk P w K mg base (L2.CX P w) k f fd ps sp) :
    HasX P w K mg base k x ps [d] sp ∧ HasX P w K mg base k x ps [] sp := by
  obtain ⟨f, fd, F, m, ⟨ds, r, b⟩, b0⟩ := D
  exact ⟨⟨f, fd, ds, ok f fd F, m, F.kp, b, r⟩, ⟨f, fd, [], ok f fd F, m, F.kp, b0, .nil⟩⟩
/-- what the top leaves of an error's class -/
structure EC (K : PySem.W.Frag) (mg : Str → Option Value) (x : Str) (C : Addr) : Prop where
  g : mg x = some (.ref C)
  x : PySem.W.excIn K C [.type "ValueError", .type "Exception", .type "BaseException", .type "object"] "ValueError.__new__" = true
  k : PySem.W.keepIn K (.ref C) = true
  b : PySem.W.subIn K (.ref C) (.type "BaseException") = some true
  t : PySem.W.typeIn K (.ref C) = some (.type "type")
/-- a class by its name alone -/
structure EG (mg : Str → Option Value) (x : Str) (C : Addr) : Prop where
  g : mg x = some (.ref C)
/-- of which types what is no integer may be -/
inductive NoIntT : Value → Prop where
  | non : NoIntT (.type "NoneType")
  | bool : NoIntT (.type "bool")
  | str : NoIntT (.type "str")
  | flt : NoIntT (.type "float")
  | byt : NoIntT (.type "bytes")
  | list : NoIntT (.type "list")
  | tup : NoIntT (.type "tuple")
  | dict : NoIntT (.type "dict")
  | set : NoIntT (.type "set")
/-- what is no integer: any value but an int, a bool too -/
def NoInt (K : PySem.W.Frag) (H : Hp) (x : V) : Prop := ∃ t, TyX K H x t ∧ NoIntT t
theorem NoIntT.kit {t : Value} (h : NoIntT t) : (∃ i b, PySem.W.kitOne K t (.type "int") = some i ∧ PySem.W.kitOne K t (.type "bool") = some b ∧ (i = true → b = true)) := by
  cases h <;> first
    | exact ⟨false, false, kit_ty (by decide +kernel), kit_ty (by decide +kernel), fun z => by cases z⟩
    | exact ⟨true, true, kit_ty (by decide +kernel), kit_ty (by decide +kernel), fun _ => rfl⟩
section
variable {H : Hp}
theorem NoInt.of_non : NoInt K H .non := ⟨_, .base .non, .non⟩
theorem NoInt.of_bl (b : Bool) : NoInt K H (.bl b) := ⟨_, .base (.bl b), .bool⟩
theorem NoInt.of_str (s : Str) : NoInt K H (.str s) := ⟨_, .base (.str s), .str⟩
theorem NoInt.of_lst {a : Addr} {xs : List V} (e : H a = some (.lst xs)) : NoInt K H (.ref a) := ⟨_, .base (.lst e), .list⟩
theorem NoInt.of_tup {a : Addr} {xs : List V} (e : H a = some (.tup xs)) : NoInt K H (.ref a) := ⟨_, .base (.tup e), .tup⟩
theorem NoInt.of_dK {a : Addr} {kvs : List (Key × V)} (e : H a = some (.dK kvs)) : NoInt K H (.ref a) := ⟨_, .base (.dK e), .dict⟩
end
end
section
variable {X : Cx} {K : PySem.W.Frag}
theorem op_notInK (e : X.K = K) : OpR X (compareOp .NotIn) (rIn K true) := by subst e; exact op_notIn_seq
end
/-- what an error was made of stands at a; isinstance(e, X) of it -/
def rIsEX (K : PySem.W.Frag) (cls : Value) (d : Option Addr) (a : Addr) : List V → Hp → VK → Prop := fun xs H Q => ∃ D, cls = .ref D ∧ d = none ∧ ExcC K D ∧ rIsE K D a xs H Q
theorem isiE {X : Cx} {a : Addr} {cls : Value} {d : Option Addr} {oe : Obj} {pn : List (Addr × Obj)} (hz : Zc cls d oe) (hf : ∃ vs, oe.data = .fields vs) : CallR (X.suite a ((a, oe) :: pn)) (.builtin "isinstance") (rIsEX X.K cls d a) := by
  intro pins s σ H xs us Q I r h
  obtain ⟨D, rfl, rfl, hC, h⟩ := h
  exact call_isE hC hz hf pins s σ H xs us Q I r h
section
variable {X : Cx} {CX : CXT} {k : Nat} {f C : Addr} {fd : FuncData} {ps : List Str} {sp : Sp} {E : L2.St → XK} {m : Str} {pos apos : Pos} {e o : Expr} {es : List Expr} {ta : TE} {t : TA}
/-- o.m(e, ..) that may raise, the wish told at the slots of the moment -/
def tMethS (C : Addr) (m : Str) (sp : Sp) (E : L2.St → XK) (ta : TE) (t : TA) : TE := fun σ H Q => ta σ H fun x H1 => ∃ a dx fs, x = .ref a ∧ H1 a = some (.ins C dx fs) ∧ fs.lookup m = none ∧
  t σ H1 fun vs H2 => sp (x :: vs) H2 Q (E σ)
theorem pe_methS {pl : Sem Bool} (he : PE X o ta) (c : Cls X.K C) (hm : Meth X.K C m f) (F : FnOk X.prog X.w X.K X.mg X.base CX k f fd ps sp) (hr : Room k X.A) (hb : Binds X.K fd ps []) (hx : ∀ σ, PassesAt CX X σ (E σ)) (ha : PA X (e :: es) t)
    (hst : starEach (e :: es) X.env = (false, eval e X.env) :: starEach es X.env := by rfl) (hpl : (backTo pos (starEach es X.env)).any (·.1) = false := by rfl)
    (ht : eval (.Call (.Attribute o m apos) (e :: es) [] pos) X.env = (do
      let ov ← eval o X.env
      standAt apos.atName
      let (f, first) ← holding [ov] (getMethod ov m pl)
      callWith pos f first (backTo pos (starEach (e :: es) X.env)) (backToKw pos (keywordEach [] X.env))) := by rfl) :
    PE X (.Call (.Attribute o m apos) (e :: es) [] pos) (tMethS C m sp E ta t) := by
  refine ⟨fun pins s σ H Q I h => ?_⟩
  refine PySem.W.methodCall_KW (pl := pl) (thn (he.run pins s σ H _ I h) fun u s1 ⟨x, H1, I1, rx, a, dx, fs, ex, ea, l, q⟩ => ?_) ht
  subst ex
  obtain rfl : u = Value.ref a := rx
  refine getmeth_ok I1 ea c hm l ?_
  refine PySem.W.callWith_K (first := [.ref a]) (h₀ := X.base) I.ok.mod.kin hm.kp (thn (ha.run pos pins s1 σ H1 _ I1 q) fun us s2 ⟨vs, H2, I2, r, q2⟩ => ⟨I2.kIn, ?_⟩) hst hpl
  exact run_fnS (us := .ref a :: us) (vs := .ref a :: vs) F hr hb (hx σ) I2 (.cons rfl r) q2
end
/-! ### words of levels, sides -/
def lvV (b : Bool) : V := if b then .str "stack" else .str "queue"
def sdV (b : Bool) : V := if b then .str "front" else .str "back"
theorem lv_ne : ¬ (V.str "queue" = V.str "stack") := by decide
theorem lv_dec (b : Bool) : decide (lvV b = .str "stack") = b := by
  cases b
  · exact decide_eq_false lv_ne
  · exact decide_eq_true rfl
def wordAt (ws : List Bool) (k : Nat) : Bool := ws.getD (min k (ws.length - 1)) false
theorem word_get {ws : List Bool} (h : ws ≠ []) (k : Nat) : (ws.map lvV)[min k (ws.length - 1)]? = some (lvV (wordAt ws k)) := by
  have hl : min k (ws.length - 1) < ws.length := by
    have : 0 < ws.length := List.length_pos_iff.mpr h
    omega
  rw [List.getElem?_map, List.getElem?_eq_getElem hl]
  unfold wordAt
  rw [List.getD_eq_getElem?_getD, List.getElem?_eq_getElem hl]
  rfl
/-- whether an odd number of the rows, at levels from lo on, have the word stack -/
def frontOf (ws : List Bool) (lo : Nat) (rs : List Row3) : Bool := decide (rs.countP (fun r => decide (lo ≤ r.1) && wordAt ws r.1) % 2 = 1)
theorem odd_succ (c : Nat) : decide ((c + 1) % 2 = 1) = !decide (c % 2 = 1) := by
  by_cases h : c % 2 = 1
  · rw [decide_eq_true h, decide_eq_false (by omega)]
    rfl
  · rw [decide_eq_false h, decide_eq_true (by omega)]
    rfl
theorem front_snoc (ws : List Bool) (lo : Nat) (rs : List Row3) (r : Row3) : frontOf ws lo (rs ++ [r]) = if (decide (lo ≤ r.1) && wordAt ws r.1) = true then !frontOf ws lo rs else frontOf ws lo rs := by
  unfold frontOf
  rw [List.countP_append, List.countP_singleton]
  split
  · exact odd_succ _
  · rw [Nat.add_zero]
/-! ### the wheel as plain data -/
structure Tm where
  num : Nat
  due : Nat
  per : Option Nat
  since : Nat
def perV : Option Nat → V
  | none => .non
  | some k => .int (k : Nat)
def tmV (m : Tm) : List V := [.int (m.due : Nat), perV m.per, .int (m.since : Nat)]
open Classical in
noncomputable def sideT (b : Nat) (ws : List Bool) (n d lo : Nat) : Bool := if h : ∃ k, IsLev b n d k then frontOf ws lo (rowsOf b n d (Classical.choose h)) else false
theorem sideT_eq {b : Nat} {ws : List Bool} {n d lo k : Nat} (h : IsLev b n d k) : sideT b ws n d lo = frontOf ws lo (rowsOf b n d k) := by
  have e : ∃ k, IsLev b n d k := ⟨k, h⟩
  unfold sideT
  rw [dif_pos e, (Classical.choose_spec e).uniq h]
def insT (front : Bool) (n : Nat) (l : List Nat) : List Nat := if front then n :: l else l ++ [n]
noncomputable def orderAt (b : Nat) (ws : List Bool) (t : Nat) (ms : List Tm) : List Nat := ms.foldl (fun acc m => if m.due = t then insT (sideT b ws m.since m.due 0) m.num acc else acc) []
theorem order_snoc (b : Nat) (ws : List Bool) (t : Nat) (ms : List Tm) (m : Tm) : orderAt b ws t (ms ++ [m]) = if m.due = t then insT (sideT b ws m.since m.due 0) m.num (orderAt b ws t ms) else orderAt b ws t ms := by
  unfold orderAt
  rw [List.foldl_append]
  rfl
theorem insT_len (f : Bool) (n : Nat) (l : List Nat) : (insT f n l).length = l.length + 1 := by
  unfold insT
  split
  · rfl
  · rw [List.length_append]
    rfl
theorem insT_mem {f : Bool} {n x : Nat} {l : List Nat} : x ∈ insT f n l ↔ x = n ∨ x ∈ l := by
  unfold insT
  split
  · rw [List.mem_cons]
  · rw [List.mem_append, List.mem_singleton]
    exact Or.comm
theorem order_spec (b : Nat) (ws : List Bool) (t : Nat) (ms : List Tm) : ∀ n : Nat, (orderAt b ws t (ms.take n)).length = ((ms.take n).filter fun m => decide (m.due = t)).length ∧ ∀ x, x ∈ orderAt b ws t (ms.take n) ↔ ∃ m ∈ ms.take n, m.due = t ∧ m.num = x := by
  intro n
  induction n with
  | zero =>
    refine ⟨rfl, fun x => ?_⟩
    simp [orderAt]
  | succ n ih =>
    cases e : ms[n]? with
    | none =>
      have hl : ms.length ≤ n := List.getElem?_eq_none_iff.mp e
      rw [List.take_of_length_le (by omega)]
      rw [List.take_of_length_le hl] at ih
      exact ih
    | some m =>
      rw [List.take_add_one, e]
      show (orderAt b ws t (ms.take n ++ [m])).length = _ ∧ ∀ x, x ∈ orderAt b ws t (ms.take n ++ [m]) ↔ ∃ m' ∈ ms.take n ++ [m], _
      rw [order_snoc]
      rw [Option.toList_some, List.filter_append, List.length_append]
      by_cases h : m.due = t
      · rw [if_pos h, insT_len, ih.1]
        refine ⟨by simp [h], fun x => ?_⟩
        rw [insT_mem, ih.2 x]
        constructor
        · rintro (e | ⟨m', h1, h2⟩)
          · exact ⟨m, by simp, h, e.symm⟩
          · exact ⟨m', List.mem_append_left _ h1, h2⟩
        · rintro ⟨m', h1, h2, h3⟩
          rcases List.mem_append.mp h1 with h1 | h1
          · exact .inr ⟨m', h1, h2, h3⟩
          · rw [List.mem_singleton.mp h1] at h3
            exact .inl h3.symm
      · rw [if_neg h, ih.1]
        refine ⟨by simp [h], fun x => ?_⟩
        rw [ih.2 x]
        constructor
        · rintro ⟨m', h1, h2⟩
          exact ⟨m', List.mem_append_left _ h1, h2⟩
        · rintro ⟨m', h1, h2, h3⟩
          rcases List.mem_append.mp h1 with h1 | h1
          · exact ⟨m', h1, h2, h3⟩
          · rw [List.mem_singleton.mp h1] at h2
            exact absurd h2 h
theorem order_len (b : Nat) (ws : List Bool) (t : Nat) (ms : List Tm) : (orderAt b ws t ms).length = (ms.filter fun m => decide (m.due = t)).length := by
  have z := (order_spec b ws t ms ms.length).1
  rw [List.take_length] at z
  exact z
theorem order_mem {b : Nat} {ws : List Bool} {t : Nat} {ms : List Tm} {x : Nat} : x ∈ orderAt b ws t ms ↔ ∃ m ∈ ms, m.due = t ∧ m.num = x := by
  have z := (order_spec b ws t ms ms.length).2 x
  rw [List.take_length] at z
  exact z
def dropT (n : Nat) (ms : List Tm) : List Tm := ms.filter fun m => decide (m.num ≠ n)
/-- a timer fires: it goes, and comes back at the end if it has a period -/
def fireT (t : Nat) (ms : List Tm) (n : Nat) : List Tm := match ms.find? fun m => decide (m.num = n) with
  | none => ms
  | some m => match m.per with
    | none => dropT n ms
    | some k => dropT n ms ++ [⟨n, t + k, some k, t⟩]
def afterF (t : Nat) (ms : List Tm) (ns : List Nat) : List Tm := ns.foldl (fireT t) ms
def leastD (ms : List Tm) : Option Nat := (ms.map (·.due)).min?
theorem least_none {ms : List Tm} : leastD ms = none ↔ ms = [] := by
  unfold leastD
  rw [List.min?_eq_none_iff, List.map_eq_nil_iff]
theorem least_some {ms : List Tm} {v : Nat} : leastD ms = some v ↔ v ∈ ms.map (·.due) ∧ ∀ x ∈ ms.map (·.due), v ≤ x := by
  unfold leastD
  exact List.min?_eq_some_iff
structure WS where
  b : Nat
  ws : List Bool
  tick : Nat
  fol : Nat
  live : List Tm
/-- live timers as they may stand at a tick -/
structure TOk (tick fol : Nat) (m : Tm) : Prop where
  since : m.since ≤ tick
  due : tick < m.due
  big : m.due < 2 ^ 250
  num : m.num < fol
  per : ∀ k, m.per = some k → 1 ≤ k
structure WOk (W : WS) : Prop where
  b2 : 2 ≤ W.b
  b64 : W.b ≤ 64
  ne : W.ws ≠ []
  l60 : W.ws.length ≤ 60
  tms : ∀ m ∈ W.live, TOk W.tick W.fol m
  nd : (W.live.map (·.num)).Nodup
  few : W.live.length ≤ 1000
/-- what an advance to t lets fire, step by step -/
inductive AdvTo (b : Nat) (ws : List Bool) (t : Nat) : List Tm → List (Nat × List Nat) → List Tm → Prop where
  | done {ms : List Tm} (h : ∀ m ∈ ms, t < m.due) : AdvTo b ws t ms [] ms
  | step {ms ms' : List Tm} {at_ : Nat} {rest : List (Nat × List Nat)} (h : leastD ms = some at_) (hle : at_ ≤ t) (ok : ∀ m ∈ ms, m.since < m.due ∧ m.due < 2 ^ 250) (nd : (ms.map (·.num)).Nodup) (few : ms.length ≤ 1000)
    (r : AdvTo b ws t (afterF at_ ms (orderAt b ws at_ ms)) rest ms') : AdvTo b ws t ms ((at_, orderAt b ws at_ ms) :: rest) ms'
open Classical in
/-- the tick at which a timer leaves the list in which it stands at n -/
noncomputable def evT (b n d : Nat) : Nat := if h : ∃ k, IsLev b n d k then d / b ^ Classical.choose h * b ^ Classical.choose h else 0
theorem evT_eq {b n d k : Nat} (h : IsLev b n d k) : evT b n d = d / b ^ k * b ^ k := by
  have e : ∃ k, IsLev b n d k := ⟨k, h⟩
  unfold evT
  rw [dif_pos e, (Classical.choose_spec e).uniq h]
noncomputable def nextE (b n : Nat) (ms : List Tm) : Option Nat := (ms.map fun m => evT b n m.due).min?
def total (fs : List (Nat × List Nat)) : Nat := (fs.map fun f => f.2.length).sum
theorem order_pos {b : Nat} {ws : List Bool} {t : Nat} {ms : List Tm} (h : leastD ms = some t) : 0 < (orderAt b ws t ms).length := by
  obtain ⟨m, hm, e⟩ := List.mem_map.mp (least_some.mp h).1
  have z : m.num ∈ orderAt b ws t ms := order_mem.mpr ⟨m, hm, e, rfl⟩
  exact List.length_pos_of_mem z
theorem insT_nodup {f : Bool} {n : Nat} {l : List Nat} (h : l.Nodup) (hn : n ∉ l) : (insT f n l).Nodup := by
  unfold insT
  split
  · exact List.nodup_cons.mpr ⟨hn, h⟩
  · exact L2.nd_snoc h hn
theorem order_nodup {b : Nat} {ws : List Bool} {t : Nat} {ms : List Tm} (nd : (ms.map (·.num)).Nodup) : (orderAt b ws t ms).Nodup := by
  suffices H : ∀ n : Nat, (orderAt b ws t (ms.take n)).Nodup by
    have z := H ms.length
    rw [List.take_length] at z
    exact z
  intro n
  induction n with
  | zero => exact List.nodup_nil
  | succ n ih =>
    cases e : ms[n]? with
    | none =>
      have hl : ms.length ≤ n := List.getElem?_eq_none_iff.mp e
      rw [List.take_of_length_le (by omega)]
      rw [List.take_of_length_le hl] at ih
      exact ih
    | some m =>
      rw [List.take_add_one, e]
      show (orderAt b ws t (ms.take n ++ [m])).Nodup
      rw [order_snoc]
      split
      · refine insT_nodup ih fun hm => ?_
        obtain ⟨m', h1, _, h3⟩ := order_mem.mp hm
        obtain ⟨i, hi⟩ := List.getElem?_of_mem h1
        rw [List.getElem?_take] at hi
        split at hi
        · rename_i hlt
          have a1 : (ms.map (·.num))[i]? = some m.num := by rw [List.getElem?_map, hi, ← h3]; rfl
          have a2 : (ms.map (·.num))[n]? = some m.num := by rw [List.getElem?_map, e]; rfl
          have z := (List.getElem?_inj (List.getElem?_eq_some_iff.mp a1).1 nd).mp (a1.trans a2.symm)
          omega
        · cases hi
      · exact ih
/-! ### the lists of a wheel -/
abbrev Cell := (Nat × Nat) × List Nat
def keyC (p : Nat × Nat) : List Key := [Sum.inl (p.1 : Int), Sum.inl (p.2 : Int)]
theorem keyC_inj {p q : Nat × Nat} : keyC p = keyC q ↔ p = q := by
  constructor
  · intro h
    unfold keyC at h
    obtain ⟨h1, h2⟩ := List.cons.inj h
    have a := Int.ofNat.inj (Sum.inl.inj h1)
    have b := Int.ofNat.inj (Sum.inl.inj (List.cons.inj h2).1)
    exact Prod.ext a b
  · intro h
    rw [h]
def cellV : List Cell → Nat × Nat → List Nat
  | [], _ => []
  | c :: cs, p => if c.1 = p then c.2 else cellV cs p
def cellPut (rs : List Cell) (p : Nat × Nat) (ns : List Nat) : List Cell := if (rs.any fun c => decide (c.1 = p)) = true then rs.map (fun c => if c.1 = p then (c.1, ns) else c) else rs ++ [(p, ns)]
theorem cellV_map {p q : Nat × Nat} {ns : List Nat} : ∀ rs : List Cell, cellV (rs.map fun c => if c.1 = p then (c.1, ns) else c) q = if p = q ∧ (rs.any fun c => decide (c.1 = p)) = true then ns else cellV rs q
  | [] => by simp [cellV]
  | c :: cs => by
    have ih := cellV_map (p := p) (q := q) (ns := ns) cs
    rw [List.map_cons]
    by_cases h : c.1 = p
    · rw [if_pos h]
      by_cases h2 : p = q
      · have e : c.1 = q := h.trans h2
        rw [if_pos ⟨h2, by rw [List.any_cons, decide_eq_true h]; rfl⟩]
        show (if c.1 = q then ns else _) = ns
        rw [if_pos e]
      · have e : ¬ c.1 = q := fun z => h2 (h.symm.trans z)
        rw [if_neg (fun z => h2 z.1)]
        rw [if_neg (fun z => h2 z.1)] at ih
        show (if c.1 = q then ns else _) = if c.1 = q then c.2 else cellV cs q
        rw [if_neg e, if_neg e]
        exact ih
    · rw [if_neg h, List.any_cons, decide_eq_false h, Bool.false_or]
      show (if c.1 = q then c.2 else _) = _
      by_cases h2 : c.1 = q
      · have e : ¬ p = q := fun z => h (h2.trans z.symm)
        rw [if_pos h2, if_neg (fun z => e z.1)]
        show c.2 = if c.1 = q then c.2 else cellV cs q
        rw [if_pos h2]
      · rw [if_neg h2, ih]
        show _ = if _ then ns else (if c.1 = q then c.2 else cellV cs q)
        rw [if_neg h2]
theorem cellV_snoc {p q : Nat × Nat} {ns : List Nat} : ∀ rs : List Cell, (rs.any fun c => decide (c.1 = p)) = false → cellV (rs ++ [(p, ns)]) q = if p = q then ns else cellV rs q
  | [], _ => rfl
  | c :: cs, h => by
    rw [List.any_cons, Bool.or_eq_false_iff] at h
    have ih := cellV_snoc (q := q) (ns := ns) cs h.2
    have hc : ¬ c.1 = p := of_decide_eq_false h.1
    show (if c.1 = q then c.2 else cellV (cs ++ [(p, ns)]) q) = if p = q then ns else (if c.1 = q then c.2 else cellV cs q)
    rw [ih]
    by_cases h2 : p = q
    · rw [if_pos h2, if_pos h2, if_neg fun z => hc (z.trans h2.symm)]
    · rw [if_neg h2, if_neg h2]
theorem cellV_put {rs : List Cell} {p q : Nat × Nat} {ns : List Nat} : cellV (cellPut rs p ns) q = if p = q then ns else cellV rs q := by
  unfold cellPut
  by_cases h : (rs.any fun c => decide (c.1 = p)) = true
  · rw [if_pos h, cellV_map]
    by_cases h2 : p = q
    · rw [if_pos ⟨h2, h⟩, if_pos h2]
    · rw [if_neg (fun z => h2 z.1), if_neg h2]
  · rw [if_neg h]
    exact cellV_snoc rs (Bool.eq_false_iff.mpr h)
theorem cellPut_len (rs : List Cell) (p : Nat × Nat) (ns : List Nat) : (cellPut rs p ns).length ≤ rs.length + 1 := by
  unfold cellPut
  split
  · rw [List.length_map]
    omega
  · rw [List.length_append]
    exact Nat.le_refl _
theorem cellPut_keys {rs : List Cell} {p : Nat × Nat} {ns : List Nat} (nd : (rs.map (·.1)).Nodup) : ((cellPut rs p ns).map (·.1)).Nodup := by
  unfold cellPut
  by_cases h : (rs.any fun c => decide (c.1 = p)) = true
  · rw [if_pos h, List.map_map]
    have e : rs.map ((fun c : Cell => c.1) ∘ fun c => if c.1 = p then (c.1, ns) else c) = rs.map (·.1) := List.map_congr_left fun c _ => by
      show (if c.1 = p then (c.1, ns) else c).1 = c.1
      split <;> rfl
    rw [e]
    exact nd
  · rw [if_neg h, List.map_append]
    refine L2.nd_snoc nd fun hm => h ?_
    obtain ⟨c, hc, e⟩ := List.mem_map.mp hm
    exact List.any_eq_true.mpr ⟨c, hc, decide_eq_true e⟩
open Classical in
noncomputable def levT (b n d : Nat) : Nat := if h : ∃ k, IsLev b n d k then Classical.choose h else 0
theorem levT_eq {b n d k : Nat} (h : IsLev b n d k) : levT b n d = k := by
  have e : ∃ k, IsLev b n d k := ⟨k, h⟩
  unfold levT
  rw [dif_pos e]
  exact (Classical.choose_spec e).uniq h
noncomputable def placeT (b t d : Nat) : Nat × Nat := (levT b t d, d / b ^ levT b t d % b)
noncomputable def standStep (b : Nat) (ws : List Bool) (t : Nat) (rs : List Cell) (m : Tm) : List Cell :=
  if t < m.due then cellPut rs (placeT b t m.due) (insT (sideT b ws m.since m.due (levT b t m.due)) m.num (cellV rs (placeT b t m.due))) else rs
noncomputable def standD (b : Nat) (ws : List Bool) (t : Nat) (ms : List Tm) : List Cell := ms.foldl (standStep b ws t) []
theorem stand_snoc (b : Nat) (ws : List Bool) (t : Nat) (ms : List Tm) (m : Tm) : standD b ws t (ms ++ [m]) = standStep b ws t (standD b ws t ms) m := by
  unfold standD
  rw [List.foldl_append]
  rfl
theorem stand_bounds (b : Nat) (ws : List Bool) (t : Nat) (ms : List Tm) : ∀ n : Nat, n ≤ ms.length → (standD b ws t (ms.take n)).length ≤ n ∧ (∀ p, (cellV (standD b ws t (ms.take n)) p).length ≤ n) ∧ ((standD b ws t (ms.take n)).map (·.1)).Nodup := by
  intro n
  induction n with
  | zero => exact fun _ => ⟨Nat.le_refl _, fun p => Nat.le_refl _, List.nodup_nil⟩
  | succ n ih =>
    intro hn
    obtain ⟨h1, h2, h3⟩ := ih (by omega)
    have e : ms[n]? = some ms[n] := List.getElem?_eq_getElem (by omega)
    rw [List.take_add_one, e]
    show (standD b ws t (ms.take n ++ [ms[n]])).length ≤ _ ∧ (∀ p, (cellV (standD b ws t (ms.take n ++ [ms[n]])) p).length ≤ _) ∧ ((standD b ws t (ms.take n ++ [ms[n]])).map _).Nodup
    rw [stand_snoc]
    unfold standStep
    split
    · refine ⟨Nat.le_trans (cellPut_len _ _ _) (by omega), fun p => ?_, cellPut_keys h3⟩
      rw [cellV_put]
      split
      · rw [insT_len]
        have z := h2 (placeT b t (ms[n]).due)
        omega
      · have z := h2 p
        omega
    · exact ⟨by omega, fun p => by have z := h2 p; omega, h3⟩
/-- the cells of a dict on the heap -/
def CellsAt (H : Hp) : List (List Key × V) → List Cell → Prop
  | [], [] => True
  | kv :: kvs, c :: cs => kv.1 = keyC c.1 ∧ (∃ a, kv.2 = .ref a ∧ H a = some (.lst (c.2.map fun x => V.int (x : Nat)))) ∧ CellsAt H kvs cs
  | _, _ => False
theorem CellsAt.frame {H H' : Hp} (s : ∀ a xs, H a = some (.lst xs) → H' a = some (.lst xs)) : ∀ {kvs : List (List Key × V)} {rs : List Cell}, CellsAt H kvs rs → CellsAt H' kvs rs
  | [], [], _ => trivial
  | _ :: _, _ :: _, ⟨h1, ⟨a, h2, h3⟩, h4⟩ => ⟨h1, ⟨a, h2, s _ _ h3⟩, h4.frame s⟩
  | [], _ :: _, h => h.elim
  | _ :: _, [], h => h.elim
theorem CellsAt.len {H : Hp} : ∀ {kvs : List (List Key × V)} {rs : List Cell}, CellsAt H kvs rs → kvs.length = rs.length
  | [], [], _ => rfl
  | _ :: _, _ :: _, h => congrArg Nat.succ h.2.2.len
  | [], _ :: _, h => h.elim
  | _ :: _, [], h => h.elim
theorem CellsAt.keys {H : Hp} : ∀ {kvs : List (List Key × V)} {rs : List Cell}, CellsAt H kvs rs → kvs.map (·.1) = (rs.map fun c => ((c.1.1 : Int), (c.1.2 : Int))).map fun p => [Sum.inl p.1, Sum.inl p.2]
  | [], [], _ => rfl
  | kv :: kvs, c :: cs, h => by
    rw [List.map_cons, List.map_cons, List.map_cons, h.1, h.2.2.keys]
    rfl
  | [], _ :: _, h => h.elim
  | _ :: _, [], h => h.elim
theorem CellsAt.val {H : Hp} {p : Nat × Nat} : ∀ {kvs : List (List Key × V)} {rs : List Cell}, CellsAt H kvs rs → (valV kvs (keyC p) = none ∧ cellV rs p = []) ∨ ∃ a, valV kvs (keyC p) = some (.ref a) ∧ H a = some (.lst ((cellV rs p).map fun x => V.int (x : Nat)))
  | [], [], _ => .inl ⟨rfl, rfl⟩
  | kv :: kvs, c :: cs, h => by
    obtain ⟨h1, ⟨a, h2, h3⟩, h4⟩ := h
    by_cases e : c.1 = p
    · refine .inr ⟨a, ?_, ?_⟩
      · rw [valV_pos (h1.trans (keyC_inj.mpr e)), h2]
      · show H a = some (.lst ((if c.1 = p then c.2 else cellV cs p).map _))
        rw [if_pos e]
        exact h3
    · have e1 : ¬ kv.1 = keyC p := fun z => e (keyC_inj.mp (h1.symm.trans z))
      rw [valV_neg e1]
      show _ ∧ (if c.1 = p then c.2 else cellV cs p) = [] ∨ ∃ a, _ ∧ H a = some (.lst ((if c.1 = p then c.2 else cellV cs p).map _))
      rw [if_neg e]
      exact h4.val
  | [], _ :: _, h => h.elim
  | _ :: _, [], h => h.elim
theorem CellsAt.val_mem {H : Hp} {p : Nat × Nat} : ∀ {kvs : List (List Key × V)} {rs : List Cell}, CellsAt H kvs rs → p ∈ rs.map (·.1) → ∃ a, valV kvs (keyC p) = some (.ref a) ∧ H a = some (.lst ((cellV rs p).map fun x => V.int (x : Nat)))
  | [], [], _, h => by cases h
  | kv :: kvs, c :: cs, h, hm => by
    obtain ⟨h1, ⟨a, h2, h3⟩, h4⟩ := h
    by_cases e : c.1 = p
    · refine ⟨a, ?_, ?_⟩
      · rw [valV_pos (h1.trans (keyC_inj.mpr e)), h2]
      · show H a = some (.lst ((if c.1 = p then c.2 else cellV cs p).map _))
        rw [if_pos e]
        exact h3
    · have e1 : ¬ kv.1 = keyC p := fun z => e (keyC_inj.mp (h1.symm.trans z))
      rw [valV_neg e1]
      show ∃ a, _ ∧ H a = some (.lst ((if c.1 = p then c.2 else cellV cs p).map _))
      rw [if_neg e]
      refine h4.val_mem ?_
      rw [List.map_cons] at hm
      rcases List.mem_cons.mp hm with z | z
      · exact absurd z.symm e
      · exact z
  | [], _ :: _, h, _ => h.elim
  | _ :: _, [], h, _ => h.elim
theorem CellsAt.any {H : Hp} {p : Nat × Nat} : ∀ {kvs : List (List Key × V)} {rs : List Cell}, CellsAt H kvs rs → (kvs.any fun kv => decide (kv.1 = keyC p)) = rs.any fun c => decide (c.1 = p)
  | [], [], _ => rfl
  | kv :: kvs, c :: cs, h => by
    rw [List.any_cons, List.any_cons, h.2.2.any]
    have e : (decide (kv.1 = keyC p)) = decide (c.1 = p) := decide_eq_decide.mpr (by rw [h.1]; exact keyC_inj)
    rw [e]
  | [], _ :: _, h => h.elim
  | _ :: _, [], h => h.elim
theorem CellsAt.mapd {H : Hp} {p : Nat × Nat} {a : Addr} {ns : List Nat} (ha : H a = some (.lst (ns.map fun x => V.int (x : Nat)))) : ∀ {kvs : List (List Key × V)} {rs : List Cell}, CellsAt H kvs rs → CellsAt H (kvs.map fun kv => if kv.1 = keyC p then (kv.1, .ref a) else kv) (rs.map fun c => if c.1 = p then (c.1, ns) else c)
  | [], [], _ => trivial
  | kv :: kvs, c :: cs, h => by
    obtain ⟨h1, h2, h4⟩ := h
    rw [List.map_cons, List.map_cons]
    by_cases e : c.1 = p
    · rw [if_pos e, if_pos (h1.trans (keyC_inj.mpr e))]
      exact ⟨h1, ⟨a, rfl, ha⟩, h4.mapd ha⟩
    · rw [if_neg e, if_neg fun z => e (keyC_inj.mp (h1.symm.trans z))]
      exact ⟨h1, h2, h4.mapd ha⟩
  | [], _ :: _, h => h.elim
  | _ :: _, [], h => h.elim
theorem CellsAt.snoc {H : Hp} {p : Nat × Nat} {a : Addr} {ns : List Nat} (ha : H a = some (.lst (ns.map fun x => V.int (x : Nat)))) : ∀ {kvs : List (List Key × V)} {rs : List Cell}, CellsAt H kvs rs → CellsAt H (kvs ++ [(keyC p, .ref a)]) (rs ++ [(p, ns)])
  | [], [], _ => ⟨rfl, ⟨a, rfl, ha⟩, trivial⟩
  | _ :: _, _ :: _, h => ⟨h.1, h.2.1, h.2.2.snoc ha⟩
  | [], _ :: _, h => h.elim
  | _ :: _, [], h => h.elim
theorem CellsAt.put {H : Hp} {p : Nat × Nat} {a : Addr} {ns : List Nat} (ha : H a = some (.lst (ns.map fun x => V.int (x : Nat)))) {kvs : List (List Key × V)} {rs : List Cell} (h : CellsAt H kvs rs) : CellsAt H (putK kvs (keyC p) (.ref a)) (cellPut rs p ns) := by
  unfold putK cellPut
  rw [h.any]
  split
  · exact h.mapd ha
  · exact h.snoc ha
/-! ### levels and events of timers -/
theorem least_nat {p : Nat → Prop} : ∀ n : Nat, p n → ∃ k, p k ∧ ∀ j, j < k → ¬ p j
  | 0, h => ⟨0, h, fun j hj => absurd hj (Nat.not_lt_zero j)⟩
  | n + 1, h => by
    by_cases c : ∃ m, m ≤ n ∧ p m
    · obtain ⟨m, hm, hp⟩ := c
      exact Classical.byContradiction fun no => by
        have all : ∀ k, ∀ j, j < k → ¬ p j := fun k => by
          induction k with
          | zero => exact fun j hj => absurd hj (Nat.not_lt_zero j)
          | succ k ih =>
            intro j hj
            by_cases e : j = k
            · intro hp'
              exact no ⟨k, by rw [← e]; exact hp', ih⟩
            · exact ih j (by omega)
        exact all (m + 1) m (Nat.lt_succ_self m) hp
    · exact ⟨n + 1, h, fun j hj hp => c ⟨j, Nat.le_of_lt_succ hj, hp⟩⟩
theorem lev_exists {b n d : Nat} (hb : 2 ≤ b) (h : n < d) : ∃ k, IsLev b n d k := by
  have big : d < b ^ (d + 1) := Nat.lt_of_lt_of_le (Nat.lt_of_lt_of_le Nat.lt_two_pow_self (Nat.pow_le_pow_right (by decide) (Nat.le_succ d))) (pow_two_le hb (d + 1))
  obtain ⟨k, h1, h2⟩ := least_nat (p := fun k => n / b ^ (k + 1) = d / b ^ (k + 1)) d (by
    show n / b ^ (d + 1) = d / b ^ (d + 1)
    rw [Nat.div_eq_of_lt big, Nat.div_eq_of_lt (Nat.lt_trans h big)])
  exact ⟨k, h1, h2⟩
theorem levT_is {b n d : Nat} (hb : 2 ≤ b) (h : n < d) : IsLev b n d (levT b n d) := by
  obtain ⟨k, hk⟩ := lev_exists hb h
  rw [levT_eq hk]
  exact hk
theorem evT_is {b n d : Nat} (hb : 2 ≤ b) (h : n < d) : evT b n d = d / b ^ levT b n d * b ^ levT b n d := evT_eq (levT_is hb h)
theorem evT_le {b n d : Nat} (hb : 2 ≤ b) (h : n < d) : evT b n d ≤ d := by
  rw [evT_is hb h]
  exact cut_le b d _
theorem evT_gt {b n d : Nat} (hb : 2 ≤ b) (h : n < d) : n < evT b n d := by
  rw [evT_is hb h]
  have hk := levT_is hb h
  generalize levT b n d = k at hk ⊢
  exact (Nat.div_lt_iff_lt_mul (pow_pos' hb k)).mp (hk.ne h)
/-- ahead of its event a timer stands where it stood -/
theorem lev_stays {b n d t : Nat} (hb : 2 ≤ b) (h : n < d) (h1 : n ≤ t) (h2 : t < evT b n d) : t < d ∧ levT b t d = levT b n d := by
  refine ⟨Nat.lt_of_lt_of_le h2 (evT_le hb h), ?_⟩
  rw [evT_is hb h] at h2
  exact levT_eq ((levT_is hb h).later hb h h1 h2)
/-- at its event it stands at a lower level -/
theorem lev_drops {b n d : Nat} (hb : 2 ≤ b) (h : n < d) (h2 : evT b n d < d) : levT b (evT b n d) d < levT b n d := by
  have hk := levT_is hb h
  have hk' := levT_is hb h2
  have e := evT_is hb h
  generalize levT b n d = k at hk e ⊢
  generalize levT b (evT b n d) d = k' at hk' ⊢
  have same : evT b n d / b ^ k = d / b ^ k := by
    rw [e, Nat.mul_div_cancel _ (pow_pos' hb k)]
  refine Classical.byContradiction fun no => ?_
  by_cases c : k' = k
  · subst c
    have z := hk'.ne h2
    omega
  · cases k with
    | zero =>
      rw [Nat.pow_zero, Nat.div_one, Nat.div_one] at same
      omega
    | succ j => exact hk'.2 j (by omega) same
/-! ### the law's own wheel: lists built at two ends -/
def insM (w : Bool) (m : Tm) (l : List Tm) : List Tm := if w then m :: l else l ++ [m]
def deq (f : Tm → Bool) (l : List Tm) : List Tm := (l.filter f).reverse ++ l.filter fun m => !f m
theorem deq_snoc (f : Tm → Bool) (l : List Tm) (m : Tm) : deq f (l ++ [m]) = insM (f m) m (deq f l) := by
  unfold deq insM
  rw [List.filter_append, List.filter_append]
  cases h : f m with
  | true => simp [h]
  | false => simp [h]
theorem deq_filter (f p : Tm → Bool) (l : List Tm) : (deq f l).filter p = deq f (l.filter p) := by
  unfold deq
  rw [List.filter_append, List.filter_reverse, List.filter_filter, List.filter_filter, List.filter_filter, List.filter_filter]
  have e : ∀ q : Tm → Bool, (fun m => p m && q m) = fun m => q m && p m := fun q => funext fun m => Bool.and_comm _ _
  rw [e, e]
theorem deq_false (l : List Tm) : deq (fun _ => false) l = l := by
  show (l.filter fun _ => false).reverse ++ l.filter (fun _ => true) = l
  rw [List.filter_eq_nil_iff.mpr (fun _ _ => Bool.false_ne_true), List.filter_eq_self.mpr (fun _ _ => rfl)]
  rfl
theorem deq_true (l : List Tm) : deq (fun _ => true) l = l.reverse := by
  show (l.filter fun _ => true).reverse ++ l.filter (fun _ => false) = _
  rw [List.filter_eq_nil_iff.mpr (fun _ _ => Bool.false_ne_true), List.filter_eq_self.mpr (fun _ _ => rfl), List.append_nil]
theorem deq_congr {f g : Tm → Bool} {l : List Tm} (h : ∀ m ∈ l, f m = g m) : deq f l = deq g l := by
  unfold deq
  rw [List.filter_congr h, List.filter_congr (p := fun m => !f m) (q := fun m => !g m) fun m hm => by rw [h m hm]]
theorem deq_deq (w : Bool) (f : Tm → Bool) (l : List Tm) : deq (fun _ => w) (deq f l) = deq (fun m => Bool.xor (f m) w) l := by
  cases w with
  | false =>
    rw [deq_false]
    exact deq_congr fun m _ => (Bool.xor_false _).symm
  | true =>
    rw [deq_true]
    unfold deq
    rw [List.reverse_append, List.reverse_reverse]
    have e1 : l.filter (fun m => Bool.xor (f m) true) = l.filter fun m => !f m := List.filter_congr fun m _ => Bool.xor_true _
    have e2 : l.filter (fun m => !Bool.xor (f m) true) = l.filter f := List.filter_congr fun m _ => by rw [Bool.xor_true, Bool.not_not]
    rw [e1, e2]
theorem mem_deq {f : Tm → Bool} {l : List Tm} {m : Tm} : m ∈ deq f l ↔ m ∈ l := by
  unfold deq
  rw [List.mem_append, List.mem_reverse, List.mem_filter, List.mem_filter]
  cases h : f m <;> simp
theorem deq_perm (f : Tm → Bool) (l : List Tm) : (deq f l).Perm l := by
  unfold deq
  exact ((List.reverse_perm _).append_right _).trans (List.filter_append_perm f l)
theorem deq_len (f : Tm → Bool) (l : List Tm) : (deq f l).length = l.length := (deq_perm f l).length_eq
theorem ins_len (w : Bool) (m : Tm) (l : List Tm) : (insM w m l).length = l.length + 1 := by
  unfold insM
  split
  · rfl
  · rw [List.length_append]
    rfl
theorem ins_fold (w : Bool) (l : List Tm) : l.foldl (fun a m => insM w m a) [] = deq (fun _ => w) l := by
  suffices H : ∀ (r : List Tm), l.foldl (fun a m => insM w m a) (deq (fun _ => w) r) = deq (fun _ => w) (r ++ l) by
    have z := H []
    rw [List.nil_append] at z
    exact z
  induction l with
  | nil =>
    intro r
    rw [List.append_nil]
    rfl
  | cons m l ih =>
    intro r
    rw [List.foldl_cons, ← deq_snoc (fun _ => w), ih, List.append_assoc]
    rfl
theorem ins_deq (f : Tm → Bool) (w : Bool) (l : List Tm) (h : ∀ m ∈ l, f m = w) : ∀ r : List Tm, l.foldl (fun a m => insM w m a) (deq f r) = deq f (r ++ l) := by
  induction l with
  | nil =>
    intro r
    rw [List.append_nil]
    rfl
  | cons m l ih =>
    intro r
    rw [List.foldl_cons, ← h m (List.mem_cons_self ..), ← deq_snoc, h m (List.mem_cons_self ..), ih fun x hx => h x (List.mem_cons_of_mem _ hx)]
    rw [List.append_assoc]
    rfl
/-! ### sides, digit by digit -/
def cntS (ws : List Bool) (b d lo k : Nat) : Nat := (tailOf b d k).countP fun r => decide (lo ≤ r.1) && wordAt ws r.1
theorem cntS_succ (ws : List Bool) (b d lo k : Nat) : cntS ws b d lo (k + 1) = cntS ws b d lo k + if d / b ^ k % b ≠ 0 ∧ lo ≤ k ∧ wordAt ws k = true then 1 else 0 := by
  unfold cntS
  show (if d / b ^ k % b ≠ 0 then (k, d / b ^ k % b, d / b ^ (k + 1) * b ^ (k + 1)) :: tailOf b d k else tailOf b d k).countP _ = _
  by_cases h : d / b ^ k % b ≠ 0
  · rw [if_pos h, List.countP_cons]
    congr 1
    by_cases h1 : lo ≤ k
    · cases h2 : wordAt ws k with
      | true => rw [if_pos (by simp [h1, h2]), if_pos ⟨h, h1, rfl⟩]
      | false => rw [if_neg (by simp [h2]), if_neg (fun z => by cases z.2.2)]
    · rw [if_neg (by simp [h1]), if_neg (fun z => h1 z.2.1)]
  · rw [if_neg h, if_neg fun z => h z.1, Nat.add_zero]
theorem cntS_high {ws : List Bool} {b d lo : Nat} : ∀ k, k ≤ lo → cntS ws b d lo k = 0
  | 0, _ => rfl
  | k + 1, h => by
    rw [cntS_succ, cntS_high k (by omega), if_neg (fun z => by omega)]
theorem cntS_skip {ws : List Bool} {b d lo lo' : Nat} (h : lo ≤ lo') (h0 : ∀ i, lo ≤ i → i < lo' → d / b ^ i % b = 0) : ∀ k, cntS ws b d lo k = cntS ws b d lo' k
  | 0 => rfl
  | k + 1 => by
    rw [cntS_succ, cntS_succ, cntS_skip h h0 k]
    congr 1
    by_cases c : lo' ≤ k
    · by_cases e : d / b ^ k % b ≠ 0 ∧ wordAt ws k = true
      · rw [if_pos ⟨e.1, by omega, e.2⟩, if_pos ⟨e.1, c, e.2⟩]
      · rw [if_neg fun z => e ⟨z.1, z.2.2⟩, if_neg fun z => e ⟨z.1, z.2.2⟩]
    · rw [if_neg (c := d / b ^ k % b ≠ 0 ∧ lo' ≤ k ∧ wordAt ws k = true) fun z => c z.2.1]
      refine if_neg fun z => z.1 (h0 k z.2.1 (by omega))
theorem cntS_one {ws : List Bool} {b d lo : Nat} (h : d / b ^ lo % b ≠ 0) : ∀ k, lo < k → cntS ws b d lo k = cntS ws b d (lo + 1) k + if wordAt ws lo = true then 1 else 0
  | 0, hk => absurd hk (Nat.not_lt_zero _)
  | k + 1, hk => by
    rw [cntS_succ, cntS_succ]
    by_cases e : k = lo
    · subst e
      rw [cntS_high k (Nat.le_refl _), cntS_high k (Nat.le_succ _), if_neg (c := d / b ^ k % b ≠ 0 ∧ k + 1 ≤ k ∧ wordAt ws k = true) fun z => by omega]
      by_cases c : wordAt ws k = true
      · rw [if_pos ⟨h, Nat.le_refl _, c⟩, if_pos c]
      · rw [if_neg fun z => c z.2.2, if_neg c]
    · rw [cntS_one h k (by omega)]
      have e2 : (if d / b ^ k % b ≠ 0 ∧ lo ≤ k ∧ wordAt ws k = true then 1 else 0) = if d / b ^ k % b ≠ 0 ∧ lo + 1 ≤ k ∧ wordAt ws k = true then 1 else 0 := by
        by_cases c : d / b ^ k % b ≠ 0 ∧ wordAt ws k = true
        · rw [if_pos ⟨c.1, by omega, c.2⟩, if_pos ⟨c.1, by omega, c.2⟩]
        · rw [if_neg fun z => c ⟨z.1, z.2.2⟩, if_neg fun z => c ⟨z.1, z.2.2⟩]
      rw [e2]
      omega
theorem front_cntS (ws : List Bool) (b n d lo k : Nat) (h : lo ≤ k) : frontOf ws lo (rowsOf b n d k) = decide ((cntS ws b d lo k + if wordAt ws k = true then 1 else 0) % 2 = 1) := by
  unfold frontOf rowsOf cntS
  rw [List.countP_cons]
  cases h2 : wordAt ws k with
  | true => rw [if_pos (by simp [h, h2])]; rfl
  | false => rw [if_neg (by simp [h2])]; rfl
theorem side_cnt {b : Nat} {ws : List Bool} {n d lo : Nat} (hb : 2 ≤ b) (h : n < d) (hl : lo ≤ levT b n d) : sideT b ws n d lo = decide ((cntS ws b d lo (levT b n d) + if wordAt ws (levT b n d) = true then 1 else 0) % 2 = 1) := by
  rw [sideT_eq (levT_is hb h)]
  exact front_cntS ws b n d lo _ hl
theorem odd_add (c : Nat) (w : Bool) : decide ((c + if w = true then 1 else 0) % 2 = 1) = Bool.xor (decide (c % 2 = 1)) w := by
  cases w with
  | false =>
    rw [if_neg (by decide), Bool.xor_false]
    rfl
  | true =>
    rw [if_pos rfl, Bool.xor_true]
    exact odd_succ c
theorem side_new {b : Nat} {ws : List Bool} {n d : Nat} (hb : 2 ≤ b) (h : n < d) : sideT b ws n d (levT b n d) = wordAt ws (levT b n d) := by
  rw [side_cnt hb h (Nat.le_refl _), cntS_high _ (Nat.le_refl _), odd_add]
  cases wordAt ws (levT b n d) <;> rfl
theorem lev_mono {b s n d : Nat} (hb : 2 ≤ b) (h : n < d) (hs : s ≤ n) : levT b n d ≤ levT b s d := by
  have k1 := levT_is hb h
  have k2 := levT_is hb (Nat.lt_of_le_of_lt hs h)
  generalize levT b n d = k at k1 ⊢
  generalize levT b s d = k0 at k2 ⊢
  refine Nat.le_of_not_lt fun c => k1.2 k0 c ?_
  have a1 : s / b ^ (k0 + 1) ≤ n / b ^ (k0 + 1) := Nat.div_le_div_right hs
  have a2 : n / b ^ (k0 + 1) ≤ d / b ^ (k0 + 1) := Nat.div_le_div_right (Nat.le_of_lt h)
  have a3 := k2.1
  omega
/-- the digits of a multiple -/
theorem dig_mul {b q h i : Nat} (hb : 2 ≤ b) (hi : i < h) : q * b ^ h / b ^ i % b = 0 := by
  have e : b ^ h = b ^ (h - i - 1) * b * b ^ i := by
    rw [← Nat.pow_succ, ← Nat.pow_add]
    congr 1
    omega
  rw [e, ← Nat.mul_assoc, Nat.mul_div_cancel _ (pow_pos' hb i), ← Nat.mul_assoc, Nat.mul_mod_left]
/-- where a timer goes on, its side turns with the word there -/
theorem side_drop {b : Nat} {ws : List Bool} {s n d : Nat} (hb : 2 ≤ b) (h : n < d) (hs : s ≤ n) (he : evT b n d < d) :
    sideT b ws s d (levT b (evT b n d) d) = Bool.xor (sideT b ws s d (levT b n d)) (wordAt ws (levT b (evT b n d) d)) := by
  have hm := lev_mono hb h hs
  have hd := lev_drops hb h he
  have hk := levT_is hb h
  have hj := levT_is hb he
  have ee := evT_is hb h
  have hsd := Nat.lt_of_le_of_lt hs h
  have hdj : d / b ^ levT b (evT b n d) d % b ≠ 0 := by
    have := hj.digit he
    omega
  rw [side_cnt hb hsd (by omega), side_cnt hb hsd hm, cntS_one hdj _ (by omega)]
  have e2 : cntS ws b d (levT b (evT b n d) d + 1) (levT b s d) = cntS ws b d (levT b n d) (levT b s d) := by
    refine cntS_skip (by omega) (fun i h1 h2 => ?_) _
    have a1 : evT b n d / b ^ (levT b (evT b n d) d + 1) = d / b ^ (levT b (evT b n d) d + 1) := hj.1
    have a2 : evT b n d / b ^ i = d / b ^ i := by
      have e3 : i = (levT b (evT b n d) d + 1) + (i - (levT b (evT b n d) d + 1)) := by omega
      rw [e3, Nat.pow_add, ← Nat.div_div_eq_div_mul, ← Nat.div_div_eq_div_mul, a1]
    rw [← a2, ee]
    exact dig_mul hb h2
  rw [e2, Nat.add_right_comm, odd_add]
/-- where it fires, the side is the one at the last list -/
theorem side_last {b : Nat} {ws : List Bool} {s n d : Nat} (hb : 2 ≤ b) (h : n < d) (hs : s ≤ n) (he : evT b n d = d) : sideT b ws s d (levT b n d) = sideT b ws s d 0 := by
  have hm := lev_mono hb h hs
  have hsd := Nat.lt_of_le_of_lt hs h
  rw [side_cnt hb hsd hm, side_cnt hb hsd (Nat.zero_le _)]
  rw [cntS_skip (lo := 0) (lo' := levT b n d) (Nat.zero_le _) (fun i _ h2 => ?_) _]
  have ee := evT_is hb h
  rw [he] at ee
  rw [ee]
  have e4 : levT b n (d / b ^ levT b n d * b ^ levT b n d) = levT b n d := by rw [← ee]
  exact dig_mul hb h2
/-! ### the law's own wheel: cells -/
abbrev LCell := (Nat × Nat) × List Tm
def gv : List LCell → Nat × Nat → List Tm
  | [], _ => []
  | c :: cs, p => if c.1 = p then c.2 else gv cs p
def lput (cs : List LCell) (p : Nat × Nat) (l : List Tm) : List LCell := if p ∈ cs.map (·.1) then cs.map (fun c => if c.1 = p then (c.1, l) else c) else cs ++ [(p, l)]
def ldrop (cs : List LCell) (p : Nat × Nat) : List LCell := cs.filter fun c => decide (c.1 ≠ p)
theorem gv_none {p : Nat × Nat} : ∀ {cs : List LCell}, p ∉ cs.map (·.1) → gv cs p = []
  | [], _ => rfl
  | c :: cs, h => by
    rw [List.map_cons, List.mem_cons, not_or] at h
    show (if c.1 = p then c.2 else gv cs p) = []
    rw [if_neg fun z => h.1 z.symm]
    exact gv_none h.2
theorem gv_map {p q : Nat × Nat} {l : List Tm} : ∀ cs : List LCell, p ∈ cs.map (·.1) → gv (cs.map fun c => if c.1 = p then (c.1, l) else c) q = if p = q then l else gv cs q
  | [], h => by cases h
  | c :: cs, h => by
    rw [List.map_cons]
    by_cases e : c.1 = p
    · rw [if_pos e]
      by_cases e2 : p = q
      · rw [if_pos e2]
        show (if c.1 = q then l else _) = l
        rw [if_pos (e.trans e2)]
      · rw [if_neg e2]
        show (if c.1 = q then l else gv _ q) = if c.1 = q then c.2 else gv cs q
        rw [if_neg fun z => e2 (e.symm.trans z), if_neg fun z => e2 (e.symm.trans z)]
        by_cases hm : p ∈ cs.map (·.1)
        · rw [gv_map cs hm, if_neg e2]
        · have e3 : (cs.map fun c => if c.1 = p then (c.1, l) else c) = cs := by
            have z : ∀ c ∈ cs, (if c.1 = p then (c.1, l) else c) = c := fun c hc => if_neg fun y => hm (List.mem_map.mpr ⟨c, hc, y⟩)
            rw [List.map_congr_left (g := id) z, List.map_id]
          rw [e3]
    · rw [if_neg e]
      rw [List.map_cons, List.mem_cons] at h
      have hm := h.resolve_left fun z => e z.symm
      show (if c.1 = q then c.2 else gv _ q) = if p = q then l else (if c.1 = q then c.2 else gv cs q)
      rw [gv_map cs hm]
      by_cases e2 : c.1 = q
      · rw [if_pos e2, if_neg fun z => e (e2.trans z.symm), if_pos e2]
      · rw [if_neg e2, if_neg e2]
theorem gv_snoc {p q : Nat × Nat} {l : List Tm} : ∀ cs : List LCell, p ∉ cs.map (·.1) → gv (cs ++ [(p, l)]) q = if p = q then l else gv cs q
  | [], _ => rfl
  | c :: cs, h => by
    rw [List.map_cons, List.mem_cons, not_or] at h
    show (if c.1 = q then c.2 else gv (cs ++ [(p, l)]) q) = if p = q then l else (if c.1 = q then c.2 else gv cs q)
    rw [gv_snoc cs h.2]
    by_cases e : p = q
    · rw [if_pos e, if_pos e, if_neg fun z => h.1 (e.trans z.symm)]
    · rw [if_neg e, if_neg e]
theorem gv_put {cs : List LCell} {p q : Nat × Nat} {l : List Tm} : gv (lput cs p l) q = if p = q then l else gv cs q := by
  unfold lput
  split
  · rename_i h
    exact gv_map cs h
  · rename_i h
    exact gv_snoc cs h
theorem gv_drop {p q : Nat × Nat} : ∀ cs : List LCell, gv (ldrop cs p) q = if p = q then [] else gv cs q
  | [] => by
    show [] = if p = q then [] else []
    split <;> rfl
  | c :: cs => by
    have ih := gv_drop (p := p) (q := q) cs
    by_cases e : c.1 = p
    · have z : ldrop (c :: cs) p = ldrop cs p := List.filter_cons_of_neg (by simp [e])
      rw [z, ih]
      by_cases e2 : p = q
      · rw [if_pos e2, if_pos e2]
      · rw [if_neg e2, if_neg e2]
        show _ = if c.1 = q then c.2 else gv cs q
        rw [if_neg fun z => e2 (e.symm.trans z)]
    · have z : ldrop (c :: cs) p = c :: ldrop cs p := List.filter_cons_of_pos (by simp [e])
      rw [z]
      show (if c.1 = q then c.2 else gv (ldrop cs p) q) = if p = q then [] else (if c.1 = q then c.2 else gv cs q)
      rw [ih]
      by_cases e2 : p = q
      · rw [if_pos e2, if_pos e2, if_neg fun z => e (z.trans e2.symm)]
      · rw [if_neg e2, if_neg e2]
theorem lput_keys {cs : List LCell} {p : Nat × Nat} {l : List Tm} (nd : (cs.map (·.1)).Nodup) : ((lput cs p l).map (·.1)).Nodup := by
  unfold lput
  split
  · rw [List.map_map]
    have e : cs.map ((fun c : LCell => c.1) ∘ fun c => if c.1 = p then (c.1, l) else c) = cs.map (·.1) := List.map_congr_left fun c _ => by
      show (if c.1 = p then (c.1, l) else c).1 = c.1
      split <;> rfl
    rw [e]
    exact nd
  · rename_i h
    rw [List.map_append]
    exact L2.nd_snoc nd h
theorem lput_len (cs : List LCell) (p : Nat × Nat) (l : List Tm) : (lput cs p l).length ≤ cs.length + 1 := by
  unfold lput
  split
  · rw [List.length_map]
    omega
  · rw [List.length_append]
    exact Nat.le_refl _
theorem ldrop_keys {cs : List LCell} {p : Nat × Nat} (nd : (cs.map (·.1)).Nodup) : ((ldrop cs p).map (·.1)).Nodup := List.Nodup.sublist (List.Sublist.map _ List.filter_sublist) nd
theorem ldrop_len (cs : List LCell) (p : Nat × Nat) : (ldrop cs p).length ≤ cs.length := List.length_filter_le _ _
theorem gv_mem {cs : List LCell} (nd : (cs.map (·.1)).Nodup) {c : LCell} (h : c ∈ cs) : gv cs c.1 = c.2 := by
  induction cs with
  | nil => cases h
  | cons x cs ih =>
    rw [List.map_cons, List.nodup_cons] at nd
    show (if x.1 = c.1 then x.2 else gv cs c.1) = c.2
    rcases List.mem_cons.mp h with e | h
    · rw [e, if_pos rfl]
    · rw [if_neg fun z => nd.1 (List.mem_map.mpr ⟨c, h, z.symm⟩)]
      exact ih nd.2 h
/-- what the law's wheel does with one timer, and with all of a list -/
noncomputable def lplace (b : Nat) (ws : List Bool) (t : Nat) (cs : List LCell) (m : Tm) : List LCell := lput cs (placeT b t m.due) (insM (wordAt ws (placeT b t m.due).1) m (gv cs (placeT b t m.due)))
theorem gv_place {b : Nat} {ws : List Bool} {t : Nat} {cs : List LCell} {m : Tm} {p : Nat × Nat} : gv (lplace b ws t cs m) p = if placeT b t m.due = p then insM (wordAt ws p.1) m (gv cs p) else gv cs p := by
  unfold lplace
  rw [gv_put]
  split
  · rename_i e
    rw [e]
  · rfl
theorem gv_places {b : Nat} {ws : List Bool} {t : Nat} {p : Nat × Nat} : ∀ (l : List Tm) (cs : List LCell), gv (l.foldl (lplace b ws t) cs) p = (l.filter fun m => decide (placeT b t m.due = p)).foldl (fun a m => insM (wordAt ws p.1) m a) (gv cs p)
  | [], _ => rfl
  | m :: l, cs => by
    rw [List.foldl_cons, gv_places l, gv_place]
    by_cases e : placeT b t m.due = p
    · rw [if_pos e, List.filter_cons_of_pos (by simpa using e), List.foldl_cons]
    · rw [if_neg e, List.filter_cons_of_neg (by simpa using e)]
/-- the list p at the tick t, of the timers ms in the order in which they were set -/
noncomputable def stM (b : Nat) (ws : List Bool) (t : Nat) (ms : List Tm) (p : Nat × Nat) : List Tm := deq (fun m => sideT b ws m.since m.due p.1) (ms.filter fun m => decide (placeT b t m.due = p))
def againM (t : Nat) (m : Tm) : Option Tm := m.per.map fun k => ⟨m.num, t + k, some k, t⟩
structure IsZer (b e h : Nat) : Prop where
  low : e % b ^ h = 0
  dig : e / b ^ h % b ≠ 0
theorem zer_uniq {b e h h' : Nat} (z : IsZer b e h) (z' : IsZer b e h') : h = h' := by
  have main : ∀ {i j : Nat}, IsZer b e i → IsZer b e j → ¬ i < j := fun {i j} zi zj c => by
    refine zi.dig ?_
    have e1 : b ^ j = b ^ i * (b * b ^ (j - i - 1)) := by
      rw [← Nat.mul_assoc, ← Nat.pow_succ, ← Nat.pow_add]
      congr 1
      omega
    have e2 : b ^ j ∣ e := Nat.dvd_of_mod_eq_zero zj.low
    rw [e1] at e2
    obtain ⟨q, hq⟩ := e2
    have hp : 0 < b ^ i := by
      rcases Nat.eq_zero_or_pos (b ^ i) with c0 | c0
      · exfalso
        rw [c0, Nat.zero_mul, Nat.zero_mul] at hq
        refine zi.dig ?_
        rw [hq, Nat.zero_div, Nat.zero_mod]
      · exact c0
    rw [hq, Nat.mul_assoc, Nat.mul_div_cancel_left _ hp, Nat.mul_assoc, Nat.mul_mod_right]
  have a1 := main z z'
  have a2 := main z' z
  omega
/-- the key of the list that is emptied at e -/
def keyE (b e h : Nat) : Nat × Nat := (h, e / b ^ h % b)
noncomputable def lpass (b : Nat) (ws : List Bool) (e h : Nat) (cs : List LCell) : List LCell :=
  ((((gv cs (keyE b e h)).filter fun m => decide (m.due = e)).filterMap (againM e))).foldl (lplace b ws e) (((gv cs (keyE b e h)).filter fun m => decide (m.due ≠ e)).foldl (lplace b ws e) (ldrop cs (keyE b e h)))
section
variable {b e h n d : Nat}
theorem ev_key (hb : 2 ≤ b) (z : IsZer b e h) (hnd : n < d) (he : evT b n d = e) : placeT b n d = keyE b e h := by
  have hk := levT_is hb hnd
  have ee := evT_is hb hnd
  rw [he] at ee
  have hp := pow_pos' hb (levT b n d)
  have e1 : e / b ^ levT b n d = d / b ^ levT b n d := by
    rw [ee, Nat.mul_div_cancel _ hp]
  have dg := hk.digit hnd
  have z2 : IsZer b e (levT b n d) := ⟨by rw [ee]; exact Nat.mul_mod_left _ _, by rw [e1]; omega⟩
  unfold placeT keyE
  rw [zer_uniq z z2, e1]
theorem key_ev (hb : 2 ≤ b) (z : e % b ^ h = 0) (hnd : n < d) (hne : n < e) (hle : e ≤ evT b n d) (hk : placeT b n d = keyE b e h) : evT b n d = e := by
  have k1 : levT b n d = h := congrArg Prod.fst hk
  have k2 : d / b ^ levT b n d % b = e / b ^ h % b := congrArg Prod.snd hk
  have hl := levT_is hb hnd
  have ee := evT_is hb hnd
  have hed := Nat.le_trans hle (evT_le hb hnd)
  rw [k1] at k2 hl ee
  have a1 : n / b ^ (h + 1) ≤ e / b ^ (h + 1) := Nat.div_le_div_right (Nat.le_of_lt hne)
  have a2 : e / b ^ (h + 1) ≤ d / b ^ (h + 1) := Nat.div_le_div_right hed
  have a3 := hl.1
  have a4 : e / b ^ h / b = d / b ^ h / b := by
    rw [← div_succ, ← div_succ]
    omega
  have a5 := Nat.div_add_mod (e / b ^ h) b
  have a6 := Nat.div_add_mod (d / b ^ h) b
  have a7 : e / b ^ h = d / b ^ h := by
    rw [a4] at a5
    omega
  rw [ee, ← a7]
  exact Nat.div_mul_cancel (Nat.dvd_of_mod_eq_zero z)
theorem low_none (hb : 2 ≤ b) (z : e % b ^ h = 0) (hnd : n < d) (hne : n < e) (hle : e < evT b n d) : h ≤ levT b n d := by
  refine Nat.le_of_not_lt fun c => ?_
  obtain ⟨s1, s2⟩ := lev_stays hb hnd (Nat.le_of_lt hne) hle
  have k1 := levT_is hb hnd
  have k2 := levT_is hb s1
  rw [s2] at k2
  generalize levT b n d = j at c k1 k2
  have a1 : n / b ^ (j + 1) = e / b ^ (j + 1) := k1.1.trans k2.1.symm
  have hp := pow_pos' hb (j + 1)
  have dv : b ^ (j + 1) ∣ e := Nat.dvd_trans (Nat.pow_dvd_pow b (by omega)) (Nat.dvd_of_mod_eq_zero z)
  have a2 : e / b ^ (j + 1) * b ^ (j + 1) = e := Nat.div_mul_cancel dv
  have a3 : n / b ^ (j + 1) < e / b ^ (j + 1) := (Nat.div_lt_iff_lt_mul hp).mpr (by rw [a2]; exact hne)
  omega
theorem not_key (hb : 2 ≤ b) (hed : e < d) : placeT b e d ≠ keyE b e h := fun hk => by
  have k1 : levT b e d = h := congrArg Prod.fst hk
  have k2 : d / b ^ levT b e d % b = e / b ^ h % b := congrArg Prod.snd hk
  have dg := (levT_is hb hed).digit hed
  rw [k1] at k2 dg
  omega
end
/-- one tick at which a list may be emptied: the lists behind, and what fires -/
theorem lw_pass {b : Nat} {ws : List Bool} {t e h : Nat} {ms : List Tm} {cs : List LCell} (hb : 2 ≤ b) (z : IsZer b e h) (hte : t < e) (hms : ∀ m ∈ ms, m.since ≤ t ∧ t < m.due ∧ e ≤ evT b t m.due) (hcs : ∀ p, gv cs p = stM b ws t ms p) :
    (gv cs (keyE b e h)).filter (fun m => decide (m.due = e)) = deq (fun m => sideT b ws m.since m.due 0) (ms.filter fun m => decide (m.due = e)) ∧
    ∀ p, (∀ m ∈ ms, ∀ k, m.per = some k → 1 ≤ k) → gv (lpass b ws e h cs) p = stM b ws e (ms.filter (fun m => decide (m.due ≠ e)) ++ (deq (fun m => sideT b ws m.since m.due 0) (ms.filter fun m => decide (m.due = e))).filterMap (againM e)) p := by
  have ev : ∀ m ∈ ms, m.due = e → evT b t m.due = e := fun m hm hd => Nat.le_antisymm (by rw [← hd] at *; exact evT_le hb (hms m hm).2.1) (hms m hm).2.2
  -- who stands in the list that is emptied
  have hkey : ∀ m ∈ ms, placeT b t m.due = keyE b e h ↔ evT b t m.due = e := fun m hm => ⟨key_ev hb z.low (hms m hm).2.1 hte (hms m hm).2.2, ev_key hb z (hms m hm).2.1⟩
  have hF : (gv cs (keyE b e h)).filter (fun m => decide (m.due = e)) = deq (fun m => sideT b ws m.since m.due 0) (ms.filter fun m => decide (m.due = e)) := by
    rw [hcs]
    unfold stM
    rw [deq_filter, List.filter_filter]
    have e1 : ms.filter (fun m => decide (m.due = e) && decide (placeT b t m.due = keyE b e h)) = ms.filter fun m => decide (m.due = e) := List.filter_congr fun m hm => by
      by_cases c : m.due = e
      · rw [decide_eq_true c, decide_eq_true ((hkey m hm).mpr (ev m hm c))]
        rfl
      · rw [decide_eq_false c]
        rfl
    rw [e1]
    refine deq_congr fun m hm => ?_
    obtain ⟨hm, hd⟩ := List.mem_filter.mp hm
    have hd : m.due = e := of_decide_eq_true hd
    have hev := ev m hm hd
    have hk := (hkey m hm).mpr hev
    have k1 : levT b t m.due = h := congrArg Prod.fst hk
    show sideT b ws m.since m.due h = _
    rw [← k1]
    exact side_last hb (hms m hm).2.1 (hms m hm).1 (hev.trans hd.symm)
  refine ⟨hF, fun p hper => ?_⟩
  unfold lpass
  rw [gv_places, gv_places, gv_drop, hF]
  -- the timers that go on
  have hA : ((((gv cs (keyE b e h)).filter fun m => decide (m.due ≠ e)).filter fun m => decide (placeT b e m.due = p)).foldl (fun a m => insM (wordAt ws p.1) m a) (if keyE b e h = p then [] else gv cs p))
      = deq (fun m => sideT b ws m.since m.due p.1) ((ms.filter fun m => decide (m.due ≠ e)).filter fun m => decide (placeT b e m.due = p)) := by
    have hL : ((gv cs (keyE b e h)).filter fun m => decide (m.due ≠ e)).filter (fun m => decide (placeT b e m.due = p)) = deq (fun m => sideT b ws m.since m.due h) (ms.filter fun m => decide (placeT b t m.due = keyE b e h) && decide (m.due ≠ e) && decide (placeT b e m.due = p)) := by
      rw [hcs]
      unfold stM
      rw [deq_filter, deq_filter, List.filter_filter, List.filter_filter]
      congr 1
      exact List.filter_congr fun m _ => by
        cases decide (placeT b t m.due = keyE b e h) <;> cases decide (m.due ≠ e) <;> cases decide (placeT b e m.due = p) <;> rfl
    have lt_due : ∀ m ∈ ms, m.due ≠ e → e < m.due := fun m hm hd => by
      have := Nat.le_trans (hms m hm).2.2 (evT_le hb (hms m hm).2.1)
      omega
    have drops : ∀ m ∈ ms, m.due ≠ e → evT b t m.due = e → levT b e m.due < h := fun m hm hd hev => by
      have z1 := lev_drops hb (hms m hm).2.1 (by rw [hev]; exact lt_due m hm hd)
      have k1 : levT b t m.due = h := congrArg Prod.fst ((hkey m hm).mpr hev)
      rw [hev, k1] at z1
      exact z1
    have stays : ∀ m ∈ ms, evT b t m.due ≠ e → placeT b e m.due = placeT b t m.due ∧ h ≤ levT b t m.due := fun m hm hev => by
      have hlt : e < evT b t m.due := by
        have := (hms m hm).2.2
        omega
      refine ⟨?_, low_none hb z.low (hms m hm).2.1 hte hlt⟩
      unfold placeT
      rw [(lev_stays hb (hms m hm).2.1 (Nat.le_of_lt hte) hlt).2]
    rw [hL, List.filter_filter]
    by_cases c1 : keyE b e h = p
    · rw [if_pos c1]
      have n1 : ms.filter (fun m => decide (placeT b t m.due = keyE b e h) && decide (m.due ≠ e) && decide (placeT b e m.due = p)) = [] := List.filter_eq_nil_iff.mpr fun m hm x => by
        simp only [Bool.and_eq_true, decide_eq_true_eq] at x
        exact not_key hb (lt_due m hm x.1.2) (x.2.trans c1.symm)
      have n2 : ms.filter (fun m => decide (placeT b e m.due = p) && decide (m.due ≠ e)) = [] := List.filter_eq_nil_iff.mpr fun m hm x => by
        simp only [Bool.and_eq_true, decide_eq_true_eq] at x
        exact not_key hb (lt_due m hm x.2) (x.1.trans c1.symm)
      rw [n1, n2]
      rfl
    · rw [if_neg c1, hcs]
      by_cases c2 : p.1 < h
      · -- a lower list: it was empty, and takes what comes down
        have n1 : ms.filter (fun m => decide (placeT b t m.due = p)) = [] := List.filter_eq_nil_iff.mpr fun m hm x => by
          have x : placeT b t m.due = p := of_decide_eq_true x
          by_cases c3 : evT b t m.due = e
          · exact c1 (((hkey m hm).mpr c3).symm.trans x)
          · have y := (stays m hm c3).2
            have y2 : levT b t m.due = p.1 := congrArg Prod.fst x
            omega
        have n2 : stM b ws t ms p = [] := by
          unfold stM
          rw [n1]
          rfl
        rw [n2, ins_fold, deq_deq]
        have e1 : ms.filter (fun m => decide (placeT b t m.due = keyE b e h) && decide (m.due ≠ e) && decide (placeT b e m.due = p)) = ms.filter (fun m => decide (placeT b e m.due = p) && decide (m.due ≠ e)) := List.filter_congr fun m hm => by
          by_cases c4 : m.due ≠ e ∧ placeT b e m.due = p
          · have c3 : evT b t m.due = e := Classical.byContradiction fun no => by
              obtain ⟨y1, y2⟩ := stays m hm no
              have y3 : levT b e m.due = p.1 := congrArg Prod.fst c4.2
              have y4 : levT b e m.due = levT b t m.due := congrArg Prod.fst y1
              omega
            rw [decide_eq_true ((hkey m hm).mpr c3), decide_eq_true c4.1, decide_eq_true c4.2]
            rfl
          · by_cases c5 : m.due ≠ e
            · rw [decide_eq_false (fun x => c4 ⟨c5, x⟩), Bool.and_false, Bool.false_and]
            · rw [decide_eq_false c5, Bool.and_false, Bool.false_and, Bool.and_false]
        rw [e1]
        refine deq_congr fun m hm => ?_
        obtain ⟨hm, x⟩ := List.mem_filter.mp hm
        simp only [Bool.and_eq_true, decide_eq_true_eq] at x
        have c3 : evT b t m.due = e := Classical.byContradiction fun no => by
          obtain ⟨y1, y2⟩ := stays m hm no
          have y3 : levT b e m.due = p.1 := congrArg Prod.fst x.1
          have y4 : levT b e m.due = levT b t m.due := congrArg Prod.fst y1
          omega
        have k1 : levT b t m.due = h := congrArg Prod.fst ((hkey m hm).mpr c3)
        have k2 : levT b e m.due = p.1 := congrArg Prod.fst x.1
        have sd := side_drop (ws := ws) hb (hms m hm).2.1 (hms m hm).1 (by rw [c3]; exact lt_due m hm x.2)
        rw [c3, k1, k2] at sd
        exact sd.symm
      · -- another list: it stays
        have n1 : ms.filter (fun m => decide (placeT b t m.due = keyE b e h) && decide (m.due ≠ e) && decide (placeT b e m.due = p)) = [] := List.filter_eq_nil_iff.mpr fun m hm x => by
          simp only [Bool.and_eq_true, decide_eq_true_eq] at x
          have y := drops m hm x.1.2 ((hkey m hm).mp x.1.1)
          have y3 : levT b e m.due = p.1 := congrArg Prod.fst x.2
          omega
        rw [n1]
        show stM b ws t ms p = _
        unfold stM
        congr 1
        refine List.filter_congr fun m hm => ?_
        by_cases c3 : evT b t m.due = e
        · have x1 : ¬ placeT b t m.due = p := fun x => c1 (((hkey m hm).mpr c3).symm.trans x)
          rw [decide_eq_false x1]
          by_cases c5 : m.due ≠ e
          · have x2 : ¬ placeT b e m.due = p := fun x => by
              have y := drops m hm c5 c3
              have y3 : levT b e m.due = p.1 := congrArg Prod.fst x
              omega
            rw [decide_eq_false x2, Bool.false_and]
          · rw [decide_eq_false c5, Bool.and_false]
        · have c5 : m.due ≠ e := fun x => c3 (ev m hm x)
          rw [decide_eq_true c5, (stays m hm c3).1, Bool.and_true]
  rw [hA]
  have hB : ∀ m ∈ ((deq (fun m => sideT b ws m.since m.due 0) (ms.filter fun m => decide (m.due = e))).filterMap (againM e)).filter (fun m => decide (placeT b e m.due = p)), sideT b ws m.since m.due p.1 = wordAt ws p.1 := fun m hm => by
    obtain ⟨hm, x⟩ := List.mem_filter.mp hm
    have x : placeT b e m.due = p := of_decide_eq_true x
    obtain ⟨m0, h0, h1⟩ := List.mem_filterMap.mp hm
    have h0' := (List.mem_filter.mp (mem_deq.mp h0)).1
    unfold againM at h1
    cases ep : m0.per with
    | none =>
      rw [ep] at h1
      cases h1
    | some k =>
      rw [ep] at h1
      have h2 := (Option.some.inj h1).symm
      have hk := hper m0 h0' k ep
      subst h2
      have k2 : levT b e (e + k) = p.1 := congrArg Prod.fst x
      show sideT b ws e (e + k) p.1 = wordAt ws p.1
      rw [← k2]
      exact side_new hb (Nat.lt_add_of_pos_right hk)
  rw [ins_deq _ _ _ hB]
  unfold stM
  rw [List.filter_append]
/-- the order of firing, the lists, what is live behind it: as the program has them -/
theorem order_deq (b : Nat) (ws : List Bool) (t : Nat) (ms : List Tm) : orderAt b ws t ms = (deq (fun m => sideT b ws m.since m.due 0) (ms.filter fun m => decide (m.due = t))).map (·.num) := by
  suffices H : ∀ n : Nat, orderAt b ws t (ms.take n) = (deq (fun m => sideT b ws m.since m.due 0) ((ms.take n).filter fun m => decide (m.due = t))).map (·.num) by
    have z := H ms.length
    rw [List.take_length] at z
    exact z
  intro n
  induction n with
  | zero => rfl
  | succ n ih =>
    cases e : ms[n]? with
    | none =>
      have hl : ms.length ≤ n := List.getElem?_eq_none_iff.mp e
      rw [List.take_of_length_le (by omega)]
      rw [List.take_of_length_le hl] at ih
      exact ih
    | some m =>
      rw [List.take_add_one, e, Option.toList_some, order_snoc, List.filter_append]
      by_cases h : m.due = t
      · have e1 : [m].filter (fun m => decide (m.due = t)) = [m] := List.filter_cons_of_pos (by simpa using h)
        rw [if_pos h, e1, deq_snoc, ih]
        unfold insT insM
        cases sideT b ws m.since m.due 0 with
        | true => rfl
        | false =>
          show _ ++ [m.num] = List.map _ (_ ++ [m])
          rw [List.map_append]
          rfl
      · have e1 : [m].filter (fun m => decide (m.due = t)) = [] := List.filter_cons_of_neg (by simpa using h)
        rw [if_neg h, e1, List.append_nil, ih]
theorem cell_st {b : Nat} {ws : List Bool} {t : Nat} {ms : List Tm} {p : Nat × Nat} (hd : ∀ m ∈ ms, t < m.due) : cellV (standD b ws t ms) p = (stM b ws t ms p).map (·.num) := by
  suffices H : ∀ n : Nat, cellV (standD b ws t (ms.take n)) p = (stM b ws t (ms.take n) p).map (·.num) by
    have z := H ms.length
    rw [List.take_length] at z
    exact z
  intro n
  induction n with
  | zero => rfl
  | succ n ih =>
    cases e : ms[n]? with
    | none =>
      have hl : ms.length ≤ n := List.getElem?_eq_none_iff.mp e
      rw [List.take_of_length_le (by omega)]
      rw [List.take_of_length_le hl] at ih
      exact ih
    | some m =>
      rw [List.take_add_one, e, Option.toList_some, stand_snoc]
      unfold standStep
      rw [if_pos (hd m (List.mem_of_getElem? e)), cellV_put]
      unfold stM at ih ⊢
      rw [List.filter_append]
      by_cases h : placeT b t m.due = p
      · have e1 : [m].filter (fun m => decide (placeT b t m.due = p)) = [m] := List.filter_cons_of_pos (by simpa using h)
        rw [if_pos h, e1, deq_snoc, h, ih]
        have e2 : levT b t m.due = p.1 := congrArg Prod.fst h
        rw [e2]
        unfold insT insM
        cases sideT b ws m.since m.due p.1 with
        | true => rfl
        | false =>
          show _ ++ [m.num] = List.map _ (_ ++ [m])
          rw [List.map_append]
          rfl
      · have e1 : [m].filter (fun m => decide (placeT b t m.due = p)) = [] := List.filter_cons_of_neg (by simpa using h)
        rw [if_neg h, e1, List.append_nil, ih]
theorem find_one {ms : List Tm} {m : Tm} (nd : (ms.map (·.num)).Nodup) (h : m ∈ ms) : ms.find? (fun x => decide (x.num = m.num)) = some m := by
  induction ms with
  | nil => cases h
  | cons x ms ih =>
    rw [List.map_cons, List.nodup_cons] at nd
    rw [List.find?_cons]
    rcases List.mem_cons.mp h with e | h
    · rw [← e, decide_eq_true rfl]
    · have n : ¬ x.num = m.num := fun z => nd.1 (List.mem_map.mpr ⟨m, h, z.symm⟩)
      rw [decide_eq_false n]
      exact ih nd.2 h
/-- a new timer, or an old one set anew, at the end -/
theorem nodup_end {ms : List Tm} {m : Tm} (nd : (ms.map (·.num)).Nodup) (h : ∀ x ∈ ms, x.num ≠ m.num) : ((ms ++ [m]).map (·.num)).Nodup := by
  rw [List.map_append]
  refine L2.nd_snoc nd fun hm => ?_
  obtain ⟨x, hx, e⟩ := List.mem_map.mp hm
  exact h x hx e
/-- firing a list of timers, one after the other -/
theorem after_list {t : Nat} : ∀ (F ms : List Tm), (ms.map (·.num)).Nodup → (F.map (·.num)).Nodup → (∀ m ∈ F, m ∈ ms) → afterF t ms (F.map (·.num)) = ms.filter (fun m => decide (m.num ∉ F.map (·.num))) ++ F.filterMap (againM t)
  | [], ms, _, _, _ => by
    show ms = ms.filter _ ++ []
    rw [List.append_nil, List.filter_eq_self.mpr fun m _ => by simp]
  | m :: F, ms, nd, ndF, hF => by
    rw [List.map_cons, List.nodup_cons] at ndF
    have hm := hF m (List.mem_cons_self ..)
    have key : fireT t ms m.num = dropT m.num ms ++ (againM t m).toList := by
      unfold fireT
      rw [find_one nd hm]
      show (match m.per with | none => dropT m.num ms | some k => dropT m.num ms ++ [(⟨m.num, t + k, some k, t⟩ : Tm)]) = _
      unfold againM
      cases m.per with
      | none =>
        show dropT m.num ms = dropT m.num ms ++ []
        rw [List.append_nil]
      | some k => rfl
    show afterF t (fireT t ms m.num) (F.map (·.num)) = _
    have nd1 : ((fireT t ms m.num).map (·.num)).Nodup := by
      rw [key]
      have nd0 : ((dropT m.num ms).map (·.num)).Nodup := List.Nodup.sublist (List.Sublist.map _ List.filter_sublist) nd
      cases ea : againM t m with
      | none => simpa using nd0
      | some m' =>
        have en : m'.num = m.num := by
          unfold againM at ea
          cases ep : m.per with
          | none =>
            rw [ep] at ea
            cases ea
          | some k =>
            rw [ep] at ea
            rw [← Option.some.inj ea]
        refine nodup_end nd0 fun x hx => ?_
        rw [en]
        simpa using (List.mem_filter.mp hx).2
    have mem1 : ∀ x ∈ F, x ∈ fireT t ms m.num := fun x hx => by
      rw [key]
      refine List.mem_append_left _ (List.mem_filter.mpr ⟨hF x (List.mem_cons_of_mem _ hx), ?_⟩)
      have n : ¬ x.num = m.num := fun z => ndF.1 (List.mem_map.mpr ⟨x, hx, z⟩)
      simpa using n
    rw [after_list F _ nd1 ndF.2 mem1, key, List.filter_append]
    have e1 : ((againM t m).toList).filter (fun x => decide (x.num ∉ F.map (·.num))) = (againM t m).toList := List.filter_eq_self.mpr fun x hx => by
      cases ea : againM t m with
      | none =>
        rw [ea] at hx
        cases hx
      | some m' =>
        rw [ea] at hx
        have en : m'.num = m.num := by
          unfold againM at ea
          cases ep : m.per with
          | none =>
            rw [ep] at ea
            cases ea
          | some k =>
            rw [ep] at ea
            rw [← Option.some.inj ea]
        have ex : x = m' := List.mem_singleton.mp hx
        rw [ex, en]
        exact decide_eq_true ndF.1
    rw [e1]
    unfold dropT
    rw [List.filter_filter]
    have e2 : ms.filter (fun x => decide (x.num ∉ F.map (·.num)) && decide (x.num ≠ m.num)) = ms.filter fun x => decide (x.num ∉ (m :: F).map (·.num)) := List.filter_congr fun x _ => by
      rw [List.map_cons]
      by_cases c : x.num = m.num
      · have c1 : decide (x.num ≠ m.num) = false := decide_eq_false fun z => z c
        have c2 : decide (x.num ∉ m.num :: F.map (·.num)) = false := decide_eq_false fun z => z (by rw [c]; exact List.mem_cons_self ..)
        rw [c1, c2, Bool.and_false]
      · have c1 : decide (x.num ≠ m.num) = true := decide_eq_true c
        rw [c1, Bool.and_true]
        exact decide_eq_decide.mpr ⟨fun z y => (List.mem_cons.mp y).elim c z, fun z y => z (List.mem_cons_of_mem _ y)⟩
    rw [e2, List.append_assoc]
    congr 1
    cases ea : againM t m with
    | none => rw [List.filterMap_cons_none ea]; rfl
    | some m' => rw [List.filterMap_cons_some ea]; rfl
theorem after_due {b : Nat} {ws : List Bool} {t : Nat} {ms : List Tm} (nd : (ms.map (·.num)).Nodup) : afterF t ms (orderAt b ws t ms) = ms.filter (fun m => decide (m.due ≠ t)) ++ (deq (fun m => sideT b ws m.since m.due 0) (ms.filter fun m => decide (m.due = t))).filterMap (againM t) := by
  rw [order_deq, after_list _ ms nd]
  · congr 1
    refine List.filter_congr fun m hm => ?_
    by_cases c : m.due = t
    · have c1 : decide (m.due ≠ t) = false := decide_eq_false fun z => z c
      rw [c1]
      exact decide_eq_false fun z => z (List.mem_map.mpr ⟨m, mem_deq.mpr (List.mem_filter.mpr ⟨hm, decide_eq_true c⟩), rfl⟩)
    · have c1 : decide (m.due ≠ t) = true := decide_eq_true c
      rw [c1]
      refine decide_eq_true ?_
      intro z
      obtain ⟨x, hx, e⟩ := List.mem_map.mp z
      obtain ⟨h1, h2⟩ := List.mem_filter.mp (mem_deq.mp hx)
      have f1 := find_one nd h1
      have f2 := find_one nd hm
      rw [e, f2] at f1
      have e3 : m = x := Option.some.inj f1
      rw [e3] at c
      exact c (of_decide_eq_true h2)
  · rw [List.Perm.nodup_iff ((deq_perm _ _).map _)]
    exact List.Nodup.sublist (List.Sublist.map _ List.filter_sublist) nd
  · exact fun m hm => (List.mem_filter.mp (mem_deq.mp hm)).1
/-! ### timers that fire again -/
theorem again_of {t : Nat} {m m' : Tm} (h : againM t m = some m') : ∃ k, m.per = some k ∧ m' = ⟨m.num, t + k, some k, t⟩ := by
  unfold againM at h
  cases ep : m.per with
  | none =>
    rw [ep] at h
    cases h
  | some k =>
    rw [ep] at h
    exact ⟨k, rfl, (Option.some.inj h).symm⟩
theorem fireN_nodup {t n : Nat} {ms : List Tm} (nd : (ms.map (·.num)).Nodup) : ((fireT t ms n).map (·.num)).Nodup := by
  have nd0 : ((dropT n ms).map (·.num)).Nodup := List.Nodup.sublist (List.Sublist.map _ List.filter_sublist) nd
  unfold fireT
  split
  · exact nd
  · split
    · exact nd0
    · exact nodup_end nd0 fun x hx => by simpa using (List.mem_filter.mp hx).2
theorem nodup_le {α : Type} [DecidableEq α] : ∀ (l l' : List α), l.Nodup → (∀ x ∈ l, x ∈ l') → l.length ≤ l'.length
  | [], _, _, _ => Nat.zero_le _
  | a :: l, l', nd, h => by
    rw [List.nodup_cons] at nd
    have ha := h a (List.mem_cons_self ..)
    have ih := nodup_le l (l'.erase a) nd.2 fun x hx => (List.mem_erase_of_ne fun e => nd.1 (by rw [← e]; exact hx)).mpr (h x (List.mem_cons_of_mem _ hx))
    rw [List.length_erase_of_mem ha] at ih
    have := List.length_pos_of_mem ha
    rw [List.length_cons]
    omega
/-! ### sides by counting digits: the mathematics -/
/-- of the indexes below j, how many have a digit other than 0 of d and the word stack -/
def cntW (ws : List Bool) (b d : Nat) : Nat → Nat
  | 0 => 0
  | k + 1 => cntW ws b d k + if d / b ^ k % b ≠ 0 ∧ wordAt ws k = true then 1 else 0
theorem tail_cnt (ws : List Bool) (b d : Nat) : ∀ k, (tailOf b d k).countP (fun r => decide (0 ≤ r.1) && wordAt ws r.1) = cntW ws b d k
  | 0 => rfl
  | k + 1 => by
    have ih := tail_cnt ws b d k
    unfold tailOf cntW
    by_cases h : d / b ^ k % b ≠ 0
    · rw [if_pos h, List.countP_cons, ih, decide_eq_true (Nat.zero_le _), Bool.true_and]
      cases hw : wordAt ws k with
      | true => rw [if_pos rfl, if_pos (show d / b ^ k % b ≠ 0 ∧ true = true from ⟨h, rfl⟩)]
      | false => rw [if_neg (by simp), if_neg (by simp)]
    · rw [if_neg h, ih, if_neg (fun z => h z.1), Nat.add_zero]
theorem front_cnt {ws : List Bool} {b n d k : Nat} (h : IsLev b n d k) (hnd : n < d) : frontOf ws 0 (rowsOf b n d k) = decide (cntW ws b d (k + 1) % 2 = 1) := by
  have hd := h.digit hnd
  have h0 : d / b ^ k % b ≠ 0 := by omega
  unfold frontOf
  have e : (rowsOf b n d k).countP (fun r => decide (0 ≤ r.1) && wordAt ws r.1) = cntW ws b d (k + 1) := by
    unfold rowsOf cntW
    rw [List.countP_cons, tail_cnt, decide_eq_true (Nat.zero_le _), Bool.true_and]
    cases hw : wordAt ws k with
    | true => rw [if_pos rfl, if_pos (show d / b ^ k % b ≠ 0 ∧ true = true from ⟨h0, rfl⟩)]
    | false => rw [if_neg (by simp), if_neg (by simp)]
  rw [e]
/-- which of two periodic timers goes ahead, where both fire again -/
def IsAhead (b : Nat) (ws : List Bool) (p1 p2 d : Nat) (v : Bool) : Prop :=
  (p1 < p2 → ∀ k, IsLev b (d - p1) d k → v = frontOf ws 0 (rowsOf b (d - p1) d k)) ∧ (¬ p1 < p2 → ∀ k, IsLev b (d - p2) d k → v = !frontOf ws 0 (rowsOf b (d - p2) d k))
/-! ### each due tick has a level (where math_count is not at hand) -/
theorem lev_any {b n d : Nat} (hb : 2 ≤ b) (hnd : n < d) : ∃ k, IsLev b n d k := ⟨_, levT_is hb hnd⟩
/-! ### how often one timer goes first: the mathematics -/
/-- whether a timer set at n and due at d goes in front -/
noncomputable def frB (ws : List Bool) (b n d : Nat) : Bool := @decide (∃ k, IsLev b n d k ∧ frontOf ws 0 (rowsOf b n d k) = true) (Classical.propDecidable _)
theorem frB_eq {ws : List Bool} {b n d k : Nat} (hk : IsLev b n d k) : frB ws b n d = frontOf ws 0 (rowsOf b n d k) := by
  unfold frB
  cases h : frontOf ws 0 (rowsOf b n d k) with
  | true => exact @decide_eq_true _ (Classical.propDecidable _) ⟨k, hk, h⟩
  | false =>
    refine @decide_eq_false _ (Classical.propDecidable _) fun ⟨k', hk', h'⟩ => ?_
    rw [hk'.uniq hk, h] at h'
    cases h'
noncomputable def ahB (ws : List Bool) (b p q t : Nat) : Bool := if p < q then frB ws b (t - p) t else !frB ws b (t - q) t
theorem IsAhead.eq {b p q t : Nat} {ws : List Bool} {v : Bool} (h : IsAhead b ws p q t v) (hb : 2 ≤ b) (hp : 1 ≤ p) (hq : 1 ≤ q) (hpt : p ≤ t) (hqt : q ≤ t) : v = ahB ws b p q t := by
  unfold ahB
  by_cases c : p < q
  · obtain ⟨k, hk⟩ := lev_any (n := t - p) (d := t) hb (by omega)
    rw [if_pos c, h.1 c k hk, frB_eq hk]
  · obtain ⟨k, hk⟩ := lev_any (n := t - q) (d := t) hb (by omega)
    rw [if_neg c, h.2 c k hk, frB_eq hk]
theorem ahB_swap {ws : List Bool} {b p q t : Nat} (h : p ≠ q) : ahB ws b q p t = !ahB ws b p q t := by
  unfold ahB
  by_cases c : p < q
  · rw [if_pos c, if_neg (by omega)]
  · rw [if_neg c, if_pos (by omega), Bool.not_not]
def fireB (a p t : Nat) : Bool := decide (a < t ∧ (t - a) % p = 0)
theorem fire_ge {a p t : Nat} (hp : 1 ≤ p) : (a + p ≤ t ∧ (t - a) % p = 0) ↔ (a < t ∧ (t - a) % p = 0) := by
  constructor
  · rintro ⟨h1, h2⟩
    exact ⟨by omega, h2⟩
  · rintro ⟨h1, h2⟩
    have := Nat.le_of_dvd (by omega) (Nat.dvd_of_mod_eq_zero h2)
    exact ⟨by omega, h2⟩
def bothB (a p o q t : Nat) : Bool := fireB a p t && fireB o q t
theorem bothB_iff {a p o q t : Nat} : bothB a p o q t = true ↔ (a < t ∧ (t - a) % p = 0) ∧ (o < t ∧ (t - o) % q = 0) := by
  unfold bothB fireB
  rw [Bool.and_eq_true, decide_eq_true_iff, decide_eq_true_iff]
/-- how many of n numbers from lo on have a property -/
def cntP (P : Nat → Bool) (lo : Nat) : Nat → Nat
  | 0 => 0
  | n + 1 => cntP P lo n + if P (lo + n) = true then 1 else 0
theorem cntP_zero {P : Nat → Bool} {lo : Nat} : ∀ n, (∀ t, lo ≤ t → t < lo + n → P t = false) → cntP P lo n = 0
  | 0, _ => rfl
  | n + 1, h => by
    unfold cntP
    rw [cntP_zero n (fun t h1 h2 => h t h1 (by omega)), h (lo + n) (by omega) (by omega)]
    rfl
theorem cntP_add (P : Nat → Bool) (lo m : Nat) : ∀ n, cntP P lo (m + n) = cntP P lo m + cntP P (lo + m) n
  | 0 => rfl
  | n + 1 => by
    show cntP P lo (m + n) + (if P (lo + (m + n)) = true then 1 else 0) = cntP P lo m + (cntP P (lo + m) n + if P (lo + m + n) = true then 1 else 0)
    rw [cntP_add P lo m n, show lo + (m + n) = lo + m + n by omega]
    omega
theorem cntP_congr {P R : Nat → Bool} {lo : Nat} : ∀ n, (∀ t, lo ≤ t → t < lo + n → P t = R t) → cntP P lo n = cntP R lo n
  | 0, _ => rfl
  | n + 1, h => by
    unfold cntP
    rw [cntP_congr n (fun t h1 h2 => h t h1 (by omega)), h (lo + n) (by omega) (by omega)]
/-- of n numbers from m on, e apart -/
def cntW2 (P : Nat → Bool) (m e : Nat) : Nat → Nat
  | 0 => 0
  | n + 1 => cntW2 P m e n + if P (m + n * e) = true then 1 else 0
theorem cntW2_windows {P : Nat → Bool} {m e : Nat} (he : 1 ≤ e) (h : ∀ t, P t = true → m ≤ t → e ∣ t - m) : ∀ n, cntP P m (n * e) = cntW2 P m e n
  | 0 => by
    rw [Nat.zero_mul]
    rfl
  | n + 1 => by
    have ih := cntW2_windows he h n
    have e1 : (n + 1) * e = n * e + (1 + (e - 1)) := by
      rw [Nat.succ_mul]
      omega
    rw [e1, cntP_add, ih, cntP_add]
    have z : cntP P (m + n * e + 1) (e - 1) = 0 := by
      refine cntP_zero _ fun t h1 h2 => ?_
      cases hp : P t with
      | false => rfl
      | true =>
        obtain ⟨k, hk⟩ := h t hp (by omega)
        have a1 : n * e < e * k := by omega
        have a2 : e * k < (n + 1) * e := by
          rw [Nat.succ_mul]
          omega
        rw [Nat.mul_comm e k] at a1 a2
        have b1 := Nat.lt_of_mul_lt_mul_right a1
        have b2 := Nat.lt_of_mul_lt_mul_right a2
        omega
    rw [z]
    show cntW2 P m e n + (0 + (if P (m + n * e + 0) = true then 1 else 0) + 0) = cntW2 P m e n + if P (m + n * e) = true then 1 else 0
    rw [Nat.add_zero, Nat.add_zero, Nat.zero_add]
def meetM (f e x : Nat) : Nat := f + (x - f + (e - 1)) / e * e
def meetN (m e y : Nat) : Nat := (y - m + (e - 1)) / e
theorem up_ge {x e : Nat} (he : 1 ≤ e) : x ≤ (x + (e - 1)) / e * e := by
  have h1 := Nat.div_add_mod (x + (e - 1)) e
  have h2 := Nat.mod_lt (x + (e - 1)) (show 0 < e by omega)
  rw [Nat.mul_comm] at h1
  omega
theorem up_lt {x e k : Nat} (he : 1 ≤ e) (hk : k < (x + (e - 1)) / e) : k * e < x := by
  have h1 : (k + 1) * e ≤ x + (e - 1) := by
    have := (Nat.le_div_iff_mul_le (show 0 < e by omega)).mp hk
    exact this
  rw [Nat.succ_mul] at h1
  omega
theorem meetM_ge {f e x : Nat} (he : 1 ≤ e) : x ≤ meetM f e x := by
  unfold meetM
  have := up_ge (x := x - f) he
  omega
theorem meetM_le {f e x t : Nat} (he : 1 ≤ e) (h1 : x ≤ t) (h2 : f ≤ t) (h3 : e ∣ t - f) : meetM f e x ≤ t := by
  obtain ⟨k, hk⟩ := h3
  unfold meetM
  rcases Nat.lt_or_ge k ((x - f + (e - 1)) / e) with l | l
  · have := up_lt he l
    rw [Nat.mul_comm] at this
    omega
  · have z : (x - f + (e - 1)) / e * e ≤ k * e := Nat.mul_le_mul_right e l
    rw [Nat.mul_comm k e] at z
    omega
theorem meet_dvd {f e x t : Nat} (h1 : meetM f e x ≤ t) (h3 : e ∣ t - f) : e ∣ t - meetM f e x := by
  unfold meetM at h1 ⊢
  have z : t - (f + (x - f + (e - 1)) / e * e) = (t - f) - (x - f + (e - 1)) / e * e := by omega
  rw [z]
  exact Nat.dvd_sub h3 (Nat.dvd_mul_left e _)
theorem meetM_dvd {f e x k : Nat} : e ∣ meetM f e x + k * e - f := by
  unfold meetM
  have z : f + (x - f + (e - 1)) / e * e + k * e - f = (x - f + (e - 1)) / e * e + k * e := by omega
  rw [z]
  exact Nat.dvd_add (Nat.dvd_mul_left e _) (Nat.dvd_mul_left e _)
/-- a range counted by the ticks at which both fire -/
theorem cnt_range {P : Nat → Bool} {f e x y : Nat} (he : 1 ≤ e) (hxy : x ≤ y) (h : ∀ t, P t = true → f ≤ t ∧ e ∣ t - f) : cntP P x (y - x) = cntW2 P (meetM f e x) e (meetN (meetM f e x) e y) := by
  have hx := meetM_ge (f := f) (x := x) he
  have hle : ∀ t, P t = true → x ≤ t → meetM f e x ≤ t := fun t hp ht => meetM_le he ht (h t hp).1 (h t hp).2
  have hdv : ∀ t, P t = true → meetM f e x ≤ t → e ∣ t - meetM f e x := fun t hp ht => meet_dvd ht (h t hp).2
  rw [← cntW2_windows he hdv]
  have hge : ∀ k, k < meetN (meetM f e x) e y → meetM f e x + k * e < y := fun k hk => by
    have := up_lt he hk
    omega
  have hup : y ≤ meetM f e x + meetN (meetM f e x) e y * e := by
    have := up_ge (x := y - meetM f e x) he
    unfold meetN
    omega
  generalize meetM f e x = m at *
  generalize meetN m e y = n at *
  have e1 : cntP P x (m - x + n * e) = cntP P m (n * e) := by
    rw [cntP_add, cntP_zero (m - x), Nat.zero_add, show x + (m - x) = m by omega]
    intro t h1 h2
    cases hp : P t with
    | false => rfl
    | true =>
      have := hle t hp h1
      omega
  have e2 : cntP P x (m - x + n * e) = cntP P x (y - x) := by
    rw [show m - x + n * e = (y - x) + (m + n * e - y) by omega, cntP_add, cntP_zero (m + n * e - y), Nat.add_zero]
    intro t h1 h2
    cases hp : P t with
    | false => rfl
    | true =>
      have h3 := hle t hp (by omega)
      obtain ⟨k, hk⟩ := hdv t hp h3
      rw [Nat.mul_comm] at hk
      have h4 : k * e < n * e := by omega
      have h5 := hge k (Nat.lt_of_mul_lt_mul_right h4)
      omega
  rw [← e2, e1]
/-- the ticks of a progression that lie behind a tick -/
def tickL (m e M : Nat) : Nat → List Nat
  | 0 => []
  | n + 1 => tickL m e M n ++ if M < m + n * e then [m + n * e] else []
theorem tickL_len (m e M : Nat) : ∀ n, (tickL m e M n).length ≤ n
  | 0 => Nat.le_refl _
  | n + 1 => by
    have ih := tickL_len m e M n
    unfold tickL
    rw [List.length_append]
    split
    · rw [List.length_singleton]
      omega
    · rw [List.length_nil]
      omega
theorem tickL_cnt {P A : Nat → Bool} {m e M : Nat} : ∀ n, (∀ k, k < n → P (m + k * e) = (decide (M < m + k * e) && A (m + k * e))) → (tickL m e M n).countP A = cntW2 P m e n
  | 0, _ => rfl
  | n + 1, h => by
    have ih := tickL_cnt n (fun k hk => h k (by omega))
    unfold tickL cntW2
    rw [List.countP_append, ih, h n (by omega)]
    by_cases c : M < m + n * e
    · rw [if_pos c, decide_eq_true c, Bool.true_and, List.countP_singleton]
    · rw [if_neg c, decide_eq_false c, Bool.false_and, List.countP_nil]
      rfl
theorem tickL_mem {m e M t : Nat} : ∀ {n}, t ∈ tickL m e M n → ∃ k, k < n ∧ t = m + k * e ∧ M < t
  | 0, h => by cases h
  | n + 1, h => by
    rcases List.mem_append.mp h with h | h
    · obtain ⟨k, h1, h2⟩ := tickL_mem h
      exact ⟨k, by omega, h2⟩
    · by_cases c : M < m + n * e
      · rw [if_pos c] at h
        have := List.mem_singleton.mp h
        exact ⟨n, by omega, this, by omega⟩
      · rw [if_neg c] at h
        cases h
/-! ### what fired, in the heap -/
/-- the list of what fired: tuples of the tick and a list of numbers -/
def FiredAt (r : Addr) (H : Hp) : List Addr → List (Nat × List Nat) → Prop
  | [], [] => True
  | t :: ts, f :: fs => (∃ u, H t = some (.tup [.int (f.1 : Nat), .ref u]) ∧ u ≠ r ∧ H u = some (.lst (f.2.map fun x => V.int (x : Nat)))) ∧ FiredAt r H ts fs
  | _, _ => False
theorem FiredAt.frame {r : Addr} {H H' : Hp} (s : ∀ t a u, H t = some (.tup [a, .ref u]) → H' t = some (.tup [a, .ref u])) (s2 : ∀ u (xs : List Nat), u ≠ r → H u = some (.lst (xs.map fun x => V.int (x : Nat))) → H' u = some (.lst (xs.map fun x => V.int (x : Nat)))) : ∀ {ts : List Addr} {fs : List (Nat × List Nat)}, FiredAt r H ts fs → FiredAt r H' ts fs
  | [], [], _ => trivial
  | _ :: _, _ :: _, ⟨⟨u, h1, hn, h2⟩, h3⟩ => ⟨⟨u, s _ _ _ h1, hn, s2 _ _ hn h2⟩, h3.frame s s2⟩
  | [], _ :: _, h => h.elim
  | _ :: _, [], h => h.elim
theorem FiredAt.same {r : Addr} {H H' : Hp} (s : Same H H') {ts : List Addr} {fs : List (Nat × List Nat)} (h : FiredAt r H ts fs) : FiredAt r H' ts fs := h.frame (fun _ _ _ e => s _ _ e) fun _ _ _ e => s _ _ e
theorem FiredAt.app {r : Addr} {H : Hp} {t : Addr} {f : Nat × List Nat} : ∀ {ts : List Addr} {fs : List (Nat × List Nat)}, FiredAt r H ts fs → (∃ u, H t = some (.tup [.int (f.1 : Nat), .ref u]) ∧ u ≠ r ∧ H u = some (.lst (f.2.map fun x => V.int (x : Nat)))) → FiredAt r H (ts ++ [t]) (fs ++ [f])
  | [], [], _, h => ⟨h, trivial⟩
  | _ :: _, _ :: _, h, h2 => ⟨h.1, h.2.app h2⟩
  | [], _ :: _, h, _ => h.elim
  | _ :: _, [], h, _ => h.elim
theorem FiredAt.len {r : Addr} {H : Hp} : ∀ {ts : List Addr} {fs : List (Nat × List Nat)}, FiredAt r H ts fs → ts.length = fs.length
  | [], [], _ => rfl
  | _ :: _, _ :: _, h => congrArg Nat.succ h.2.len
  | [], _ :: _, h => h.elim
  | _ :: _, [], h => h.elim
/-! ### periodic timers, tick after tick -/
/-- timer i fires first at D i, and then every P i ticks -/
def Fires (D P : Nat → Nat) (i x : Nat) : Prop := D i ≤ x ∧ (x - D i) % P i = 0
structure PInv (D P : Nat → Nat) (n t0 t : Nat) (ms : List Tm) : Prop where
  per : ∀ m ∈ ms, m.num < n ∧ m.per = some (P m.num) ∧ t < m.due ∧ m.since ≤ t ∧ Fires D P m.num m.due ∧ ((m.due = D m.num ∧ m.since = t0) ∨ (D m.num < m.due ∧ m.since + P m.num = m.due))
  all : ∀ i, i < n → ∃ m ∈ ms, m.num = i
  nd : (ms.map (·.num)).Nodup
  srt : ms.Pairwise fun a b => a.since ≤ b.since
theorem mod_add_self {x p : Nat} (h : x % p = 0) : (x + p) % p = 0 := by rw [Nat.add_mod_right]; exact h
/-- who is due at the next tick -/
theorem PInv.due {D P : Nat → Nat} {n t0 t x : Nat} {ms : List Tm} (hP : ∀ i, i < n → 1 ≤ P i) (h : PInv D P n t0 t ms) (hx : t < x) (hn : ∀ m ∈ ms, x ≤ m.due) {m : Tm} (hm : m ∈ ms) : m.due = x ↔ Fires D P m.num x := by
  obtain ⟨h1, h2, h3, h4, h5, h6⟩ := h.per m hm
  constructor
  · intro e
    rw [← e]
    exact h5
  · rintro ⟨f1, f2⟩
    have hge := hn m hm
    rcases h6 with ⟨e, _⟩ | ⟨e, es⟩
    · omega
    · refine Classical.byContradiction fun no => ?_
      have hp := hP m.num h1
      have lt : x < m.due := by omega
      have z : (m.due - x) % P m.num = 0 := by
        have e1 : m.due - D m.num = (x - D m.num) + (m.due - x) := by omega
        have z2 := h5.2
        rw [e1, Nat.add_mod, f2, Nat.zero_add, Nat.mod_mod] at z2
        exact z2
      have small : m.due - x < P m.num := by omega
      rw [Nat.mod_eq_of_lt small] at z
      omega
theorem PInv.step {D P : Nat → Nat} {n t0 t x : Nat} {b : Nat} {ws : List Bool} {ms : List Tm} (hP : ∀ i, i < n → 1 ≤ P i) (h : PInv D P n t0 t ms) (hx : t < x) (hn : ∀ m ∈ ms, x ≤ m.due) : PInv D P n t0 x (afterF x ms (orderAt b ws x ms)) := by
  rw [after_due h.nd]
  have mem : ∀ m, m ∈ ms.filter (fun m => decide (m.due ≠ x)) ++ (deq (fun m => sideT b ws m.since m.due 0) (ms.filter fun m => decide (m.due = x))).filterMap (againM x) → (m ∈ ms ∧ x < m.due) ∨ ∃ m0 ∈ ms, m0.due = x ∧ m = ⟨m0.num, x + P m0.num, some (P m0.num), x⟩ := fun m hm => by
    rcases List.mem_append.mp hm with z | z
    · obtain ⟨z1, z2⟩ := List.mem_filter.mp z
      have z3 : m.due ≠ x := of_decide_eq_true z2
      have := hn m z1
      exact .inl ⟨z1, by omega⟩
    · obtain ⟨m0, z1, z2⟩ := List.mem_filterMap.mp z
      obtain ⟨z3, z4⟩ := List.mem_filter.mp (mem_deq.mp z1)
      obtain ⟨k, k1, k2⟩ := again_of z2
      have k3 := (h.per m0 z3).2.1
      rw [k1] at k3
      rw [Option.some.inj k3] at k2
      exact .inr ⟨m0, z3, of_decide_eq_true z4, k2⟩
  refine ⟨fun m hm => ?_, fun i hi => ?_, ?_, ?_⟩
  · rcases mem m hm with ⟨z1, z2⟩ | ⟨m0, z1, z2, rfl⟩
    · obtain ⟨h1, h2, h3, h4, h5, h6⟩ := h.per m z1
      exact ⟨h1, h2, z2, by omega, h5, h6⟩
    · obtain ⟨h1, h2, h3, h4, h5, h6⟩ := h.per m0 z1
      have hp := hP m0.num h1
      rw [z2] at h5
      refine ⟨h1, rfl, (by show x < x + P m0.num; omega), Nat.le_refl _, ⟨(by show D m0.num ≤ x + P m0.num; have := h5.1; omega), ?_⟩, .inr ⟨(by show D m0.num < x + P m0.num; have := h5.1; omega), rfl⟩⟩
      show (x + P m0.num - D m0.num) % P m0.num = 0
      have e : x + P m0.num - D m0.num = (x - D m0.num) + P m0.num := by
        have := h5.1
        omega
      rw [e]
      exact mod_add_self h5.2
  · obtain ⟨m, hm, e⟩ := h.all i hi
    by_cases c : m.due = x
    · obtain ⟨h1, h2, _⟩ := h.per m hm
      have hk : againM x m = some ⟨m.num, x + P m.num, some (P m.num), x⟩ := by
        unfold againM
        rw [h2]
        rfl
      exact ⟨_, List.mem_append_right _ (List.mem_filterMap.mpr ⟨m, mem_deq.mpr (List.mem_filter.mpr ⟨hm, decide_eq_true c⟩), hk⟩), e⟩
    · exact ⟨m, List.mem_append_left _ (List.mem_filter.mpr ⟨hm, decide_eq_true c⟩), e⟩
  · have z := after_due (b := b) (ws := ws) (t := x) h.nd
    rw [← z]
    unfold afterF
    have all : ∀ (ns : List Nat) (l : List Tm), (l.map (·.num)).Nodup → ((ns.foldl (fireT x) l).map (·.num)).Nodup := by
      intro ns
      induction ns with
      | nil => exact fun l nd => nd
      | cons n ns ih => exact fun l nd => ih _ (fireN_nodup nd)
    exact all _ _ h.nd
  · rw [List.pairwise_append]
    refine ⟨h.srt.sublist List.filter_sublist, ?_, fun a ha c hc => ?_⟩
    · have all : ∀ a ∈ (deq (fun m => sideT b ws m.since m.due 0) (ms.filter fun m => decide (m.due = x))).filterMap (againM x), a.since = x := fun a ha => by
        obtain ⟨m0, _, z2⟩ := List.mem_filterMap.mp ha
        obtain ⟨k, _, k2⟩ := again_of z2
        rw [k2]
      refine List.Pairwise.imp_of_mem (R := fun _ _ => True) (fun {a c} ha hc _ => ?_) (List.pairwise_of_forall fun _ _ => trivial)
      rw [all a ha, all c hc]
      exact Nat.le_refl _
    · obtain ⟨m0, _, z2⟩ := List.mem_filterMap.mp hc
      obtain ⟨k, _, k2⟩ := again_of z2
      have ha' := (List.mem_filter.mp ha).1
      have := (h.per a ha').2.2.2.1
      rw [k2]
      show a.since ≤ x
      omega
/-- no one is due up to x -/
theorem PInv.wait {D P : Nat → Nat} {n t0 t x : Nat} {ms : List Tm} (h : PInv D P n t0 t ms) (hx : t ≤ x) (hn : ∀ m ∈ ms, x < m.due) : PInv D P n t0 x ms := ⟨fun m hm => by
  obtain ⟨h1, h2, h3, h4, h5, h6⟩ := h.per m hm
  exact ⟨h1, h2, hn m hm, by omega, h5, h6⟩, h.all, h.nd, h.srt⟩
/-- all that fires up to a last tick: each row is the order of those that are due there -/
theorem per_run {D P : Nat → Nat} {n t0 : Nat} {b : Nat} {ws : List Bool} (last : Nat) (hlast : ∀ i, i < n → last + P i < 2 ^ 250) (hP : ∀ i, i < n → 1 ≤ P i) : ∀ (k t : Nat) (ms : List Tm), last - t ≤ k → t ≤ last → PInv D P n t0 t ms → (∀ m ∈ ms, m.due < 2 ^ 250) → ms.length ≤ 1000 →
    ∃ fs ms', AdvTo b ws last ms fs ms' ∧ fs.length ≤ last - t ∧ (∀ f ∈ fs, t < f.1 ∧ f.1 ≤ last ∧ ∃ (u : Nat) (msi : List Tm), PInv D P n t0 u msi ∧ u < f.1 ∧ (∀ m ∈ msi, f.1 ≤ m.due) ∧ f.2 = orderAt b ws f.1 msi) ∧ (∀ x, t < x → x ≤ last → (∀ f ∈ fs, f.1 ≠ x) → ∀ i, i < n → ¬ Fires D P i x)
  | 0, t, ms, hk, ht, h, _, _ => by
    have e : t = last := by omega
    refine ⟨[], ms, .done fun m hm => ?_, Nat.zero_le _, (fun f hf => by cases hf), fun x h1 h2 => by omega⟩
    rw [← e]
    exact (h.per m hm).2.2.1
  | k + 1, t, ms, hk, ht, h, hbig, hfew => by
    cases hl : leastD ms with
    | none =>
      have e := least_none.mp hl
      refine ⟨[], ms, .done fun m hm => ?_, Nat.zero_le _, (fun f hf => by cases hf), fun x h1 h2 _ i hi => ?_⟩
      · rw [e] at hm
        cases hm
      · obtain ⟨m, hm, _⟩ := h.all i hi
        rw [e] at hm
        cases hm
    | some v =>
      obtain ⟨hv1, hv2⟩ := least_some.mp hl
      have hge : ∀ m ∈ ms, v ≤ m.due := fun m hm => hv2 _ (List.mem_map.mpr ⟨m, hm, rfl⟩)
      obtain ⟨mv, hmv, emv⟩ := List.mem_map.mp hv1
      have htv : t < v := by
        rw [← emv]
        exact (h.per mv hmv).2.2.1
      by_cases c : v ≤ last
      · have h' := h.step (b := b) (ws := ws) hP htv hge
        have hbig' : ∀ m ∈ afterF v ms (orderAt b ws v ms), m.due < 2 ^ 250 := fun m hm => by
          rw [after_due h.nd] at hm
          rcases List.mem_append.mp hm with z | z
          · exact hbig m (List.mem_filter.mp z).1
          · obtain ⟨m0, z1, z2⟩ := List.mem_filterMap.mp z
            obtain ⟨z3, _⟩ := List.mem_filter.mp (mem_deq.mp z1)
            obtain ⟨j, k1, k2⟩ := again_of z2
            have k3 := (h.per m0 z3).2.1
            rw [k1] at k3
            have := hlast m0.num (h.per m0 z3).1
            rw [k2]
            show v + j < _
            rw [Option.some.inj k3]
            omega
        have hfew' : (afterF v ms (orderAt b ws v ms)).length ≤ 1000 := by
          have z := nodup_le ((afterF v ms (orderAt b ws v ms)).map (·.num)) (ms.map (·.num)) h'.nd fun i hi => by
            obtain ⟨m, hm, e⟩ := List.mem_map.mp hi
            obtain ⟨m2, hm2, e2⟩ := h.all i (by rw [← e]; exact (h'.per m hm).1)
            exact List.mem_map.mpr ⟨m2, hm2, e2⟩
          rw [List.length_map, List.length_map] at z
          omega
        obtain ⟨fs, ms', a1, a2, a3, a4⟩ := per_run last hlast hP k v _ (by omega) c h' hbig' hfew'
        refine ⟨(v, orderAt b ws v ms) :: fs, ms', .step hl c (fun m hm => ⟨?_, hbig m hm⟩) h.nd hfew a1, ?_, fun f hf => ?_, fun x h1 h2 h3 i hi => ?_⟩
        · have := h.per m hm
          omega
        · rw [List.length_cons]
          omega
        · rcases List.mem_cons.mp hf with e | hf
          · rw [e]
            exact ⟨htv, c, t, ms, h, htv, hge, rfl⟩
          · obtain ⟨b1, b2, b3⟩ := a3 f hf
            exact ⟨by omega, b2, b3⟩
        · have nv : v ≠ x := h3 _ (List.mem_cons_self ..)
          by_cases cx : x < v
          · intro hf
            obtain ⟨m, hm, e⟩ := h.all i hi
            have z := h.due hP h1 (fun m hm => Nat.le_trans (Nat.le_of_lt cx) (hge m hm)) hm
            rw [e] at z
            have := z.mpr hf
            have := hge m hm
            omega
          · exact a4 x (by omega) h2 (fun f hf => h3 f (List.mem_cons_of_mem _ hf)) i hi
      · refine ⟨[], ms, .done fun m hm => ?_, Nat.zero_le _, (fun f hf => by cases hf), fun x h1 h2 _ i hi hf => ?_⟩
        · have := hge m hm
          omega
        · obtain ⟨m, hm, e⟩ := h.all i hi
          have z := h.due hP h1 (fun m hm => Nat.le_trans (by omega) (hge m hm)) hm
          rw [e] at z
          have := z.mpr hf
          have := hge m hm
          omega
/-! ### two periodic timers at a tick at which both fire again -/
theorem ahead_eq {b : Nat} {ws : List Bool} {p1 p2 d : Nat} {v : Bool} (hb : 2 ≤ b) (h1 : 1 ≤ p1) (h2 : 1 ≤ p2) (l1 : p1 ≤ d) (l2 : p2 ≤ d) (h : IsAhead b ws p1 p2 d v) : v = if p1 < p2 then sideT b ws (d - p1) d 0 else !sideT b ws (d - p2) d 0 := by
  by_cases c : p1 < p2
  · have hk := levT_is (b := b) (n := d - p1) (d := d) hb (by omega)
    rw [if_pos c, sideT_eq hk]
    exact h.1 c _ hk
  · have hk := levT_is (b := b) (n := d - p2) (d := d) hb (by omega)
    rw [if_neg c, sideT_eq hk]
    exact h.2 c _ hk
theorem PInv.since {D P : Nat → Nat} {n t0 t x : Nat} {ms : List Tm} (hP : ∀ i, i < n → 1 ≤ P i) (h : PInv D P n t0 t ms) {m : Tm} (hm : m ∈ ms) (hd : m.due = x) (ha : D m.num + P m.num ≤ x) : m.since = x - P m.num ∧ P m.num ≤ x := by
  obtain ⟨h1, _, _, _, _, h6⟩ := h.per m hm
  have hp := hP m.num h1
  rcases h6 with ⟨e, _⟩ | ⟨_, e⟩
  · omega
  · omega
theorem deq_two (f : Tm → Bool) (a c : Tm) : deq f [a, c] = if f c = true then [c, a] else [a, c] := by
  have e := deq_snoc f [a] c
  have e1 : deq f [a] = [a] := by
    have z := deq_snoc f [] a
    rw [List.nil_append] at z
    rw [z]
    unfold insM
    split <;> rfl
  rw [e1] at e
  show deq f ([a] ++ [c]) = _
  rw [e]
  unfold insM
  split <;> rfl
theorem per_two {D P : Nat → Nat} {t0 t x : Nat} {b : Nat} {ws : List Bool} {ms : List Tm} (hP : ∀ i, i < 2 → 1 ≤ P i) (h : PInv D P 2 t0 t ms) (hne : P 0 ≠ P 1) (h0 : 0 ∈ orderAt b ws x ms) (h1 : 1 ∈ orderAt b ws x ms) (a0 : D 0 + P 0 ≤ x) (a1 : D 1 + P 1 ≤ x) :
    orderAt b ws x ms = if P 0 < P 1 then (if sideT b ws (x - P 0) x 0 = true then [0, 1] else [1, 0]) else (if sideT b ws (x - P 1) x 0 = true then [1, 0] else [0, 1]) := by
  rw [order_deq]
  rw [order_deq] at h0 h1
  generalize el : ms.filter (fun m => decide (m.due = x)) = l at h0 h1 ⊢
  have mem : ∀ m ∈ l, m ∈ ms ∧ m.due = x := fun m hm => by
    rw [← el] at hm
    obtain ⟨z1, z2⟩ := List.mem_filter.mp hm
    exact ⟨z1, of_decide_eq_true z2⟩
  have nd : (l.map (·.num)).Nodup := by
    rw [← el]
    exact h.nd.sublist (List.Sublist.map _ List.filter_sublist)
  have srt : l.Pairwise fun a b => a.since ≤ b.since := by
    rw [← el]
    exact h.srt.sublist List.filter_sublist
  have n0 : ∃ m ∈ l, m.num = 0 := by
    obtain ⟨m, hm, e⟩ := List.mem_map.mp h0
    exact ⟨m, mem_deq.mp hm, e⟩
  have n1 : ∃ m ∈ l, m.num = 1 := by
    obtain ⟨m, hm, e⟩ := List.mem_map.mp h1
    exact ⟨m, mem_deq.mp hm, e⟩
  have lt : ∀ m ∈ l, m.num < 2 := fun m hm => (h.per m (mem m hm).1).1
  have sn : ∀ m ∈ l, m.since = x - P m.num ∧ P m.num ≤ x := fun m hm => by
    have z := lt m hm
    have y : m.num = 0 ∨ m.num = 1 := by omega
    refine h.since hP (mem m hm).1 (mem m hm).2 ?_
    rcases y with e | e <;> rw [e] <;> assumption
  have p0 := hP 0 (by decide)
  have p1 := hP 1 (by decide)
  match l, n0, n1, nd, srt, lt, sn, mem with
  | [], n0, _, _, _, _, _, _ =>
    obtain ⟨m, hm, _⟩ := n0
    cases hm
  | [a], n0, n1, _, _, _, _, _ =>
    obtain ⟨m, hm, e⟩ := n0
    obtain ⟨m', hm', e'⟩ := n1
    rw [List.mem_singleton.mp hm] at e
    rw [List.mem_singleton.mp hm', e] at e'
    cases e'
  | [a, c], n0, n1, nd, srt, lt, sn, mem =>
    have ha := sn a (by simp)
    have hc := sn c (by simp)
    have la := lt a (by simp)
    have lc := lt c (by simp)
    have da := (mem a (by simp)).2
    have dc := (mem c (by simp)).2
    have hac : a.num ≠ c.num := by
      rw [List.map_cons, List.map_cons, List.nodup_cons] at nd
      exact fun z => nd.1 (by rw [z]; exact List.mem_cons_self ..)
    have hs : a.since ≤ c.since := by
      rw [List.pairwise_cons] at srt
      exact srt.1 c (List.mem_singleton.mpr rfl)
    rw [deq_two, hc.1, dc]
    have y : a.num = 0 ∨ a.num = 1 := by omega
    rcases y with e | e
    · have e' : c.num = 1 := by omega
      rw [ha.1, hc.1, e, e'] at hs
      have c1 : ¬ P 0 < P 1 := by
        have u1 := ha.2
        have u2 := hc.2
        rw [e] at u1
        rw [e'] at u2
        omega
      rw [if_neg c1, e']
      split <;> simp [e, e']
    · have e' : c.num = 0 := by omega
      rw [ha.1, hc.1, e, e'] at hs
      have c1 : P 0 < P 1 := by
        have u1 := ha.2
        have u2 := hc.2
        rw [e] at u1
        rw [e'] at u2
        omega
      rw [if_pos c1, e']
      split <;> simp [e, e']
  | a :: c :: d :: r, _, _, nd, _, lt, _, _ =>
    exfalso
    have la := lt a (by simp)
    have lc := lt c (by simp)
    have ld := lt d (by simp)
    simp only [List.map_cons, List.nodup_cons, List.mem_cons, not_or] at nd
    omega
theorem FiredAt.item {r : Addr} {H : Hp} : ∀ {ts : List Addr} {fs : List (Nat × List Nat)} {i : Nat} {x : V}, FiredAt r H ts fs → (ts.map V.ref)[i]? = some x → ∃ t f u, x = .ref t ∧ fs[i]? = some f ∧ H t = some (.tup [.int (f.1 : Nat), .ref u]) ∧ u ≠ r ∧ H u = some (.lst (f.2.map fun x => V.int (x : Nat)))
  | t :: ts, f :: fs, 0, x, h, e => by
    obtain ⟨u, h1, h2, h3⟩ := h.1
    exact ⟨t, f, u, (Option.some.inj e).symm, rfl, h1, h2, h3⟩
  | t :: ts, f :: fs, i + 1, x, h, e => h.2.item (i := i) e
  | [], [], _, _, _, e => by cases e
  | [], _ :: _, _, _, h, _ => h.elim
  | _ :: _, [], _, _, h, _ => h.elim
/-! ### many periodic timers at a tick at which all that fire fire again -/
def dOf (prs : List (Nat × Nat)) (i : Nat) : Nat := (prs.getD i (0, 1)).1
def pOf (prs : List (Nat × Nat)) (i : Nat) : Nat := (prs.getD i (0, 1)).2
theorem dOf_get {prs : List (Nat × Nat)} {i : Nat} {r : Nat × Nat} (h : prs[i]? = some r) : dOf prs i = r.1 := by
  unfold dOf
  rw [List.getD_eq_getElem?_getD, h]
  rfl
theorem pOf_get {prs : List (Nat × Nat)} {i : Nat} {r : Nat × Nat} (h : prs[i]? = some r) : pOf prs i = r.2 := by
  unfold pOf
  rw [List.getD_eq_getElem?_getD, h]
  rfl
theorem per_uniq {prs : List (Nat × Nat)} (hnd : (prs.map (·.2)).Nodup) {i j : Nat} (hi : i < prs.length) (hj : j < prs.length) (e : pOf prs i = pOf prs j) : i = j := by
  have h1 : (prs.map (·.2))[i]? = some (pOf prs i) := by
    rw [List.getElem?_map, List.getElem?_eq_getElem hi, pOf_get (List.getElem?_eq_getElem hi)]
    rfl
  have h2 : (prs.map (·.2))[j]? = some (pOf prs j) := by
    rw [List.getElem?_map, List.getElem?_eq_getElem hj, pOf_get (List.getElem?_eq_getElem hj)]
    rfl
  refine (List.getElem?_inj (by rw [List.length_map]; exact hi) hnd).mp ?_
  rw [h1, h2, e]
/-- timers put at n in any order -/
def mkP (prs : List (Nat × Nat)) (n : Nat) (j : Nat) : Tm := ⟨j, dOf prs j, some (pOf prs j), n⟩
theorem pinv_many {prs : List (Nat × Nat)} {n : Nat} {ord : List Nat} (ho : ord.Perm (List.range prs.length)) (hd : ∀ r ∈ prs, n < r.1) : PInv (dOf prs) (pOf prs) prs.length n n (ord.map (mkP prs n)) := by
  have lt : ∀ j ∈ ord, j < prs.length := fun j hj => List.mem_range.mp (ho.mem_iff.mp hj)
  refine ⟨fun m hm => ?_, fun i hi => ?_, ?_, ?_⟩
  · obtain ⟨j, hj, rfl⟩ := List.mem_map.mp hm
    have hg := List.getElem?_eq_getElem (lt j hj)
    have h1 : n < dOf prs j := by
      rw [dOf_get hg]
      exact hd _ (List.getElem_mem _)
    refine ⟨lt j hj, rfl, h1, Nat.le_refl _, ⟨Nat.le_refl _, ?_⟩, .inl ⟨rfl, rfl⟩⟩
    show (dOf prs j - dOf prs j) % _ = 0
    rw [Nat.sub_self, Nat.zero_mod]
  · exact ⟨mkP prs n i, List.mem_map.mpr ⟨i, ho.mem_iff.mpr (List.mem_range.mpr hi), rfl⟩, rfl⟩
  · rw [List.map_map]
    have e : ord.map ((fun m : Tm => m.num) ∘ mkP prs n) = ord := by
      have z : ord.map ((fun m : Tm => m.num) ∘ mkP prs n) = ord.map id := List.map_congr_left fun _ _ => rfl
      rw [z, List.map_id]
    rw [e]
    exact ho.nodup_iff.mpr List.nodup_range
  · rw [List.pairwise_map]
    exact List.pairwise_of_forall fun _ _ => Nat.le_refl _
/-! ### periodic timers of a wheel among others: the mathematics -/
/-- timers that a table numbers anew, all others left out -/
def prj (g : Nat → Option Nat) (m : Tm) : Option Tm := (g m.num).map fun k => ⟨k, m.due, m.per, m.since⟩
def projT (g : Nat → Option Nat) (ms : List Tm) : List Tm := ms.filterMap (prj g)
theorem prj_some {g : Nat → Option Nat} {m z : Tm} : prj g m = some z ↔ ∃ k, g m.num = some k ∧ z = ⟨k, m.due, m.per, m.since⟩ := by
  unfold prj
  cases g m.num with
  | none => simp
  | some k => simp [eq_comm]
theorem proj_mem {g : Nat → Option Nat} {ms : List Tm} {z : Tm} : z ∈ projT g ms ↔ ∃ m ∈ ms, ∃ k, g m.num = some k ∧ z = ⟨k, m.due, m.per, m.since⟩ := by
  unfold projT
  rw [List.mem_filterMap]
  constructor
  · rintro ⟨m, hm, e⟩
    exact ⟨m, hm, prj_some.mp e⟩
  · rintro ⟨m, hm, e⟩
    exact ⟨m, hm, prj_some.mpr e⟩
theorem proj_app (g : Nat → Option Nat) (a c : List Tm) : projT g (a ++ c) = projT g a ++ projT g c := List.filterMap_append ..
theorem proj_filter {g : Nat → Option Nat} {p : Tm → Bool} (hp : ∀ (m : Tm) (k : Nat), p ⟨k, m.due, m.per, m.since⟩ = p m) (ms : List Tm) : projT g (ms.filter p) = (projT g ms).filter p := by
  unfold projT
  rw [List.filterMap_filter, List.filter_filterMap]
  congr 1
  funext m
  unfold prj
  cases h : g m.num with
  | none =>
    cases p m <;> rfl
  | some k =>
    show _ = (some (⟨k, m.due, m.per, m.since⟩ : Tm)).filter p
    have e := hp m k
    cases h2 : p m with
    | false => simp [Option.filter_some, e, h2]
    | true => simp [Option.filter_some, e, h2]
theorem proj_deq {g : Nat → Option Nat} {f : Tm → Bool} (hf : ∀ (m : Tm) (k : Nat), f ⟨k, m.due, m.per, m.since⟩ = f m) (l : List Tm) : projT g (deq f l) = deq f (projT g l) := by
  unfold deq
  have e1 := proj_filter (g := g) hf l
  have e2 := proj_filter (g := g) (p := fun m => !f m) (fun m k => by rw [hf]) l
  unfold projT at e1 e2 ⊢
  rw [List.filterMap_append, List.filterMap_reverse, e1, e2]
theorem proj_num (g : Nat → Option Nat) (ms : List Tm) : (projT g ms).map (·.num) = (ms.map (·.num)).filterMap g := by
  unfold projT
  rw [List.map_filterMap, List.filterMap_map]
  congr 1
  funext m
  show (prj g m).map (·.num) = g m.num
  unfold prj
  cases g m.num <;> rfl
theorem proj_order (b : Nat) (ws : List Bool) (x : Nat) (g : Nat → Option Nat) (ms : List Tm) : orderAt b ws x (projT g ms) = (orderAt b ws x ms).filterMap g := by
  rw [order_deq, order_deq, ← proj_filter (p := fun m => decide (m.due = x)) (fun m k => rfl), ← proj_deq (fun m k => rfl), proj_num]
theorem proj_again (x : Nat) (g : Nat → Option Nat) (l : List Tm) : (projT g l).filterMap (againM x) = projT g (l.filterMap (againM x)) := by
  unfold projT
  rw [List.filterMap_filterMap, List.filterMap_filterMap]
  congr 1
  funext m
  unfold prj againM
  cases h : g m.num with
  | none =>
    cases m.per with
    | none => rfl
    | some p => simp [h]
  | some k =>
    cases m.per with
    | none => rfl
    | some p => simp [h]
theorem proj_after {b : Nat} {ws : List Bool} {x : Nat} {g : Nat → Option Nat} {ms : List Tm} (nd : (ms.map (·.num)).Nodup) (nd2 : ((projT g ms).map (·.num)).Nodup) :
    projT g (afterF x ms (orderAt b ws x ms)) = afterF x (projT g ms) (orderAt b ws x (projT g ms)) := by
  rw [after_due nd, after_due nd2, proj_app, proj_filter (fun m k => rfl), ← proj_again, proj_deq (fun m k => rfl), proj_filter (fun m k => rfl)]
/-- the numbers of a row: those due at a tick, in their order -/
def RowK (D P : Nat → Nat) (n b : Nat) (ws : List Bool) (x : Nat) (ks : List Nat) : Prop := ∃ (t0 u : Nat) (msi : List Tm), PInv D P n t0 u msi ∧ u < x ∧ (∀ m ∈ msi, x ≤ m.due) ∧ ks = orderAt b ws x msi
/-- rows of the ticks behind lo up to hi -/
structure RowsK (D P : Nat → Nat) (n b : Nat) (ws : List Bool) (lo hi : Nat) (rows : List (Nat × List Nat)) : Prop where
  asc : rows.Pairwise fun a c => a.1 < c.1
  row : ∀ f ∈ rows, lo < f.1 ∧ f.1 ≤ hi ∧ RowK D P n b ws f.1 f.2
  all : ∀ x, lo < x → x ≤ hi → (∀ f ∈ rows, f.1 ≠ x) → ∀ i, i < n → ¬ Fires D P i x
theorem RowsK.nil {D P : Nat → Nat} {n b t : Nat} {ws : List Bool} : RowsK D P n b ws t t [] := ⟨List.Pairwise.nil, fun f hf => absurd hf List.not_mem_nil, fun x h1 h2 => by omega⟩
theorem RowsK.app {D P : Nat → Nat} {n b lo mid hi : Nat} {ws : List Bool} {rs qs : List (Nat × List Nat)} (h : RowsK D P n b ws lo mid rs) (h2 : RowsK D P n b ws mid hi qs) (l1 : lo ≤ mid) (l2 : mid ≤ hi) : RowsK D P n b ws lo hi (rs ++ qs) := by
  refine ⟨List.pairwise_append.mpr ⟨h.asc, h2.asc, fun a ha c hc => ?_⟩, fun f hf => ?_, fun x h3 h4 h5 => ?_⟩
  · have z1 := (h.row a ha).2.1
    have z2 := (h2.row c hc).1
    omega
  · rcases List.mem_append.mp hf with hf | hf
    · obtain ⟨z1, z2, z3⟩ := h.row f hf
      exact ⟨z1, by omega, z3⟩
    · obtain ⟨z1, z2, z3⟩ := h2.row f hf
      exact ⟨by omega, z2, z3⟩
  · rcases Nat.lt_or_ge mid x with l | l
    · exact h2.all x l h4 fun f hf => h5 f (List.mem_append_right _ hf)
    · exact h.all x h3 l fun f hf => h5 f (List.mem_append_left _ hf)
theorem proj_run {D P : Nat → Nat} {n t0 b last : Nat} {ws : List Bool} {g : Nat → Option Nat} (hP : ∀ i, i < n → 1 ≤ P i) {ms ms' : List Tm} {fs : List (Nat × List Nat)} (h : AdvTo b ws last ms fs ms') : ∀ t, t ≤ last → PInv D P n t0 t (projT g ms) → (∀ m ∈ ms, t < m.due ∧ ∀ k, m.per = some k → 1 ≤ k) →
    RowsK D P n b ws t last (fs.map fun f => (f.1, f.2.filterMap g)) ∧ PInv D P n t0 last (projT g ms') ∧ ∀ m ∈ ms', last < m.due ∧ ∀ k, m.per = some k → 1 ≤ k := by
  induction h with
  | done hd =>
    intro t ht hI hm
    refine ⟨⟨List.Pairwise.nil, fun f hf => absurd hf List.not_mem_nil, fun x h1 h2 _ i hi hf => ?_⟩, hI.wait ht fun m hm2 => ?_, fun m hm2 => ⟨hd m hm2, (hm m hm2).2⟩⟩
    · obtain ⟨m, hm3, e⟩ := hI.all i hi
      obtain ⟨m0, hm0, k, _, ek⟩ := proj_mem.mp hm3
      have z := (hI.due hP h1 (fun m' hm' => by
        obtain ⟨m1, hm1, k1, _, e1⟩ := proj_mem.mp hm'
        have := hd m1 hm1
        rw [e1]
        show x ≤ m1.due
        omega) hm3).mpr (by rw [e]; exact hf)
      have := hd m0 hm0
      rw [ek] at z
      have z2 : m0.due = x := z
      omega
    · obtain ⟨m0, hm0, k, _, ek⟩ := proj_mem.mp hm2
      rw [ek]
      exact hd m0 hm0
  | @step ms ms' v rest hl hle ok nd few r ih =>
    intro t ht hI hm
    obtain ⟨hv1, hv2⟩ := least_some.mp hl
    have hge : ∀ m ∈ ms, v ≤ m.due := fun m hm => hv2 _ (List.mem_map.mpr ⟨m, hm, rfl⟩)
    obtain ⟨mv, hmv, emv⟩ := List.mem_map.mp hv1
    have htv : t < v := by
      rw [← emv]
      exact (hm mv hmv).1
    have hge2 : ∀ m ∈ projT g ms, v ≤ m.due := fun m hm2 => by
      obtain ⟨m0, hm0, k, _, ek⟩ := proj_mem.mp hm2
      rw [ek]
      exact hge m0 hm0
    have hS := hI.step (b := b) (ws := ws) hP htv hge2
    rw [← proj_after nd hI.nd] at hS
    have hm' : ∀ m ∈ afterF v ms (orderAt b ws v ms), v < m.due ∧ ∀ k, m.per = some k → 1 ≤ k := fun m hm2 => by
      rw [after_due nd] at hm2
      rcases List.mem_append.mp hm2 with z | z
      · obtain ⟨z1, z2⟩ := List.mem_filter.mp z
        have z3 : m.due ≠ v := of_decide_eq_true z2
        have := hge m z1
        exact ⟨by omega, (hm m z1).2⟩
      · obtain ⟨m0, z1, z2⟩ := List.mem_filterMap.mp z
        obtain ⟨z3, _⟩ := List.mem_filter.mp (mem_deq.mp z1)
        obtain ⟨k, k1, k2⟩ := again_of z2
        have := (hm m0 z3).2 k k1
        rw [k2]
        exact ⟨by show v < v + k; omega, fun j hj => by
          have hj2 : some k = some j := hj
          rw [← Option.some.inj hj2]
          exact this⟩
    obtain ⟨i1, i2, i3⟩ := ih v hle hS hm'
    refine ⟨⟨?_, fun f hf => ?_, fun x h1 h2 h3 i hi => ?_⟩, i2, i3⟩
    · rw [List.map_cons, List.pairwise_cons]
      exact ⟨fun f hf => (i1.row f hf).1, i1.asc⟩
    · rw [List.map_cons] at hf
      rcases List.mem_cons.mp hf with e | hf
      · rw [e]
        exact ⟨htv, hle, t0, t, _, hI, htv, hge2, (proj_order b ws v g ms).symm⟩
      · obtain ⟨z1, z2, z3⟩ := i1.row f hf
        exact ⟨by omega, z2, z3⟩
    · have nv : v ≠ x := h3 _ (List.mem_cons_self ..)
      rcases Nat.lt_or_ge v x with l | l
      · exact i1.all x l h2 (fun f hf => h3 f (List.mem_cons_of_mem _ hf)) i hi
      · intro hf
        obtain ⟨m, hm3, e⟩ := hI.all i hi
        have z := (hI.due hP h1 (fun m' hm' => Nat.le_trans l (hge2 m' hm')) hm3).mpr (by rw [e]; exact hf)
        have := hge2 m hm3
        omega
theorem RowK.mem {D P : Nat → Nat} {n b x : Nat} {ws : List Bool} {ks : List Nat} (hP : ∀ i, i < n → 1 ≤ P i) (h : RowK D P n b ws x ks) {k : Nat} : k ∈ ks ↔ k < n ∧ Fires D P k x := by
  obtain ⟨t0, u, msi, hI, hu, hge, rfl⟩ := h
  rw [order_mem]
  constructor
  · rintro ⟨m, hm, e1, e2⟩
    obtain ⟨h1, _, _, _, h5, _⟩ := hI.per m hm
    rw [e1] at h5
    rw [← e2]
    exact ⟨h1, h5⟩
  · rintro ⟨hk, hf⟩
    obtain ⟨m, hm, e⟩ := hI.all k hk
    exact ⟨m, hm, (hI.due hP hu hge hm).mpr (by rw [e]; exact hf), e⟩
theorem RowK.nd {D P : Nat → Nat} {n b x : Nat} {ws : List Bool} {ks : List Nat} (h : RowK D P n b ws x ks) : ks.Nodup := by
  obtain ⟨t0, u, msi, hI, hu, hge, rfl⟩ := h
  rw [order_deq]
  refine ((deq_perm _ _).map _).nodup_iff.mpr ?_
  exact hI.nd.sublist (List.Sublist.map _ List.filter_sublist)
theorem fr_side {b n d : Nat} {ws : List Bool} (hb : 2 ≤ b) (h : n < d) : frB ws b n d = sideT b ws n d 0 := by
  have hk := levT_is (b := b) hb h
  rw [frB_eq hk, sideT_eq hk]
/-- of two that fired before, the one that stands first goes ahead -/
theorem RowK.pair {D P : Nat → Nat} {n b x : Nat} {ws : List Bool} {ks : List Nat} (hb : 2 ≤ b) (hP : ∀ i, i < n → 1 ≤ P i) (hne : ∀ i j, i < n → j < n → P i = P j → i = j) (h : RowK D P n b ws x ks) :
    ks.Pairwise fun i j => D i + P i ≤ x → D j + P j ≤ x → ahB ws b (P i) (P j) x = true := by
  obtain ⟨t0, u, msi, hI, hu, hge, rfl⟩ := h
  rw [order_deq, List.pairwise_map]
  obtain ⟨l, el⟩ : ∃ l, l = msi.filter fun m => decide (m.due = x) := ⟨_, rfl⟩
  rw [← el]
  have mem : ∀ m ∈ l, m ∈ msi ∧ m.due = x := fun m hm => by
    rw [el] at hm
    obtain ⟨z1, z2⟩ := List.mem_filter.mp hm
    exact ⟨z1, of_decide_eq_true z2⟩
  have nd : l.Pairwise fun a c => a.num ≠ c.num := by
    rw [el]
    exact List.pairwise_map.mp (hI.nd.sublist (List.Sublist.map _ List.filter_sublist))
  have srt : l.Pairwise fun a c => a.since ≤ c.since := by
    rw [el]
    exact hI.srt.sublist List.filter_sublist
  have sn : ∀ m ∈ l, D m.num + P m.num ≤ x → m.since = x - P m.num ∧ P m.num ≤ x := fun m hm ha => hI.since hP (mem m hm).1 (mem m hm).2 ha
  have lt : ∀ m ∈ l, m.num < n := fun m hm => (hI.per m (mem m hm).1).1
  have fr : ∀ m ∈ l, D m.num + P m.num ≤ x → frB ws b (x - P m.num) x = sideT b ws m.since m.due 0 := fun m hm ha => by
    have z := sn m hm ha
    have hp := hP _ (lt m hm)
    rw [fr_side hb (by omega), z.1, (mem m hm).2]
  have big := srt.and nd
  have strict : ∀ a c : Tm, a ∈ l → c ∈ l → a.since ≤ c.since → a.num ≠ c.num → D a.num + P a.num ≤ x → D c.num + P c.num ≤ x → P c.num < P a.num := fun a c ha hc h1 h2 h3 h4 => by
    have z1 := sn a ha h3
    have z2 := sn c hc h4
    have z3 : P a.num ≠ P c.num := fun e => h2 (hne _ _ (lt a ha) (lt c hc) e)
    omega
  unfold deq
  rw [List.pairwise_append, List.pairwise_reverse]
  refine ⟨?_, ?_, fun a ha c hc => ?_⟩
  · refine ((big.sublist List.filter_sublist).imp_of_mem) fun {c a} hc ha hh h1 h2 => ?_
    obtain ⟨a1, a2⟩ := List.mem_filter.mp ha
    obtain ⟨c1, c2⟩ := List.mem_filter.mp hc
    have z := strict c a c1 a1 hh.1 hh.2 h2 h1
    unfold ahB
    rw [if_pos z, fr a a1 h1]
    exact a2
  · refine ((big.sublist List.filter_sublist).imp_of_mem) fun {a c} ha hc hh h1 h2 => ?_
    obtain ⟨a1, a2⟩ := List.mem_filter.mp ha
    obtain ⟨c1, c2⟩ := List.mem_filter.mp hc
    have z := strict a c a1 c1 hh.1 hh.2 h1 h2
    unfold ahB
    rw [if_neg (by omega), fr c c1 h2]
    exact c2
  · intro h1 h2
    obtain ⟨a1, a2⟩ := List.mem_filter.mp (List.mem_reverse.mp ha)
    obtain ⟨c1, c2⟩ := List.mem_filter.mp hc
    unfold ahB
    by_cases z : P a.num < P c.num
    · rw [if_pos z, fr a a1 h1]
      exact a2
    · rw [if_neg z, fr c c1 h2]
      exact c2
/-- the numbers of a row that fired before -/
def againK (D P : Nat → Nat) (x : Nat) (ks : List Nat) : List Nat := ks.filter fun k => decide (D k + P k ≤ x)
/-- whether the one goes ahead of the other, each of them not for the first time -/
def befK (D P : Nat → Nat) (j k : Nat) (f : Nat × List Nat) : Bool := decide (j ∈ againK D P f.1 f.2 ∧ k ∈ againK D P f.1 f.2 ∧ (againK D P f.1 f.2).idxOf j < (againK D P f.1 f.2).idxOf k)
theorem pair_idx {R : Nat → Nat → Prop} : ∀ {l : List Nat}, l.Pairwise R → ∀ {j k : Nat}, j ∈ l → k ∈ l → l.idxOf j < l.idxOf k → R j k
  | [], _, _, _, hj, _, _ => absurd hj List.not_mem_nil
  | a :: l, h, j, k, hj, hk, hlt => by
    obtain ⟨h1, h2⟩ := List.pairwise_cons.mp h
    by_cases ej : a = j
    · subst ej
      by_cases ek : a = k
      · subst ek
        exact absurd hlt (Nat.lt_irrefl _)
      · rcases List.mem_cons.mp hk with e | hk
        · exact absurd e.symm ek
        · exact h1 k hk
    · by_cases ek : a = k
      · subst ek
        rw [List.idxOf_cons_self] at hlt
        exact absurd hlt (Nat.not_lt_zero _)
      · have q : ∀ {i : Nat}, ¬ a = i → (a :: l).idxOf i = l.idxOf i + 1 := fun {i} e => by
          rw [List.idxOf_cons, beq_false_of_ne e]
          rfl
        rw [q ej, q ek] at hlt
        refine pair_idx h2 ?_ ?_ (by omega)
        · rcases List.mem_cons.mp hj with e | hj
          · exact absurd e.symm ej
          · exact hj
        · rcases List.mem_cons.mp hk with e | hk
          · exact absurd e.symm ek
          · exact hk
theorem idx_ne {l : List Nat} {j k : Nat} (hj : j ∈ l) (hk : k ∈ l) (h : j ≠ k) : l.idxOf j ≠ l.idxOf k := fun e => by
  have z1 := List.getElem_idxOf (List.idxOf_lt_length_of_mem hj)
  have z2 := List.getElem_idxOf (List.idxOf_lt_length_of_mem hk)
  simp only [e] at z1
  exact h (z1.symm.trans z2)
theorem RowK.bef {D P : Nat → Nat} {n b x : Nat} {ws : List Bool} {ks : List Nat} (hb : 2 ≤ b) (hP : ∀ i, i < n → 1 ≤ P i) (hne : ∀ i j, i < n → j < n → P i = P j → i = j) (h : RowK D P n b ws x ks) {j k : Nat} (hj : j < n) (hk : k < n) (hjk : j ≠ k) :
    befK D P j k (x, ks) = (bothB (D j) (P j) (D k) (P k) x && ahB ws b (P j) (P k) x) := by
  have am : ∀ {i : Nat}, i < n → (i ∈ againK D P x ks ↔ D i < x ∧ (x - D i) % P i = 0) := fun {i} hi => by
    unfold againK
    rw [List.mem_filter, h.mem hP, decide_eq_true_iff, ← fire_ge (hP i hi)]
    unfold Fires
    constructor
    · rintro ⟨⟨_, z1⟩, z2⟩
      exact ⟨z2, z1.2⟩
    · rintro ⟨z1, z2⟩
      exact ⟨⟨hi, by omega, z2⟩, z1⟩
  have pw : (againK D P x ks).Pairwise fun i j => ahB ws b (P i) (P j) x = true := by
    unfold againK
    refine ((h.pair hb hP hne).sublist List.filter_sublist).imp_of_mem fun {a c} ha hc hh => ?_
    exact hh (of_decide_eq_true (List.mem_filter.mp ha).2) (of_decide_eq_true (List.mem_filter.mp hc).2)
  unfold befK
  show decide (j ∈ againK D P x ks ∧ k ∈ againK D P x ks ∧ (againK D P x ks).idxOf j < (againK D P x ks).idxOf k) = _
  by_cases hh : j ∈ againK D P x ks ∧ k ∈ againK D P x ks
  · obtain ⟨h1, h2⟩ := hh
    have hbo : bothB (D j) (P j) (D k) (P k) x = true := bothB_iff.mpr ⟨(am hj).mp h1, (am hk).mp h2⟩
    rw [hbo, Bool.true_and]
    rcases Nat.lt_or_ge ((againK D P x ks).idxOf j) ((againK D P x ks).idxOf k) with l | l
    · rw [decide_eq_true ⟨h1, h2, l⟩, pair_idx pw h1 h2 l]
    · have z := pair_idx pw h2 h1 (by have := idx_ne h1 h2 hjk; omega)
      rw [decide_eq_false (fun z => by omega), ahB_swap (show P k ≠ P j from fun e => hjk (hne _ _ hj hk e.symm)), z]
      rfl
  · have hbo : bothB (D j) (P j) (D k) (P k) x = false := by
      rw [Bool.eq_false_iff]
      intro z
      obtain ⟨z1, z2⟩ := bothB_iff.mp z
      exact hh ⟨(am hj).mpr z1, (am hk).mpr z2⟩
    rw [hbo, Bool.false_and]
    exact decide_eq_false fun z => hh ⟨z.1, z.2.1⟩
/-- counted by rows: counted by ticks -/
theorem cnt_rows {Pr : Nat → Bool} : ∀ {rows : List (Nat × List Nat)} {p : Nat × List Nat → Bool} {lo hi : Nat}, lo ≤ hi → rows.Pairwise (fun a c => a.1 < c.1) → (∀ f ∈ rows, lo < f.1 ∧ f.1 ≤ hi ∧ p f = Pr f.1) → (∀ x, lo < x → x ≤ hi → (∀ f ∈ rows, f.1 ≠ x) → Pr x = false) → rows.countP p = cntP Pr (lo + 1) (hi - lo)
  | [], p, lo, hi, hl, _, _, h => by
    rw [cntP_zero (hi - lo) fun t h1 h2 => h t (by omega) (by omega) fun f hf => absurd hf List.not_mem_nil]
    rfl
  | f :: rows, p, lo, hi, hl, ha, hr, h => by
    obtain ⟨a1, a2⟩ := List.pairwise_cons.mp ha
    obtain ⟨r1, r2, r3⟩ := hr f (List.mem_cons_self ..)
    have ih := cnt_rows (Pr := Pr) (rows := rows) (p := p) (lo := f.1) (hi := hi) r2 a2 (fun c hc => ⟨a1 c hc, (hr c (List.mem_cons_of_mem _ hc)).2⟩) fun x h1 h2 h3 => h x (by omega) h2 fun c hc => by
      rcases List.mem_cons.mp hc with e | hc
      · rw [e]
        omega
      · exact h3 c hc
    have e1 : hi - lo = (f.1 - 1 - lo) + (1 + (hi - f.1)) := by omega
    rw [List.countP_cons, ih, e1, cntP_add, cntP_add]
    have z0 : cntP Pr (lo + 1) (f.1 - 1 - lo) = 0 := cntP_zero _ fun t h1 h2 => h t (by omega) (by omega) fun c hc => by
      rcases List.mem_cons.mp hc with e | hc
      · rw [e]
        omega
      · have := a1 c hc
        omega
    have e2 : lo + 1 + (f.1 - 1 - lo) = f.1 := by omega
    have z1 : cntP Pr f.1 1 = if Pr f.1 = true then 1 else 0 := by
      show 0 + (if Pr (f.1 + 0) = true then 1 else 0) = _
      rw [Nat.zero_add, Nat.add_zero]
    rw [z0, e2, z1, r3]
    omega
/-- what the law counts of rows -/
theorem RowsK.count {D P : Nat → Nat} {n b lo hi : Nat} {ws : List Bool} {rows : List (Nat × List Nat)} (h : RowsK D P n b ws lo hi rows) (hl : lo ≤ hi) (hb : 2 ≤ b) (hP : ∀ i, i < n → 1 ≤ P i) (hne : ∀ i j, i < n → j < n → P i = P j → i = j) {j k : Nat} (hj : j < n) (hk : k < n) (hjk : j ≠ k) :
    rows.countP (befK D P j k) = cntP (fun t => bothB (D j) (P j) (D k) (P k) t && ahB ws b (P j) (P k) t) (lo + 1) (hi - lo) := by
  refine cnt_rows hl h.asc (fun f hf => ?_) fun x h1 h2 h3 => ?_
  · obtain ⟨z1, z2, z3⟩ := h.row f hf
    exact ⟨z1, z2, z3.bef hb hP hne hj hk hjk⟩
  · have z := h.all x h1 h2 h3 j hj
    have e : bothB (D j) (P j) (D k) (P k) x = false := by
      rw [Bool.eq_false_iff]
      intro y
      obtain ⟨y1, _⟩ := bothB_iff.mp y
      exact z ⟨by omega, y1.2⟩
    rw [e]
    rfl
def topS (i : Nat) : Stmt := PySem.Challenge.pw_timerdeque_k37_whole_many_timers_by_turn.main.body.getD i (.Pass ⟨0, 0, 0, 0⟩)
abbrev s__wall : Stmt := topS 0
abbrev N__wall : List Str := ["k"]
theorem sc__wall : FnScope N__wall ["k"] (defScope s__wall) := by
  refine ⟨rfl, rfl, rfl, ?_, rfl, ?_, ?_⟩ <;> decide +kernel
abbrev s_is_integer : Stmt := topS 12
abbrev N_is_integer : List Str := ["given"]
theorem sc_is_integer : FnScope N_is_integer ["given"] (defScope s_is_integer) := by
  refine ⟨rfl, rfl, rfl, ?_, rfl, ?_, ?_⟩ <;> decide +kernel
abbrev s_is_word : Stmt := topS 13
abbrev N_is_word : List Str := ["given"]
theorem sc_is_word : FnScope N_is_word ["given"] (defScope s_is_word) := by
  refine ⟨rfl, rfl, rfl, ?_, rfl, ?_, ?_⟩ <;> decide +kernel
abbrev s_is_base : Stmt := topS 14
abbrev N_is_base : List Str := ["given"]
theorem sc_is_base : FnScope N_is_base ["given"] (defScope s_is_base) := by
  refine ⟨rfl, rfl, rfl, ?_, rfl, ?_, ?_⟩ <;> decide +kernel
abbrev s_is_length : Stmt := topS 15
abbrev N_is_length : List Str := ["given"]
theorem sc_is_length : FnScope N_is_length ["given"] (defScope s_is_length) := by
  refine ⟨rfl, rfl, rfl, ?_, rfl, ?_, ?_⟩ <;> decide +kernel
abbrev s_are_levels : Stmt := topS 16
abbrev N_are_levels : List Str := ["given", "word"]
theorem sc_are_levels : FnScope N_are_levels ["given"] (defScope s_are_levels) := by
  refine ⟨rfl, rfl, rfl, ?_, rfl, ?_, ?_⟩ <;> decide +kernel
abbrev s_is_tick : Stmt := topS 17
abbrev N_is_tick : List Str := ["given", "least"]
theorem sc_is_tick : FnScope N_is_tick ["given", "least"] (defScope s_is_tick) := by
  refine ⟨rfl, rfl, rfl, ?_, rfl, ?_, ?_⟩ <;> decide +kernel
abbrev s_is_period : Stmt := topS 18
abbrev N_is_period : List Str := ["given"]
theorem sc_is_period : FnScope N_is_period ["given"] (defScope s_is_period) := by
  refine ⟨rfl, rfl, rfl, ?_, rfl, ?_, ?_⟩ <;> decide +kernel
abbrev s_check_base : Stmt := topS 19
abbrev N_check_base : List Str := ["base"]
theorem sc_check_base : FnScope N_check_base ["base"] (defScope s_check_base) := by
  refine ⟨rfl, rfl, rfl, ?_, rfl, ?_, ?_⟩ <;> decide +kernel
abbrev s_check_levels : Stmt := topS 20
abbrev N_check_levels : List Str := ["levels"]
theorem sc_check_levels : FnScope N_check_levels ["levels"] (defScope s_check_levels) := by
  refine ⟨rfl, rfl, rfl, ?_, rfl, ?_, ?_⟩ <;> decide +kernel
abbrev s_check_tick : Stmt := topS 21
abbrev N_check_tick : List Str := ["tick", "least"]
theorem sc_check_tick : FnScope N_check_tick ["tick", "least"] (defScope s_check_tick) := by
  refine ⟨rfl, rfl, rfl, ?_, rfl, ?_, ?_⟩ <;> decide +kernel
abbrev s_word_at : Stmt := topS 23
abbrev N_word_at : List Str := ["levels", "level"]
theorem sc_word_at : FnScope N_word_at ["levels", "level"] (defScope s_word_at) := by
  refine ⟨rfl, rfl, rfl, ?_, rfl, ?_, ?_⟩ <;> decide +kernel
abbrev s_level_and_size : Stmt := topS 24
abbrev N_level_and_size : List Str := ["base", "now", "due", "level", "size", "above_now", "above_due"]
theorem sc_level_and_size : FnScope N_level_and_size ["base", "now", "due"] (defScope s_level_and_size) := by
  refine ⟨rfl, rfl, rfl, ?_, rfl, ?_, ?_⟩ <;> decide +kernel
abbrev s_path : Stmt := topS 25
abbrev N_path : List Str := ["base", "now", "due", "level", "size", "rows", "tick", "digit"]
theorem sc_path : FnScope N_path ["base", "now", "due"] (defScope s_path) := by
  refine ⟨rfl, rfl, rfl, ?_, rfl, ?_, ?_⟩ <;> decide +kernel
abbrev s_goes_in_front : Stmt := topS 26
abbrev N_goes_in_front : List Str := ["base", "levels", "now", "due", "lowest", "front", "level", "digit", "tick"]
theorem sc_goes_in_front : FnScope N_goes_in_front ["base", "levels", "now", "due", "lowest"] (defScope s_goes_in_front) := by
  refine ⟨rfl, rfl, rfl, ?_, rfl, ?_, ?_⟩ <;> decide +kernel
abbrev s_with_timer : Stmt := topS 27
abbrev N_with_timer : List Str := ["numbers", "number", "front"]
theorem sc_with_timer : FnScope N_with_timer ["numbers", "number", "front"] (defScope s_with_timer) := by
  refine ⟨rfl, rfl, rfl, ?_, rfl, ?_, ?_⟩ <;> decide +kernel
abbrev s_firing_order : Stmt := topS 28
abbrev N_firing_order : List Str := ["base", "levels", "due", "settings", "numbers", "number", "now"]
theorem sc_firing_order : FnScope N_firing_order ["base", "levels", "due", "settings"] (defScope s_firing_order) := by
  refine ⟨rfl, rfl, rfl, ?_, rfl, ?_, ?_⟩ <;> decide +kernel
abbrev s_is_periodic : Stmt := topS 31
abbrev N_is_periodic : List Str := ["given", "phase", "period"]
theorem sc_is_periodic : FnScope N_is_periodic ["given"] (defScope s_is_periodic) := by
  refine ⟨rfl, rfl, rfl, ?_, rfl, ?_, ?_⟩ <;> decide +kernel
abbrev s_check_periodic : Stmt := topS 32
abbrev N_check_periodic : List Str := ["given"]
theorem sc_check_periodic : FnScope N_check_periodic ["given"] (defScope s_check_periodic) := by
  refine ⟨rfl, rfl, rfl, ?_, rfl, ?_, ?_⟩ <;> decide +kernel
abbrev s_check_two : Stmt := topS 33
abbrev N_check_two : List Str := ["one", "other"]
theorem sc_check_two : FnScope N_check_two ["one", "other"] (defScope s_check_two) := by
  refine ⟨rfl, rfl, rfl, ?_, rfl, ?_, ?_⟩ <;> decide +kernel
abbrev s_check_several : Stmt := topS 34
abbrev N_check_several : List Str := ["some", "given", "phase", "period"]
theorem sc_check_several : FnScope N_check_several ["some"] (defScope s_check_several) := by
  refine ⟨rfl, rfl, rfl, ?_, rfl, ?_, ?_⟩ <;> decide +kernel
abbrev s_fires_again : Stmt := topS 35
abbrev N_fires_again : List Str := ["timer", "tick", "phase", "period"]
theorem sc_fires_again : FnScope N_fires_again ["timer", "tick"] (defScope s_fires_again) := by
  refine ⟨rfl, rfl, rfl, ?_, rfl, ?_, ?_⟩ <;> decide +kernel
abbrev s_divisor_and_factor : Stmt := topS 36
abbrev N_divisor_and_factor : List Str := ["number", "modulus", "divisor", "rest", "factor", "following", "times"]
theorem sc_divisor_and_factor : FnScope N_divisor_and_factor ["number", "modulus"] (defScope s_divisor_and_factor) := by
  refine ⟨rfl, rfl, rfl, ?_, rfl, ?_, ?_⟩ <;> decide +kernel
abbrev s_meetings : Stmt := topS 37
abbrev N_meetings : List Str := ["one", "other", "phase", "period", "other_phase", "other_period", "divisor", "factor", "apart", "tick", "every", "begin"]
theorem sc_meetings : FnScope N_meetings ["one", "other"] (defScope s_meetings) := by
  refine ⟨rfl, rfl, rfl, ?_, rfl, ?_, ?_⟩ <;> decide +kernel
abbrev s_is_ahead : Stmt := topS 38
abbrev N_is_ahead : List Str := ["base", "levels", "one", "other", "tick"]
theorem sc_is_ahead : FnScope N_is_ahead ["base", "levels", "one", "other", "tick"] (defScope s_is_ahead) := by
  refine ⟨rfl, rfl, rfl, ?_, rfl, ?_, ?_⟩ <;> decide +kernel
abbrev s_order_at : Stmt := topS 39
abbrev N_order_at : List Str := ["base", "levels", "some", "tick", "rows", "settings", "index", "timer", "period", "phase"]
theorem sc_order_at : FnScope N_order_at ["base", "levels", "some", "tick"] (defScope s_order_at) := by
  refine ⟨rfl, rfl, rfl, ?_, rfl, ?_, ?_⟩ <;> decide +kernel
abbrev s_times_first : Stmt := topS 40
abbrev N_times_first : List Str := ["base", "levels", "one", "other", "first", "behind", "found", "meeting", "every", "ticks", "tick"]
theorem sc_times_first : FnScope N_times_first ["base", "levels", "one", "other", "first", "behind"] (defScope s_times_first) := by
  refine ⟨rfl, rfl, rfl, ?_, rfl, ?_, ?_⟩ <;> decide +kernel
abbrev s_without_repeats : Stmt := topS 43
abbrev N_without_repeats : List Str := ["levels", "many"]
theorem sc_without_repeats : FnScope N_without_repeats ["levels"] (defScope s_without_repeats) := by
  refine ⟨rfl, rfl, rfl, ?_, rfl, ?_, ?_⟩ <;> decide +kernel
abbrev s_check_period : Stmt := topS 44
abbrev N_check_period : List Str := ["period"]
theorem sc_check_period : FnScope N_check_period ["period"] (defScope s_check_period) := by
  refine ⟨rfl, rfl, rfl, ?_, rfl, ?_, ?_⟩ <;> decide +kernel
abbrev s_order_of_firing : Stmt := topS 45
abbrev N_order_of_firing : List Str := ["base", "levels", "live", "tick", "settings", "number", "due", "period", "since"]
theorem sc_order_of_firing : FnScope N_order_of_firing ["base", "levels", "live", "tick"] (defScope s_order_of_firing) := by
  refine ⟨rfl, rfl, rfl, ?_, rfl, ?_, ?_⟩ <;> decide +kernel
abbrev s_standing : Stmt := topS 46
abbrev N_standing : List Str := ["base", "levels", "live", "tick", "rows", "number", "due", "period", "since", "level", "size", "place", "front", "digit"]
theorem sc_standing : FnScope N_standing ["base", "levels", "live", "tick"] (defScope s_standing) := by
  refine ⟨rfl, rfl, rfl, ?_, rfl, ?_, ?_⟩ <;> decide +kernel
abbrev s_least_due : Stmt := topS 47
abbrev N_least_due : List Str := ["live", "due", "period", "since"]
theorem sc_least_due : FnScope N_least_due ["live"] (defScope s_least_due) := by
  refine ⟨rfl, rfl, rfl, ?_, rfl, ?_, ?_⟩ <;> decide +kernel
abbrev s_after_firing : Stmt := topS 48
abbrev N_after_firing : List Str := ["live", "numbers", "tick", "left", "number", "due", "period", "since"]
theorem sc_after_firing : FnScope N_after_firing ["live", "numbers", "tick"] (defScope s_after_firing) := by
  refine ⟨rfl, rfl, rfl, ?_, rfl, ?_, ?_⟩ <;> decide +kernel
abbrev s__law_cell_at : Stmt := topS 51
abbrev N__law_cell_at : List Str := ["_law_script", "_law_k"]
theorem sc__law_cell_at : FnScope N__law_cell_at ["_law_script", "_law_k"] (defScope s__law_cell_at) := by
  refine ⟨rfl, rfl, rfl, ?_, rfl, ?_, ?_⟩ <;> decide +kernel
abbrev s__law_mixed : Stmt := topS 52
abbrev N__law_mixed : List Str := ["_law_cell", "_law_k", "_law_low"]
theorem sc__law_mixed : FnScope N__law_mixed ["_law_cell", "_law_k"] (defScope s__law_mixed) := by
  refine ⟨rfl, rfl, rfl, ?_, rfl, ?_, ?_⟩ <;> decide +kernel
abbrev s__law_source : Stmt := topS 53
abbrev N__law_source : List Str := ["_law_script", "_law_k", "_law_cell"]
theorem sc__law_source : FnScope N__law_source ["_law_script", "_law_k"] (defScope s__law_source) := by
  refine ⟨rfl, rfl, rfl, ?_, rfl, ?_, ?_⟩ <;> decide +kernel
abbrev s__law_next : Stmt := topS 54
abbrev N__law_next : List Str := ["_law_source_here", "_law_many", "_law_found"]
theorem sc__law_next : FnScope N__law_next ["_law_source_here", "_law_many"] (defScope s__law_next) := by
  refine ⟨rfl, rfl, rfl, ?_, rfl, ?_, ?_⟩ <;> decide +kernel
abbrev s__law_base : Stmt := topS 55
abbrev N__law_base : List Str := ["_law_source_here"]
theorem sc__law_base : FnScope N__law_base ["_law_source_here"] (defScope s__law_base) := by
  refine ⟨rfl, rfl, rfl, ?_, rfl, ?_, ?_⟩ <;> decide +kernel
abbrev s__law_levels : Stmt := topS 56
abbrev N__law_levels : List Str := ["_law_source_here", "_law_many", "_law_sort", "_law_found", "_law_at"]
theorem sc__law_levels : FnScope N__law_levels ["_law_source_here"] (defScope s__law_levels) := by
  refine ⟨rfl, rfl, rfl, ?_, rfl, ?_, ?_⟩ <;> decide +kernel
abbrev s__law_tick : Stmt := topS 57
abbrev N__law_tick : List Str := ["_law_source_here", "_law_base_here", "_law_sort", "_law_size", "_law_at"]
theorem sc__law_tick : FnScope N__law_tick ["_law_source_here", "_law_base_here"] (defScope s__law_tick) := by
  refine ⟨rfl, rfl, rfl, ?_, rfl, ?_, ?_⟩ <;> decide +kernel
abbrev s__law_pairs : Stmt := topS 58
abbrev N__law_pairs : List Str := ["_law_source_here", "_law_base_here", "_law_begin", "_law_many", "_law_found", "_law_known", "_law_k", "_law_span"]
theorem sc__law_pairs : FnScope N__law_pairs ["_law_source_here", "_law_base_here", "_law_begin", "_law_many"] (defScope s__law_pairs) := by
  refine ⟨rfl, rfl, rfl, ?_, rfl, ?_, ?_⟩ <;> decide +kernel
abbrev s__law_led : Stmt := topS 59
abbrev N__law_led : List Str := ["_law_source_here", "_law_wheel", "_law_pairs_here", "_law_begin", "_law_left", "_law_mine", "_law_k"]
theorem sc__law_led : FnScope N__law_led ["_law_source_here", "_law_wheel", "_law_pairs_here", "_law_begin"] (defScope s__law_led) := by
  refine ⟨rfl, rfl, rfl, ?_, rfl, ?_, ?_⟩ <;> decide +kernel
abbrev s__law_order : Stmt := topS 60
abbrev N__law_order : List Str := ["_law_base_here", "_law_levels_here", "_law_pairs_here", "_law_moment"]
theorem sc__law_order : FnScope N__law_order ["_law_base_here", "_law_levels_here", "_law_pairs_here", "_law_moment"] (defScope s__law_order) := by
  refine ⟨rfl, rfl, rfl, ?_, rfl, ?_, ?_⟩ <;> decide +kernel
abbrev s__law_orders_right : Stmt := topS 61
abbrev N__law_orders_right : List Str := ["_law_base_here", "_law_levels_here", "_law_pairs_here", "_law_rows", "_law_moment", "_law_numbers", "_law_due", "_law_k"]
theorem sc__law_orders_right : FnScope N__law_orders_right ["_law_base_here", "_law_levels_here", "_law_pairs_here", "_law_rows"] (defScope s__law_orders_right) := by
  refine ⟨rfl, rfl, rfl, ?_, rfl, ?_, ?_⟩ <;> decide +kernel
abbrev s__law_ahead : Stmt := topS 62
abbrev N__law_ahead : List Str := ["_law_pairs_here", "_law_rows", "_law_j", "_law_k", "_law_found", "_law_moment", "_law_numbers", "_law_again", "_law_one"]
theorem sc__law_ahead : FnScope N__law_ahead ["_law_pairs_here", "_law_rows", "_law_j", "_law_k"] (defScope s__law_ahead) := by
  refine ⟨rfl, rfl, rfl, ?_, rfl, ?_, ?_⟩ <;> decide +kernel
abbrev s__law_counts_right : Stmt := topS 63
abbrev N__law_counts_right : List Str := ["_law_base_here", "_law_levels_here", "_law_pairs_here", "_law_rows", "_law_begin", "_law_end", "_law_j", "_law_k", "_law_told"]
theorem sc__law_counts_right : FnScope N__law_counts_right ["_law_base_here", "_law_levels_here", "_law_pairs_here", "_law_rows", "_law_begin", "_law_end"] (defScope s__law_counts_right) := by
  refine ⟨rfl, rfl, rfl, ?_, rfl, ?_, ?_⟩ <;> decide +kernel
abbrev s_law : Stmt := topS 64
abbrev N_law : List Str := ["_law_script", "_law_k", "_law_source_here", "_law_base_here", "_law_levels_here", "_law_begin", "_law_pairs_here", "_law_wheel", "_law_mine", "_law_every", "_law_last", "_law_time", "_law_end", "_law_rows", "_law_moment", "_law_numbers", "_law_number"]
theorem sc_law : FnScope N_law ["_law_script"] (defScope s_law) := by
  refine ⟨rfl, rfl, rfl, ?_, rfl, ?_, ?_⟩ <;> decide +kernel
abbrev s_Wheel___init__ : Stmt := inClass (topS 49) 0
abbrev N_Wheel___init__ : List Str := ["self", "base", "levels", "start"]
theorem sc_Wheel___init__ : FnScope N_Wheel___init__ ["self", "base", "levels", "start"] (defScope s_Wheel___init__) := by
  refine ⟨rfl, rfl, rfl, ?_, rfl, ?_, ?_⟩ <;> decide +kernel
abbrev s_Wheel___len__ : Stmt := inClass (topS 49) 1
abbrev N_Wheel___len__ : List Str := ["self"]
theorem sc_Wheel___len__ : FnScope N_Wheel___len__ ["self"] (defScope s_Wheel___len__) := by
  refine ⟨rfl, rfl, rfl, ?_, rfl, ?_, ?_⟩ <;> decide +kernel
abbrev s_Wheel___eq__ : Stmt := inClass (topS 49) 2
abbrev N_Wheel___eq__ : List Str := ["self", "other"]
theorem sc_Wheel___eq__ : FnScope N_Wheel___eq__ ["self", "other"] (defScope s_Wheel___eq__) := by
  refine ⟨rfl, rfl, rfl, ?_, rfl, ?_, ?_⟩ <;> decide +kernel
abbrev s_Wheel_check_timer : Stmt := inClass (topS 49) 3
abbrev N_Wheel_check_timer : List Str := ["self", "timer"]
theorem sc_Wheel_check_timer : FnScope N_Wheel_check_timer ["self", "timer"] (defScope s_Wheel_check_timer) := by
  refine ⟨rfl, rfl, rfl, ?_, rfl, ?_, ?_⟩ <;> decide +kernel
abbrev s_Wheel_now : Stmt := inClass (topS 49) 4
abbrev N_Wheel_now : List Str := ["self"]
theorem sc_Wheel_now : FnScope N_Wheel_now ["self"] (defScope s_Wheel_now) := by
  refine ⟨rfl, rfl, rfl, ?_, rfl, ?_, ?_⟩ <;> decide +kernel
abbrev s_Wheel_put : Stmt := inClass (topS 49) 5
abbrev N_Wheel_put : List Str := ["self", "due", "period", "number"]
theorem sc_Wheel_put : FnScope N_Wheel_put ["self", "due", "period"] (defScope s_Wheel_put) := by
  refine ⟨rfl, rfl, rfl, ?_, rfl, ?_, ?_⟩ <;> decide +kernel
abbrev s_Wheel_cancel : Stmt := inClass (topS 49) 6
abbrev N_Wheel_cancel : List Str := ["self", "timer"]
theorem sc_Wheel_cancel : FnScope N_Wheel_cancel ["self", "timer"] (defScope s_Wheel_cancel) := by
  refine ⟨rfl, rfl, rfl, ?_, rfl, ?_, ?_⟩ <;> decide +kernel
abbrev s_Wheel_reset : Stmt := inClass (topS 49) 7
abbrev N_Wheel_reset : List Str := ["self", "timer", "due"]
theorem sc_Wheel_reset : FnScope N_Wheel_reset ["self", "timer", "due"] (defScope s_Wheel_reset) := by
  refine ⟨rfl, rfl, rfl, ?_, rfl, ?_, ?_⟩ <;> decide +kernel
abbrev s_Wheel_due : Stmt := inClass (topS 49) 8
abbrev N_Wheel_due : List Str := ["self", "timer"]
theorem sc_Wheel_due : FnScope N_Wheel_due ["self", "timer"] (defScope s_Wheel_due) := by
  refine ⟨rfl, rfl, rfl, ?_, rfl, ?_, ?_⟩ <;> decide +kernel
abbrev s_Wheel_timers : Stmt := inClass (topS 49) 9
abbrev N_Wheel_timers : List Str := ["self"]
theorem sc_Wheel_timers : FnScope N_Wheel_timers ["self"] (defScope s_Wheel_timers) := by
  refine ⟨rfl, rfl, rfl, ?_, rfl, ?_, ?_⟩ <;> decide +kernel
abbrev s_Wheel_advance : Stmt := inClass (topS 49) 10
abbrev N_Wheel_advance : List Str := ["self", "tick", "fired", "many", "live", "at", "numbers"]
theorem sc_Wheel_advance : FnScope N_Wheel_advance ["self", "tick"] (defScope s_Wheel_advance) := by
  refine ⟨rfl, rfl, rfl, ?_, rfl, ?_, ?_⟩ <;> decide +kernel
abbrev s_Wheel_lists : Stmt := inClass (topS 49) 11
abbrev N_Wheel_lists : List Str := ["self"]
theorem sc_Wheel_lists : FnScope N_Wheel_lists ["self"] (defScope s_Wheel_lists) := by
  refine ⟨rfl, rfl, rfl, ?_, rfl, ?_, ?_⟩ <;> decide +kernel
abbrev s_Wheel_firing : Stmt := inClass (topS 49) 12
abbrev N_Wheel_firing : List Str := ["self", "tick"]
theorem sc_Wheel_firing : FnScope N_Wheel_firing ["self", "tick"] (defScope s_Wheel_firing) := by
  refine ⟨rfl, rfl, rfl, ?_, rfl, ?_, ?_⟩ <;> decide +kernel
abbrev s_Wheel_lists_at : Stmt := inClass (topS 49) 13
abbrev N_Wheel_lists_at : List Str := ["self", "tick"]
theorem sc_Wheel_lists_at : FnScope N_Wheel_lists_at ["self", "tick"] (defScope s_Wheel_lists_at) := by
  refine ⟨rfl, rfl, rfl, ?_, rfl, ?_, ?_⟩ <;> decide +kernel
abbrev s_Wheel_restoring : Stmt := inClass (topS 49) 14
abbrev N_Wheel_restoring : List Str := ["self", "rows", "level", "digit", "numbers", "number"]
theorem sc_Wheel_restoring : FnScope N_Wheel_restoring ["self"] (defScope s_Wheel_restoring) := by
  refine ⟨rfl, rfl, rfl, ?_, rfl, ?_, ?_⟩ <;> decide +kernel
abbrev s_Wheel_snapshot : Stmt := inClass (topS 49) 15
abbrev N_Wheel_snapshot : List Str := ["self", "rows", "number", "due"]
theorem sc_Wheel_snapshot : FnScope N_Wheel_snapshot ["self"] (defScope s_Wheel_snapshot) := by
  refine ⟨rfl, rfl, rfl, ?_, rfl, ?_, ?_⟩ <;> decide +kernel
abbrev s_Wheel_next_event : Stmt := inClass (topS 49) 16
abbrev N_Wheel_next_event : List Str := ["self"]
theorem sc_Wheel_next_event : FnScope N_Wheel_next_event ["self"] (defScope s_Wheel_next_event) := by
  refine ⟨rfl, rfl, rfl, ?_, rfl, ?_, ?_⟩ <;> decide +kernel
abbrev s_Wheel_next_firing : Stmt := inClass (topS 49) 17
abbrev N_Wheel_next_firing : List Str := ["self"]
theorem sc_Wheel_next_firing : FnScope N_Wheel_next_firing ["self"] (defScope s_Wheel_next_firing) := by
  refine ⟨rfl, rfl, rfl, ?_, rfl, ?_, ?_⟩ <;> decide +kernel
abbrev s_Wheel_moves_until : Stmt := inClass (topS 49) 18
abbrev N_Wheel_moves_until : List Str := ["self", "tick"]
theorem sc_Wheel_moves_until : FnScope N_Wheel_moves_until ["self", "tick"] (defScope s_Wheel_moves_until) := by
  refine ⟨rfl, rfl, rfl, ?_, rfl, ?_, ?_⟩ <;> decide +kernel
/-- what the top leaves of built-in names -/
structure Tx (K : PySem.W.Frag) (mg : Str → Option Value) : Prop where
  b_isinstance : mg "isinstance" = none
  b_int : mg "int" = none
  b_bool : mg "bool" = none
  b_str : mg "str" = none
  b_all : mg "all" = none
  b_list : mg "list" = none
  b_len : mg "len" = none
  b_min : mg "min" = none
  b_tuple : mg "tuple" = none
  b_set : mg "set" = none
  b_max : mg "max" = none
  b_enumerate : mg "enumerate" = none
  b_sorted : mg "sorted" = none
  b_range : mg "range" = none
  b_dict : mg "dict" = none
/-! ### the program: what an integer is, bases, ticks -/
def slotInt (σ : L2.St) (i : Nat) : Nat := match σ[i]? with
  | some (some (.int z)) => z.toNat
  | _ => 0
theorem cast_div (a b : Nat) : (a : Int) / (b : Int) = ((a / b : Nat) : Int) := rfl
theorem cast_mod (a b : Nat) : (a : Int) % (b : Int) = ((a % b : Nat) : Int) := rfl
theorem cast_mul (a b : Nat) : (a : Int) * (b : Int) = ((a * b : Nat) : Int) := (Int.natCast_mul a b).symm
theorem cast_add (a b : Nat) : (a : Int) + (b : Int) = ((a + b : Nat) : Int) := rfl
theorem natAbs_cast (a : Nat) : ((a : Nat) : Int).natAbs = a := rfl
theorem divp_s {i j : Int} (b : Nat) (hj : 0 < j) (hi : i.natAbs < 2 ^ b) (h : b ≤ 3000 := by decide) : CDivP i j := by
  refine divp_ok hj ?_
  have := PyProof.Rows.intBits_le hi
  omega
section
variable {P : Program} {w : World} {K : PySem.W.Frag} {mg : Str → Option Value} {base : Heap}
def spIsInt : Sp := fun vs H Q _ => ∃ n : Int, vs = [.int n] ∧ Q (.bl true) H
theorem ok_is_integer {f : Addr} {fd : FuncData} (F : Fun K "is_integer" "is_integer" s_is_integer f fd) (T : Tx K mg) : FnOk P w K mg base CX0 1 f fd ["given"] spIsInt := by
  refine F.ok sc_is_integer (fun vs H Q E h => ?_) (fun cdv A outer s H vs Q E hr h => ?_)
  · obtain ⟨n, rfl, _⟩ := h
    rfl
  · obtain ⟨n, rfl, q⟩ := h
    refine ⟨_, (pss_one (ps_ret (pe_and (pe_callB (isiK (K := K) rfl) (by rfl) T.b_isinstance (by decide +kernel) (pa_cons (pv 0) (pa_cons (pe_bltn (v := .ty "int") (u := .type "int") (by rfl) T.b_int (by decide +kernel) rfl) pa_nil))) (pe_one (pe_not (pe_callB (isiK (K := K) rfl) (by rfl) T.b_isinstance (by decide +kernel) (pa_cons (pv 0) (pa_cons (pe_bltn (v := .ty "bool") (u := .type "bool") (by rfl) T.b_bool (by decide +kernel) rfl) pa_nil)))))))), ?_⟩
    refine ⟨.int n, rfl, .int n, _, _, _, true, rfl, .ty "int", .base (.int n), kit_ty (by decide +kernel), true, rfl, iteT ?_⟩
    exact ⟨.int n, rfl, .int n, _, _, _, false, rfl, .ty "bool", .base (.int n), kit_ty (by decide +kernel), false, rfl, q⟩
end
/-! a tick, of an integer -/
section
variable {P : Program} {w : World} {K : PySem.W.Frag} {mg : Str → Option Value} {base : Heap}
def spIsTick : Sp := fun vs H Q _ => ∃ n l : Int, vs = [.int n, .int l] ∧ l ≤ n ∧ Q (.bl true) H
theorem ok_is_tick {f : Addr} {fd : FuncData} (F : FunD K "is_tick" "is_tick" (defArgs s_is_tick) (defBody s_is_tick) (defScope s_is_tick) [.int 0] [] f fd) (T : Tx K mg) (h1 : Has P w K mg base 1 "is_integer" ["given"] [] spIsInt) : FnOk P w K mg base CX0 2 f fd ["given", "least"] spIsTick := by
  obtain ⟨f_is_integer, fd_is_integer, ds_is_integer, G_is_integer, m_is_integer, k_is_integer, b_is_integer, v_is_integer⟩ := h1
  refine F.ok sc_is_tick (fun vs H Q E h => ?_) (fun cdv A outer s H vs Q E hr h => ?_)
  · obtain ⟨n, l, rfl, _⟩ := h
    rfl
  · obtain ⟨n, l, rfl, l1, q⟩ := h
    refine ⟨_, PSs.nox (pss_one (ps_ret (pe_and (pe_call G_is_integer hr (by rfl) m_is_integer k_is_integer b_is_integer v_is_integer pass0 (pa_cons (pv 0) pa_nil)) (pe_one (pe_cmpR op_ge (pv 0) (pv 1) (nomark _)))))), ?_⟩
    refine ⟨.int n, rfl, n, rfl, true, rfl, iteT ?_⟩
    refine ⟨.int n, rfl, .int l, rfl, n, l, rfl, rfl, ?_⟩
    have e : V.bl (decide (n ≥ l)) = V.bl true := dT l1
    show Q (V.bl (decide (n ≥ l))) H
    rw [e]
    exact q
end
/-! ### bases and ticks -/
section
variable {P : Program} {w : World} {K : PySem.W.Frag} {mg : Str → Option Value} {base : Heap}
def spIsBase : Sp := fun vs H Q _ => ∃ n : Int, vs = [.int n] ∧ 2 ≤ n ∧ n ≤ 64 ∧ Q (.bl true) H
theorem ok_is_base {f : Addr} {fd : FuncData} (F : Fun K "is_base" "is_base" s_is_base f fd) (h1 : Has P w K mg base 1 "is_integer" ["given"] [] spIsInt) : FnOk P w K mg base CX0 2 f fd ["given"] spIsBase := by
  obtain ⟨f_is_integer, fd_is_integer, ds_is_integer, G_is_integer, m_is_integer, k_is_integer, b_is_integer, v_is_integer⟩ := h1
  refine F.ok sc_is_base (fun vs H Q E h => ?_) (fun cdv A outer s H vs Q E hr h => ?_)
  · obtain ⟨n, rfl, _⟩ := h
    rfl
  · obtain ⟨n, rfl, l1, l2, q⟩ := h
    refine ⟨_, (pss_one (ps_ret (pe_and (pe_call G_is_integer hr (by rfl) m_is_integer k_is_integer b_is_integer v_is_integer pass0 (pa_cons (pv 0) pa_nil)) (pe_one (pe_chain op_le op_le pe_int (pv 0) pe_int))))), ?_⟩
    refine ⟨.int n, rfl, n, rfl, true, rfl, iteT ?_⟩
    refine ⟨.int n, rfl, 2, n, rfl, rfl, true, congrArg V.bl (decide_eq_true l1), iteT ?_⟩
    refine ⟨n, 64, rfl, rfl, ?_⟩
    have e : V.bl (decide (n ≤ 64)) = V.bl true := dT l2
    show Q (V.bl (decide (n ≤ 64))) H
    rw [e]
    exact q
def spCheckBase : Sp := fun vs H Q _ => ∃ n : Int, vs = [.int n] ∧ 2 ≤ n ∧ n ≤ 64 ∧ Q .non H
theorem ok_check_base {f : Addr} {fd : FuncData} (F : Fun K "check_base" "check_base" s_check_base f fd) (h1 : Has P w K mg base 2 "is_base" ["given"] [] spIsBase) : FnOk P w K mg base CX0 3 f fd ["base"] spCheckBase := by
  obtain ⟨f_is_base, fd_is_base, ds_is_base, G_is_base, m_is_base, k_is_base, b_is_base, v_is_base⟩ := h1
  refine F.ok sc_check_base (fun vs H Q E h => ?_) (fun cdv A outer s H vs Q E hr h => ?_)
  · obtain ⟨n, rfl, _⟩ := h
    rfl
  · obtain ⟨n, rfl, l1, l2, q⟩ := h
    refine ⟨_, (pss_one (ps_if (pt_not (pt_val (pe_call G_is_base hr (by rfl) m_is_base k_is_base b_is_base v_is_base pass0 (pa_cons (pv 0) pa_nil))))
        (pss_one ps_never)
        pss_nil)), ?_⟩
    exact ⟨.int n, rfl, n, rfl, l1, l2, true, rfl, iteF q⟩
def spCheckTick : Sp := fun vs H Q _ => ∃ n l : Int, vs = [.int n, .int l] ∧ l ≤ n ∧ Q .non H
theorem ok_check_tick {f : Addr} {fd : FuncData} (F : FunD K "check_tick" "check_tick" (defArgs s_check_tick) (defBody s_check_tick) (defScope s_check_tick) [.int 0] [] f fd) (h1 : Has P w K mg base 2 "is_tick" ["given", "least"] [] spIsTick) : FnOk P w K mg base CX0 3 f fd ["tick", "least"] spCheckTick := by
  obtain ⟨f_is_tick, fd_is_tick, ds_is_tick, G_is_tick, m_is_tick, k_is_tick, b_is_tick, v_is_tick⟩ := h1
  refine F.ok sc_check_tick (fun vs H Q E h => ?_) (fun cdv A outer s H vs Q E hr h => ?_)
  · obtain ⟨n, l, rfl, _⟩ := h
    rfl
  · obtain ⟨n, l, rfl, l1, q⟩ := h
    refine ⟨_, PSs.nox (pss_one (ps_if (pt_not (pt_val (pe_call G_is_tick hr (by rfl) m_is_tick k_is_tick b_is_tick v_is_tick pass0 (pa_cons (pv 0) (pa_cons (pv 1) pa_nil)))))
        (pss_one ps_never)
        pss_nil)), ?_⟩
    exact ⟨.int n, rfl, .int l, rfl, n, l, rfl, l1, true, rfl, iteF q⟩
end
/-! ### the program: level_and_size, path -/
section
variable {P : Program} {w : World} {K : PySem.W.Frag} {mg : Str → Option Value} {base : Heap}
/-! the level -/
def spLevel : Sp := fun vs H Q _ => ∃ b n d : Nat, vs = [.int b, .int n, .int d] ∧ 2 ≤ b ∧ b ≤ 64 ∧ n < d ∧ d < 2 ^ 250 ∧ ∀ k, IsLev b n d k → ∀ H' p, Same H H' → H p = none → H' p = some (.tup [.int (k : Nat), .int ((b ^ k : Nat) : Int)]) → Q (.ref p) H'
theorem ok_level_and_size {f : Addr} {fd : FuncData} (F : Fun K "level_and_size" "level_and_size" s_level_and_size f fd) : FnOk P w K mg base CX0 1 f fd ["base", "now", "due"] spLevel := by
  refine F.ok sc_level_and_size (fun vs H Q E h => ?_) (fun cdv A outer s H vs Q E hr h => ?_)
  · obtain ⟨b, n, d, rfl, _⟩ := h
    rfl
  · obtain ⟨b, n, d, rfl, hb, hb64, hnd, hd, q⟩ := h
    have cb : ∀ x : Nat, NDiv x b := fun x => ndiv 7 (by omega) (by omega)
    refine ⟨_, (pss_cons (ps_asg (pe_tup (pa_cons pe_int (pa_cons pe_int pa_nil))) (pg_tupK (K := K) (n := 2) rfl rfl (pgs_cons (pg_name (i := 3) sc_level_and_size.nd rfl (.inl rfl)) (pgs_cons (pg_name (i := 4) sc_level_and_size.nd rfl (.inl rfl)) pgs_nil))))
      (pss_cons (ps_par (i := 5) (j := 6) (by rfl) sc_level_and_size.nd rfl rfl (by decide) rfl rfl (pa_cons (pe_op op_divN (pv 1) (pv 0)) (pa_cons (pe_op op_divN (pv 2) (pv 0)) pa_nil)) (by rfl))
      (pss_cons (ps_while PassesOwn.never (pt_cmpR op_ne (pv 5) (pv 6) (nomark _))
        (pss_cons (ps_par (i := 5) (j := 6) (by rfl) sc_level_and_size.nd rfl rfl (by decide) rfl rfl (pa_cons (pe_op op_divN (pv 5) (pv 0)) (pa_cons (pe_op op_divN (pv 6) (pv 0)) pa_nil)) (by rfl))
        (pss_one (ps_par (i := 3) (j := 4) (by rfl) sc_level_and_size.nd rfl rfl (by decide) rfl rfl (pa_cons (pe_op op_addN (pv 3) pe_int) (pa_cons (pe_op op_mulN (pv 4) (pv 0)) pa_nil)) (by rfl)))))
      (pss_one (ps_ret (pe_tup (pa_cons (pv 3) (pa_cons (pv 4) pa_nil)))))))), ?_⟩
    refine ⟨by simp [sizeLine_eq], fun t hT => ⟨t, _, rfl, .inl (.inl upd_same), rfl, _, _, rfl, _, _, rfl, rfl, ?_⟩⟩
    refine ⟨_, rfl, _, rfl, _, _, rfl, rfl, cb _, _, rfl, _, rfl, _, _, rfl, rfl, cb _, _, _, rfl, ?_⟩
    refine while_by (fun σ H' => ∃ k : Nat, σ = [some (.int (b : Int)), some (.int (n : Int)), some (.int (d : Int)), some (.int (k : Int)), some (.int ((b ^ k : Nat) : Int)), some (.int ((n / b ^ (k + 1) : Nat) : Int)), some (.int ((d / b ^ (k + 1) : Nat) : Int))] ∧ Same H H' ∧ ∀ j, j < k → n / b ^ (j + 1) ≠ d / b ^ (j + 1))
      (fun σ _ => slotInt σ 6) ⟨0, ?_, same_upd hT, fun j hj => absurd hj (Nat.not_lt_zero j)⟩ ?_ ?_
    · rw [Nat.zero_add, Nat.pow_one]
      rfl
    · rintro σ H' ⟨k, rfl, sm, hk⟩
      by_cases hne : n / b ^ (k + 1) = d / b ^ (k + 1)
      · refine ⟨_, rfl, _, rfl, rfl, false, ?_, iteF ?_⟩
        · rw [hne, decide_eq_true rfl]
          rfl
        · refine ⟨_, rfl, _, rfl, by simp [sizeLine_eq], fun p hp => ?_⟩
          exact q k ⟨hne, hk⟩ _ p (sm.trans (same_upd hp)) (sm.free hp) upd_same
      · have h2 : n / b ^ (k + 1) ≤ d / b ^ (k + 1) := Nat.div_le_div_right (Nat.le_of_lt hnd)
        have hpos : 0 < d / b ^ (k + 1) := pos_of h2 hne
        refine ⟨_, rfl, _, rfl, rfl, true, ?_, iteT ?_⟩
        · rw [int_ne hne]
          rfl
        · refine ⟨_, rfl, _, rfl, _, _, rfl, rfl, cb _, _, rfl, _, rfl, _, _, rfl, rfl, cb _, _, _, rfl, ?_⟩
          refine ⟨_, rfl, k, 1, rfl, rfl, trivial, _, rfl, _, rfl, _, _, rfl, rfl, nmul_r (by omega), _, _, rfl, ?_⟩
          have hlt : d / b ^ (k + 1) / b < d / b ^ (k + 1) := Nat.div_lt_self hpos (by omega)
          refine ⟨⟨k + 1, ?_, sm, fun j hj => ?_⟩, ?_⟩
          · rw [div_succ n b (k + 1), div_succ d b (k + 1), Nat.pow_succ b k]
            rfl
          · by_cases e : j = k
            · rw [e]
              exact hne
            · exact hk j (by omega)
          · show (((d / b ^ (k + 1) / b : Nat) : Int)).toNat < (((d / b ^ (k + 1) : Nat) : Int)).toNat
            rw [Int.toNat_natCast, Int.toNat_natCast]
            exact hlt
    · rintro σ H' Q1 Q2 h ⟨x, hx, y, hy, hs, k, e, z⟩
      exact ⟨x, hx, y, hy, hs, k, e, h _ _ z⟩
/-! the stations -/
def rowV (r : Row3) : List V := [.int (r.1 : Nat), .int (r.2.1 : Nat), .int (r.2.2 : Nat)]
/-- at the places ts stand the rows rs, each a tuple of three -/
def RowsAt (H : Hp) : List Addr → List Row3 → Prop
  | [], [] => True
  | t :: ts, r :: rs => H t = some (.tup (rowV r)) ∧ RowsAt H ts rs
  | _, _ => False
theorem RowsAt.same {H H' : Hp} (s : Same H H') : ∀ {ts : List Addr} {rs : List Row3}, RowsAt H ts rs → RowsAt H' ts rs
  | [], [], h => h
  | _ :: _, _ :: _, h => ⟨s _ _ h.1, h.2.same s⟩
  | [], _ :: _, h => h
  | _ :: _, [], h => h
theorem RowsAt.app {H : Hp} {t : Addr} {r : Row3} : ∀ {ts : List Addr} {rs : List Row3}, RowsAt H ts rs → H t = some (.tup (rowV r)) → RowsAt H (ts ++ [t]) (rs ++ [r])
  | [], [], _, h => ⟨h, trivial⟩
  | _ :: _, _ :: _, h, h2 => ⟨h.1, h.2.app h2⟩
  | [], _ :: _, h, _ => h.elim
  | _ :: _, [], h, _ => h.elim
theorem RowsAt.len {H : Hp} : ∀ {ts : List Addr} {rs : List Row3}, RowsAt H ts rs → ts.length = rs.length
  | [], [], _ => rfl
  | _ :: _, _ :: _, h => congrArg Nat.succ h.2.len
  | [], _ :: _, h => h.elim
  | _ :: _, [], h => h.elim
theorem RowsAt.upd {H : Hp} {p : Addr} {xs : List V} {o : HO} (hp : H p = some (.lst xs)) : ∀ {ts : List Addr} {rs : List Row3}, RowsAt H ts rs → RowsAt (upd H p o) ts rs
  | [], [], h => h
  | t :: _, _ :: _, h => ⟨by rw [upd_ne (ne_of h.1 hp (by intro z; cases z))]; exact h.1, h.2.upd hp⟩
  | [], _ :: _, h => h
  | _ :: _, [], h => h
theorem RowsAt.get {H : Hp} : ∀ {ts : List Addr} {rs : List Row3} {i : Nat} {t : Addr}, RowsAt H ts rs → ts[i]? = some t → ∃ r, rs[i]? = some r ∧ H t = some (.tup (rowV r))
  | t :: _, r :: _, 0, _, h, e => ⟨r, rfl, by cases Option.some.inj e; exact h.1⟩
  | _ :: _, _ :: _, i + 1, _, h, e => h.2.get (i := i) e
  | [], _, _, _, _, e => by simp at e
  | _ :: _, [], _, _, h, _ => h.elim
def spPath : Sp := fun vs H Q _ => ∃ b n d : Nat, vs = [.int b, .int n, .int d] ∧ 2 ≤ b ∧ b ≤ 64 ∧ n < d ∧ d < 2 ^ 250 ∧ ∀ k, IsLev b n d k → ∀ H' p ts, Same H H' → H p = none → H' p = some (.lst (ts.map V.ref)) → RowsAt H' ts (rowsOf b n d k) → Q (.ref p) H'
theorem ok_path {f : Addr} {fd : FuncData} (F : Fun K "path" "path" s_path f fd) (h1 : Has P w K mg base 1 "level_and_size" ["base", "now", "due"] [] spLevel) : FnOk P w K mg base CX0 2 f fd ["base", "now", "due"] spPath := by
  obtain ⟨f_level_and_size, fd_level_and_size, ds_level_and_size, G_level_and_size, m_level_and_size, k_level_and_size, b_level_and_size, v_level_and_size⟩ := h1
  refine F.ok sc_path (fun vs H Q E h => ?_) (fun cdv A outer s H vs Q E hr h => ?_)
  · obtain ⟨b, n, d, rfl, _⟩ := h
    rfl
  · obtain ⟨b, n, d, rfl, hb, hb64, hnd, hd, q⟩ := h
    have cb : ∀ x : Nat, NDiv x b := fun x => ndiv 7 (by omega) (by omega)
    have hb0 : 0 < b := by omega
    refine ⟨_, (pss_cons (ps_asg (pe_call G_level_and_size hr (by rfl) m_level_and_size k_level_and_size b_level_and_size v_level_and_size pass0 (pa_cons (pv 0) (pa_cons (pv 1) (pa_cons (pv 2) pa_nil)))) (pg_tupK (K := K) (n := 2) rfl rfl (pgs_cons (pg_name (i := 3) sc_path.nd rfl (.inl rfl)) (pgs_cons (pg_name (i := 4) sc_path.nd rfl (.inl rfl)) pgs_nil))))
      (pss_cons (ps_set (i := 5) sc_path.nd rfl (.inl rfl) (pe_lst (pa_cons (pe_tup (pa_cons (pv 3) (pa_cons (pe_op op_remN (pe_op op_divN (pv 2) (pv 4)) (pv 0)) (pa_cons (pv 1) pa_nil)))) pa_nil)))
      (pss_cons (ps_while PassesOwn.never (pt_cmpR op_gt (pv 3) pe_int (nomark _))
        (pss_cons (ps_set (i := 6) sc_path.nd rfl (.inl rfl) (pe_op op_mulN (pe_op op_divN (pv 2) (pv 4)) (pv 4)))
        (pss_cons (ps_par (i := 3) (j := 4) (by rfl) sc_path.nd rfl rfl (by decide) rfl rfl (pa_cons (pe_op op_subN (pv 3) pe_int) (pa_cons (pe_op op_divN (pv 4) (pv 0)) pa_nil)) (by rfl))
        (pss_cons (ps_set (i := 7) sc_path.nd rfl (.inl rfl) (pe_op op_remN (pe_op op_divN (pv 2) (pv 4)) (pv 0)))
        (pss_one (ps_if (pt_cmpR op_ne (pv 7) pe_int (nomark _))
          (pss_one (ps_expr (pe_bm PySem.F.plainAttrs_list PySem.F.slot_list_append PySem.F.type_list_append mt_append (pv 5) (pa_cons (pe_tup (pa_cons (pv 3) (pa_cons (pv 7) (pa_cons (pv 6) pa_nil)))) pa_nil))))
          pss_nil))))))
      (pss_one (ps_ret (pv 5)))))), ?_⟩
    refine ⟨_, rfl, _, rfl, _, rfl, b, n, d, rfl, hb, hb64, hnd, hd, fun k hk H0 t0 s0 ht0 eT0 => ?_⟩
    have hkd : ∀ j, j ≤ k → b ^ j ≤ d := fun j hj => Nat.le_trans (Nat.pow_le_pow_right (by omega) hj) (hk.size hb hnd)
    have hk250 : k < 250 := lev_small hk hb hnd hd
    have cs : ∀ j, j ≤ k → ∀ x : Nat, NDiv x (b ^ j) := fun j hj x => ndiv 250 (pow_pos' hb j) (Nat.lt_of_le_of_lt (hkd j hj) hd)
    -- level, size = ..
    refine ⟨t0, _, rfl, .inl (.inl eT0), rfl, _, _, rfl, _, _, rfl, rfl, ?_⟩
    -- rows = [(level, due // size % base, now)]
    refine ⟨_, rfl, _, rfl, _, rfl, _, _, rfl, rfl, cs k (Nat.le_refl k) _, _, rfl, _, _, rfl, rfl, hb0, _, rfl, by simp [sizeLine_eq], fun t1 ht1 => ?_⟩
    have s1 := s0.trans (same_upd (o := .tup (rowV (k, d / b ^ k % b, n))) ht1)
    refine ⟨by simp [sizeLine_eq], fun p hp => ?_⟩
    have s2 := s1.trans (same_upd (o := .lst [.ref t1]) hp)
    have np1 : t1 ≠ p := fun e => by
      rw [← e, upd_same] at hp
      cases hp
    have hpH : H p = none := s1.free hp
    refine while_by (fun σ H' => ∃ (j : Nat) (ts : List Addr) (done : List Row3) (y6 y7 : Option V), σ = [some (.int (b : Int)), some (.int (n : Int)), some (.int (d : Int)), some (.int (j : Int)), some (.int ((b ^ j : Nat) : Int)), some (.ref p), y6, y7] ∧ j ≤ k ∧ ts.length + j ≤ k + 1 ∧ Same H H' ∧ H' p = some (.lst (ts.map V.ref)) ∧ RowsAt H' ts ((k, d / b ^ k % b, n) :: done) ∧ tailOf b d k = done ++ tailOf b d j)
      (fun σ _ => slotInt σ 3) ⟨k, [t1], [], none, none, rfl, Nat.le_refl k, by simp; omega, s2, upd_same, ⟨?_, trivial⟩, rfl⟩ ?_ ?_
    · rw [upd_ne np1, upd_same]
      rfl
    · rintro σ H' ⟨j, ts, done, y6, y7, rfl, hjk, hlen, sm, eL, R, et⟩
      cases j with
      | zero =>
        refine ⟨_, rfl, ((0 : Nat) : Int), 0, rfl, rfl, false, rfl, iteF ?_⟩
        refine ⟨_, rfl, q k hk H' p ts sm hpH eL ?_⟩
        have e : done = tailOf b d k := by
          rw [et]
          exact (List.append_nil done).symm
        rw [e] at R
        exact R
      | succ j =>
        have hj0 : (0 : Int) < ((j + 1 : Nat) : Int) := by omega
        refine ⟨_, rfl, _, _, rfl, rfl, true, congrArg V.bl (decide_eq_true hj0), iteT ?_⟩
        -- tick = due // size * size
        refine ⟨_, rfl, _, rfl, _, _, rfl, rfl, cs (j + 1) hjk _, _, rfl, _, _, rfl, rfl, nmul_w 250 250 (Nat.lt_of_le_of_lt (Nat.div_le_self d _) hd) (Nat.lt_of_le_of_lt (hkd (j + 1) hjk) hd), ?_⟩
        -- level, size = level - 1, size // base
        refine ⟨_, rfl, j + 1, 1, rfl, rfl, Nat.le_add_left 1 j, _, rfl, _, rfl, b ^ (j + 1), b, rfl, rfl, cb _, .int (j : Nat), .int ((b ^ j : Nat) : Int), ?_, ?_⟩
        · show [V.int ((j + 1 - 1 : Nat) : Int), V.int ((b ^ (j + 1) / b : Nat) : Int)] = _
          rw [Nat.pow_succ, Nat.mul_div_cancel _ hb0]
          rfl
        -- digit = due // size % base
        refine ⟨_, rfl, _, rfl, d, b ^ j, rfl, rfl, cs j (by omega) _, _, rfl, _, _, rfl, rfl, hb0, ?_⟩
        have lt : slotInt [some (.int (b : Int)), some (.int (n : Int)), some (.int (d : Int)), some (.int (j : Int)), some (.int ((b ^ j : Nat) : Int)), some (.ref p), some (.int ((d / b ^ (j + 1) * b ^ (j + 1) : Nat) : Int)), some (.int ((d / b ^ j % b : Nat) : Int))] 3 < ((j + 1 : Nat) : Int).toNat := by
          show ((j : Int)).toNat < _
          omega
        by_cases h0 : d / b ^ j % b = 0
        · refine ⟨_, rfl, rfl, false, nF (vE h0), iteF ?_⟩
          · refine ⟨⟨j, ts, done, _, _, rfl, by omega, by omega, sm, eL, R, ?_⟩, lt⟩
            rw [et]
            show done ++ tailOf b d (j + 1) = done ++ tailOf b d j
            have : tailOf b d (j + 1) = tailOf b d j := if_neg (fun z => z h0)
            rw [this]
        · refine ⟨_, rfl, rfl, true, nT (vN (b := 0) h0), iteT ?_⟩
          · -- rows.append((level, digit, tick))
            refine ⟨_, rfl, .inl ⟨rfl, _, .inl (.inl eL)⟩, _, rfl, _, rfl, _, rfl, by simp [sizeLine_eq], fun t2 ht2 => ?_⟩
            have s3 := same_upd (o := .tup (rowV (j, d / b ^ j % b, d / b ^ (j + 1) * b ^ (j + 1)))) ht2
            have npt : t2 ≠ p := fun e => by
              rw [e, eL] at ht2
              cases ht2
            have eL' := s3 _ _ eL
            refine ⟨p, _, _, rfl, rfl, eL', ?_, ?_⟩
            · rw [List.length_map]
              exact sizeLine_ge (by omega)
            · refine ⟨⟨j, ts ++ [t2], done ++ [(j, d / b ^ j % b, d / b ^ (j + 1) * b ^ (j + 1))], _, _, rfl, by omega, ?_, fun c o e => ?_, ?_, ?_, ?_⟩, lt⟩
              · rw [List.length_append, List.length_singleton]
                omega
              · rw [upd_ne (ne_of_none e hpH)]
                exact s3 _ _ (sm _ _ e)
              · rw [upd_same, List.map_append]
                rfl
              · refine RowsAt.upd eL' ?_
                exact RowsAt.app (r := (j, d / b ^ j % b, d / b ^ (j + 1) * b ^ (j + 1))) (rs := (k, d / b ^ k % b, n) :: done) (R.same s3) upd_same
              · rw [et, List.append_assoc]
                show done ++ tailOf b d (j + 1) = done ++ ((j, d / b ^ j % b, d / b ^ (j + 1) * b ^ (j + 1)) :: tailOf b d j)
                have : tailOf b d (j + 1) = (j, d / b ^ j % b, d / b ^ (j + 1) * b ^ (j + 1)) :: tailOf b d j := if_pos h0
                rw [this]
    · rintro σ H' Q1 Q2 h ⟨x, hx, i, j, e1, e2, k, e, z⟩
      exact ⟨x, hx, i, j, e1, e2, k, e, h _ _ z⟩
end
theorem RowsAt.item {H : Hp} {ts : List Addr} {rs : List Row3} (R : RowsAt H ts rs) {i : Nat} {x : V} (hx : (ts.map V.ref)[i]? = some x) : ∃ ti r, x = V.ref ti ∧ ts[i]? = some ti ∧ rs[i]? = some r ∧ H ti = some (.tup (rowV r)) := by
  rw [List.getElem?_map] at hx
  cases e : ts[i]? with
  | none =>
    rw [e] at hx
    cases hx
  | some ti =>
    rw [e] at hx
    obtain ⟨r, hr, er⟩ := R.get e
    exact ⟨ti, r, (Option.some.inj hx).symm, rfl, hr, er⟩
section
variable {P : Program} {w : World} {K : PySem.W.Frag} {mg : Str → Option Value} {base : Heap}
def spWordAt (K : PySem.W.Frag) : Sp := fun vs H Q _ => ∃ (q : Addr) (ws : List Bool) (k : Nat), vs = [.ref q, .int (k : Nat)] ∧ SqL K H q (ws.map lvV) ∧ ws ≠ [] ∧ Q (lvV (wordAt ws k)) H
theorem ok_word_at {f : Addr} {fd : FuncData} (F : Fun K "word_at" "word_at" s_word_at f fd) (T : Tx K mg) : FnOk P w K mg base CX0 1 f fd ["levels", "level"] (spWordAt K) := by
  refine F.ok sc_word_at (fun vs H Q E h => ?_) (fun cdv A outer s H vs Q E hr h => ?_)
  · obtain ⟨q, ws, k, rfl, _⟩ := h
    rfl
  · obtain ⟨q, ws, k, rfl, hL, hne, c⟩ := h
    have hp : 0 < ws.length := List.length_pos_iff.mpr hne
    have hpm : 1 ≤ (ws.map lvV).length := by
      rw [List.length_map]
      exact hp
    refine ⟨_, (pss_one (ps_ret (pe_ix (ix_listK (K := K) rfl) (pv 0) (pe_callB (call_min2 rfl) (by rfl) T.b_min (by decide +kernel) (pa_cons (pv 1) (pa_cons (pe_op op_subN (pe_callB (lenK (K := K) rfl) (by rfl) T.b_len PySem.boot_len (pa_cons (pv 0) pa_nil)) pe_int) pa_nil))) (fun _ _ => rfl)))), ?_⟩
    have g := word_get hne k
    refine ⟨.ref q, rfl, _, rfl, .ref q, rfl, q, _, rfl, .inl hL, (ws.map lvV).length, 1, rfl, rfl, hpm, k, _, rfl, q, _, ((min k (ws.length - 1) : Nat) : Int), _, rfl, congrArg V.int ?_, hL, atI_nat g, c⟩
    dsimp only
    rw [List.length_map]
    split <;> omega
def WordsAt (K : PySem.W.Frag) (mg : Str → Option Value) : Prop := ∃ a, mg "WORDS" = some (.ref a) ∧ ∀ H, SqT K H a [.str "stack", .str "queue"]
def MostAt (mg : Str → Option Value) : Prop := ∃ t, mg "MOST_LEVELS" = some (.int 60 t)
def spIsWord : Sp := fun vs H Q _ => ∃ b : Bool, vs = [lvV b] ∧ Q (.bl true) H
theorem ok_is_word {f : Addr} {fd : FuncData} (F : Fun K "is_word" "is_word" s_is_word f fd) (T : Tx K mg) (hW : WordsAt K mg) : FnOk P w K mg base CX0 1 f fd ["given"] spIsWord := by
  obtain ⟨a_WORDS, g_WORDS, sW⟩ := hW
  refine F.ok sc_is_word (fun vs H Q E h => ?_) (fun cdv A outer s H vs Q E hr h => ?_)
  · obtain ⟨b, rfl, _⟩ := h
    rfl
  · obtain ⟨b, rfl, c⟩ := h
    refine ⟨_, (pss_one (ps_ret (pe_and (pe_callB (isiK (K := K) rfl) (by rfl) T.b_isinstance (by decide +kernel) (pa_cons (pv 0) (pa_cons (pe_bltn (v := .ty "str") (u := .type "str") (by rfl) T.b_str (by decide +kernel) rfl) pa_nil))) (pe_one (pe_cmpR op_in_seq (pv 0) (pe_glob (v := .ref a_WORDS) rfl g_WORDS rfl) (by rfl)))))), ?_⟩
    obtain ⟨x, ex, hx⟩ : ∃ x : Str, lvV b = .str x ∧ (if false then !inV (V.str x) [.str "stack", .str "queue"] else inV (V.str x) [.str "stack", .str "queue"]) = true := by
      cases b
      · exact ⟨_, rfl, by decide⟩
      · exact ⟨_, rfl, by decide⟩
    rw [ex]
    refine ⟨.str x, rfl, _, _, _, _, true, rfl, .ty "str", .base (.str x), kit_ty (by decide +kernel), true, rfl, iteT ?_⟩
    refine ⟨.str x, rfl, a_WORDS, _, rfl, .inr (sW _), rfl, rfl, ?_⟩
    rw [hx]
    exact c
def spIsLength : Sp := fun vs H Q _ => ∃ n : Int, vs = [.int n] ∧ 1 ≤ n ∧ n ≤ 60 ∧ Q (.bl true) H
theorem ok_is_length {f : Addr} {fd : FuncData} (F : Fun K "is_length" "is_length" s_is_length f fd) (hM : MostAt mg) (h1 : Has P w K mg base 1 "is_integer" ["given"] [] spIsInt) : FnOk P w K mg base CX0 2 f fd ["given"] spIsLength := by
  obtain ⟨tM, g_MOST_LEVELS⟩ := hM
  obtain ⟨f_is_integer, fd_is_integer, ds_is_integer, G_is_integer, m_is_integer, k_is_integer, b_is_integer, v_is_integer⟩ := h1
  refine F.ok sc_is_length (fun vs H Q E h => ?_) (fun cdv A outer s H vs Q E hr h => ?_)
  · obtain ⟨n, rfl, _⟩ := h
    rfl
  · obtain ⟨n, rfl, l1, l2, q⟩ := h
    refine ⟨_, (pss_one (ps_ret (pe_and (pe_call G_is_integer hr (by rfl) m_is_integer k_is_integer b_is_integer v_is_integer pass0 (pa_cons (pv 0) pa_nil)) (pe_one (pe_chain op_le op_le pe_int (pv 0) (pe_glob (v := .int 60) rfl g_MOST_LEVELS ⟨_, rfl⟩)))))), ?_⟩
    refine ⟨.int n, rfl, n, rfl, true, rfl, iteT ?_⟩
    refine ⟨.int n, rfl, 1, n, rfl, rfl, true, congrArg V.bl (decide_eq_true l1), iteT ?_⟩
    refine ⟨n, 60, rfl, rfl, ?_⟩
    have e : V.bl (decide (n ≤ 60)) = V.bl true := dT l2
    show Q (V.bl (decide (n ≤ 60))) H
    rw [e]
    exact q
def spAreLevels (K : PySem.W.Frag) : Sp := fun vs H Q _ => ∃ (q : Addr) (ws : List Bool), vs = [.ref q] ∧ SqL K H q (ws.map lvV) ∧ ws ≠ [] ∧ ws.length ≤ 60 ∧ ∀ H', Same H H' → Q (.bl true) H'
theorem ok_are_levels {f : Addr} {fd : FuncData} (F : Fun K "are_levels" "are_levels" s_are_levels f fd) (T : Tx K mg) (h0 : Has P w K mg base 2 "is_length" ["given"] [] spIsLength) (h1 : Has P w K mg base 1 "is_word" ["given"] [] spIsWord) : FnOk P w K mg base CX0 3 f fd ["given"] (spAreLevels K) := by
  obtain ⟨f_is_length, fd_is_length, ds_is_length, G_is_length, m_is_length, k_is_length, b_is_length, v_is_length⟩ := h0
  obtain ⟨f_is_word, fd_is_word, ds_is_word, G_is_word, m_is_word, k_is_word, b_is_word, v_is_word⟩ := h1
  refine F.ok sc_are_levels (fun vs H Q E h => ?_) (fun cdv A outer s H vs Q E hr h => ?_)
  · obtain ⟨q, ws, rfl, _⟩ := h
    rfl
  · obtain ⟨q, ws, rfl, hL, hne, h60, c⟩ := h
    have hp : 0 < ws.length := List.length_pos_iff.mpr hne
    refine ⟨_, (pss_cons (ps_if (PW.pt (pw_or (pt_not (pt_val (pe_callB (isiK (K := K) rfl) (by rfl) T.b_isinstance (by decide +kernel) (pa_cons (pv 0) (pa_cons (pe_bltn (v := .ty "list") (u := .type "list") (by rfl) T.b_list (by decide +kernel) rfl) pa_nil))))) (pw_or1 (pt_not (pt_val (pe_call G_is_length hr (by rfl) m_is_length k_is_length b_is_length v_is_length pass0 (pa_cons (pe_callB (lenK (K := K) rfl) (by rfl) T.b_len PySem.boot_len (pa_cons (pv 0) pa_nil)) pa_nil)))))))
        (pss_one (ps_ret pe_bl))
        pss_nil)
      (pss_one (ps_ret (pe_callB (allK (K := K) rfl rfl) (by rfl) T.b_all (by decide +kernel) (pa_cons (pe_lc (own := [("word", 1)]) (g := gName 1) (tt := tYes) rfl sc_are_levels.nd (pi_list (pv 0)) (blkOk_by (own := [("word", 1)]) (N := N_are_levels) (sc := defScope s_are_levels) (by decide +kernel)) (fun _ _ _ _ _ => (pg_name (i := 1) sc_are_levels.nd rfl (.inl rfl))) (fun _ _ _ _ _ => pts_nil) (fun _ _ _ _ _ => (pe_call G_is_word (hr.mono (by decide)) (by rfl) m_is_word k_is_word b_is_word v_is_word pass0 (pa_cons (pv 1) pa_nil)))) pa_nil))))), ?_⟩
    refine ⟨.ref q, rfl, _, _, _, _, true, rfl, .ty "list", tyx_list hL, kit_ty (by decide +kernel), true, rfl, iteF ?_⟩
    refine ⟨.ref q, rfl, q, _, rfl, .inl hL, _, rfl, ?_, ?_, true, rfl, iteF ?_⟩
    · rw [List.length_map]
      omega
    · rw [List.length_map]
      omega
    refine ⟨.ref q, rfl, q, rfl, ⟨_, hL⟩, fun D hD => lc_list (K := K) (a := q) (xs := ws.map lvV) (fun i H' => Same H H' ∧ H' D = some (.lst ((List.replicate i true).map V.bl)))
      ⟨same_upd hD, upd_same⟩ (fun i H' _ ⟨sm, _⟩ => sm.seq hL) ?_ ?_⟩
    · rintro i x H' hx ⟨sm, eD⟩
      obtain ⟨b, rfl⟩ : ∃ b, x = lvV b := by
        rw [List.getElem?_map] at hx
        cases e : ws[i]? with
        | none =>
          rw [e] at hx
          cases hx
        | some b =>
          rw [e] at hx
          exact ⟨b, (Option.some.inj hx).symm⟩
      have hi : i < (ws.map lvV).length := (List.getElem?_eq_some_iff.mp hx).1
      rw [List.length_map] at hi
      refine ⟨rfl, yesT (iteT ?_)⟩
      refine ⟨_, rfl, b, rfl, _, eD, ?_, fun c o e => ?_, ?_⟩
      · rw [List.length_map, List.length_replicate]
        exact sizeLine_ge (by omega)
      · rw [upd_ne (ne_of_none e hD)]
        exact sm _ _ e
      · rw [upd_same, List.replicate_succ', List.map_append]
        rfl
    · rintro H1 ⟨s1, eD⟩
      refine ⟨D, _, rfl, SqL.of eD, ?_⟩
      have ea : (List.replicate (ws.map lvV).length true).all id = true := by
        rw [List.all_replicate]
        simp
      rw [ea]
      exact c H1 s1
def spCheckLevels (K : PySem.W.Frag) : Sp := fun vs H Q _ => ∃ (q : Addr) (ws : List Bool), vs = [.ref q] ∧ SqL K H q (ws.map lvV) ∧ ws ≠ [] ∧ ws.length ≤ 60 ∧ ∀ H', Same H H' → Q .non H'
theorem ok_check_levels {f : Addr} {fd : FuncData} (F : Fun K "check_levels" "check_levels" s_check_levels f fd) (h1 : Has P w K mg base 3 "are_levels" ["given"] [] (spAreLevels K)) : FnOk P w K mg base CX0 4 f fd ["levels"] (spCheckLevels K) := by
  obtain ⟨f_are_levels, fd_are_levels, ds_are_levels, G_are_levels, m_are_levels, k_are_levels, b_are_levels, v_are_levels⟩ := h1
  refine F.ok sc_check_levels (fun vs H Q E h => ?_) (fun cdv A outer s H vs Q E hr h => ?_)
  · obtain ⟨q, ws, rfl, _⟩ := h
    rfl
  · obtain ⟨q, ws, rfl, hL, hne, h60, c⟩ := h
    refine ⟨_, (pss_one (ps_if (pt_not (pt_val (pe_call G_are_levels hr (by rfl) m_are_levels k_are_levels b_are_levels v_are_levels pass0 (pa_cons (pv 0) pa_nil))))
        (pss_one ps_never)
        pss_nil)), ?_⟩
    exact ⟨_, rfl, q, ws, rfl, hL, hne, h60, fun H1 s1 => ⟨true, rfl, iteF (c H1 s1)⟩⟩
end
section
variable {P : Program} {w : World} {K : PySem.W.Frag} {mg : Str → Option Value} {base : Heap}
def spFront (K : PySem.W.Frag) : Sp := fun vs H Q _ => ∃ (b n d lo : Nat) (q : Addr) (ws : List Bool), vs = [.int (b : Nat), .ref q, .int (n : Nat), .int (d : Nat), .int (lo : Nat)] ∧ 2 ≤ b ∧ b ≤ 64 ∧ n < d ∧ d < 2 ^ 250 ∧ SqL K H q (ws.map lvV) ∧ ws ≠ [] ∧
  ∀ k, IsLev b n d k → ∀ H', Same H H' → Q (.bl (frontOf ws lo (rowsOf b n d k))) H'
theorem ok_goes_in_front {f : Addr} {fd : FuncData} (F : Fun K "goes_in_front" "goes_in_front" s_goes_in_front f fd) (h1 : Has P w K mg base 2 "path" ["base", "now", "due"] [] spPath) (h2 : Has P w K mg base 1 "word_at" ["levels", "level"] [] (spWordAt K)) :
    FnOk P w K mg base CX0 3 f fd ["base", "levels", "now", "due", "lowest"] (spFront K) := by
  obtain ⟨f_path, fd_path, ds_path, G_path, m_path, k_path, b_path, v_path⟩ := h1
  obtain ⟨f_word_at, fd_word_at, ds_word_at, G_word_at, m_word_at, k_word_at, b_word_at, v_word_at⟩ := h2
  refine F.ok sc_goes_in_front (fun vs H Q E h => ?_) (fun cdv A outer s H vs Q E hr h => ?_)
  · obtain ⟨b, n, d, lo, q, ws, rfl, _⟩ := h
    rfl
  · obtain ⟨b, n, d, lo, q, ws, rfl, hb, hb64, hnd, hd, hL, hne, c⟩ := h
    refine ⟨_, (pss_cons (ps_set (i := 5) sc_goes_in_front.nd rfl (.inl rfl) pe_bl)
      (pss_cons (ps_for PassesOwn.never rfl (pi_list (pe_call G_path hr (by rfl) m_path k_path b_path v_path pass0 (pa_cons (pv 0) (pa_cons (pv 2) (pa_cons (pv 3) pa_nil))))) (pg_tupK (K := K) (n := 3) rfl rfl (pgs_cons (pg_name (i := 6) sc_goes_in_front.nd rfl (.inl rfl)) (pgs_cons (pg_name (i := 7) sc_goes_in_front.nd rfl (.inl rfl)) (pgs_cons (pg_name (i := 8) sc_goes_in_front.nd rfl (.inl rfl)) pgs_nil))))
        (pss_one (ps_if (PW.pt (pw_and (pt_cmpR op_ge (pv 6) (pv 4) (nomark _)) (pw_and1 (pt_cmpR op_eq (pe_call G_word_at (hr.mono (by decide)) (by rfl) m_word_at k_word_at b_word_at v_word_at pass0 (pa_cons (pv 1) (pa_cons (pv 6) pa_nil))) pe_str (nomark _)))))
          (pss_one (ps_set (i := 5) sc_goes_in_front.nd rfl (.inl rfl) (pe_not (pv 5))))
          pss_nil)))
      (pss_one (ps_ret (pv 5))))), ?_⟩
    refine ⟨_, rfl, _, rfl, _, rfl, b, n, d, rfl, hb, hb64, hnd, hd, fun k hk H1 p ts s1 hp0 hp R => ?_⟩
    refine ⟨p, rfl, ⟨_, SqL.of hp⟩, for_list (K := K) (a := p) (xs := ts.map V.ref) (fun i σ H' => ∃ y6 y7 y8, σ = [some (.int (b : Nat)), some (.ref q), some (.int (n : Nat)), some (.int (d : Nat)), some (.int (lo : Nat)), some (.bl (frontOf ws lo ((rowsOf b n d k).take i))), y6, y7, y8] ∧ H' = H1)
      ⟨none, none, none, rfl, rfl⟩ (fun i σ H' _ ⟨_, _, _, _, e⟩ => by rw [e]; exact SqL.of hp) ?_ ?_⟩
    · rintro i x σ H' hx ⟨y6, y7, y8, rfl, rfl⟩
      obtain ⟨ti, r, rfl, hti, hr, er⟩ := R.item hx
      have hstep : frontOf ws lo ((rowsOf b n d k).take (i + 1)) = if (decide (lo ≤ r.1) && wordAt ws r.1) = true then !frontOf ws lo ((rowsOf b n d k).take i) else frontOf ws lo ((rowsOf b n d k).take i) := by
        rw [List.take_add_one, hr]
        exact front_snoc ws lo _ r
      refine ⟨ti, _, rfl, .inl (.inl er), rfl, _, _, rfl, _, _, rfl, _, _, rfl, rfl, ?_⟩
      have hL1 := s1.seq hL
      by_cases hlo : lo ≤ r.1
      · refine ⟨_, rfl, _, rfl, _, _, rfl, rfl, true, dT (by omega), iteT ?_⟩
        refine ⟨_, rfl, _, rfl, q, ws, r.1, rfl, hL1, hne, ?_, wordAt ws r.1, congrArg V.bl (lv_dec _), ?_⟩
        · cases wordAt ws r.1 <;> rfl
        cases hw : wordAt ws r.1 with
        | true =>
          refine iteT ⟨_, rfl, _, rfl, ⟨some (.int (r.1 : Nat)), some (.int (r.2.1 : Nat)), some (.int (r.2.2 : Nat)), ?_, rfl⟩⟩
          rw [hstep, hw, decide_eq_true hlo]
          rfl
        | false =>
          refine iteF ⟨some (.int (r.1 : Nat)), some (.int (r.2.1 : Nat)), some (.int (r.2.2 : Nat)), ?_, rfl⟩
          rw [hstep, hw, decide_eq_true hlo]
          rfl
      · refine ⟨_, rfl, _, rfl, _, _, rfl, rfl, false, dF (by omega), iteF (iteF ⟨some (.int (r.1 : Nat)), some (.int (r.2.1 : Nat)), some (.int (r.2.2 : Nat)), ?_, rfl⟩)⟩
        rw [hstep, decide_eq_false hlo]
        rfl
    · rintro σ H' ⟨y6, y7, y8, rfl, rfl⟩
      have e : (rowsOf b n d k).take (ts.map V.ref).length = rowsOf b n d k := by
        refine List.take_of_length_le ?_
        rw [List.length_map]
        exact Nat.le_of_eq R.len.symm
      rw [e]
      exact ⟨_, rfl, c k hk _ s1⟩
end
/-! ### a period, of an integer -/
section
variable {P : Program} {w : World} {K : PySem.W.Frag} {mg : Str → Option Value} {base : Heap}
def spIsPeriod : Sp := fun vs H Q _ => ∃ n : Int, vs = [.int n] ∧ 1 ≤ n ∧ Q (.bl true) H
theorem ok_is_period {f : Addr} {fd : FuncData} (F : Fun K "is_period" "is_period" s_is_period f fd) (h1 : Has P w K mg base 1 "is_integer" ["given"] [] spIsInt) : FnOk P w K mg base CX0 2 f fd ["given"] spIsPeriod := by
  obtain ⟨f_is_integer, fd_is_integer, ds_is_integer, G_is_integer, m_is_integer, k_is_integer, b_is_integer, v_is_integer⟩ := h1
  refine F.ok sc_is_period (fun vs H Q E h => ?_) (fun cdv A outer s H vs Q E hr h => ?_)
  · obtain ⟨n, rfl, _⟩ := h
    rfl
  · obtain ⟨n, rfl, l1, q⟩ := h
    refine ⟨_, (pss_one (ps_ret (pe_and (pe_call G_is_integer hr (by rfl) m_is_integer k_is_integer b_is_integer v_is_integer pass0 (pa_cons (pv 0) pa_nil)) (pe_one (pe_cmpR op_ge (pv 0) pe_int (nomark _)))))), ?_⟩
    refine ⟨.int n, rfl, n, rfl, true, rfl, iteT ?_⟩
    refine ⟨.int n, rfl, n, 1, rfl, rfl, ?_⟩
    have e : V.bl (decide (n ≥ 1)) = V.bl true := dT l1
    show Q (V.bl (decide (n ≥ 1))) H
    rw [e]
    exact q
end
/-! ### the program: periodic timers, which of two is ahead -/
section
variable {P : Program} {w : World} {K : PySem.W.Frag} {mg : Str → Option Value} {base : Heap}
theorem tyx_tup {K : PySem.W.Frag} {H : Hp} {a : Addr} {xs : List V} (h : H a = some (.tup xs)) : TyX K H (.ref a) (.type "tuple") := .base (.tup h)
def spPeriodic : Sp := fun vs H Q _ => ∃ (t : Addr) (a p : Nat), vs = [.ref t] ∧ H t = some (.tup [.int (a : Nat), .int (p : Nat)]) ∧ 1 ≤ p ∧ Q (.bl true) H
theorem ok_is_periodic {f : Addr} {fd : FuncData} (F : Fun K "is_periodic" "is_periodic" s_is_periodic f fd) (T : Tx K mg) (h1 : Has P w K mg base 2 "is_tick" ["given", "least"] [.int 0] spIsTick) (h2 : Has P w K mg base 2 "is_period" ["given"] [] spIsPeriod) : FnOk P w K mg base CX0 3 f fd ["given"] spPeriodic := by
  obtain ⟨f_is_tick1, fd_is_tick1, ds_is_tick1, G_is_tick1, m_is_tick1, k_is_tick1, b_is_tick1, v_is_tick1⟩ := h1
  obtain ⟨f_is_period, fd_is_period, ds_is_period, G_is_period, m_is_period, k_is_period, b_is_period, v_is_period⟩ := h2
  refine F.ok sc_is_periodic (fun vs H Q E h => ?_) (fun cdv A outer s H vs Q E hr h => ?_)
  · obtain ⟨t, a, p, rfl, _⟩ := h
    rfl
  · obtain ⟨t, a, p, rfl, ht, hp, q⟩ := h
    refine ⟨_, (pss_cons (ps_if (PW.pt (pw_or (pt_not (pt_val (pe_callB (isiK (K := K) rfl) (by rfl) T.b_isinstance (by decide +kernel) (pa_cons (pv 0) (pa_cons (pe_bltn (v := .ty "tuple") (u := .type "tuple") (by rfl) T.b_tuple (by decide +kernel) rfl) pa_nil))))) (pw_or1 (pt_cmpR op_ne (pe_callB (lenK (K := K) rfl) (by rfl) T.b_len PySem.boot_len (pa_cons (pv 0) pa_nil)) pe_int (nomark _)))))
        (pss_one (ps_ret pe_bl))
        pss_nil)
      (pss_cons (ps_asg (pv 0) (pg_tupK (K := K) (n := 2) rfl rfl (pgs_cons (pg_name (i := 1) sc_is_periodic.nd rfl (.inl rfl)) (pgs_cons (pg_name (i := 2) sc_is_periodic.nd rfl (.inl rfl)) pgs_nil))))
      (pss_one (ps_ret (pe_and (pe_call G_is_tick1 hr (by rfl) m_is_tick1 k_is_tick1 b_is_tick1 v_is_tick1 pass0 (pa_cons (pv 1) pa_nil)) (pe_one (pe_call G_is_period hr (by rfl) m_is_period k_is_period b_is_period v_is_period pass0 (pa_cons (pv 2) pa_nil)))))))), ?_⟩
    refine ⟨.ref t, rfl, _, _, _, _, true, rfl, .ty "tuple", tyx_tup ht, kit_ty (by decide +kernel), true, rfl, iteF ?_⟩
    refine ⟨.ref t, rfl, t, _, rfl, .inr (.inl (.inl ht)), rfl, false, nF rfl, iteF ?_⟩
    refine ⟨.ref t, rfl, t, _, rfl, .inl (.inl ht), rfl, _, _, rfl, _, _, rfl, rfl, ?_⟩
    refine ⟨_, rfl, (a : Nat), 0, rfl, by omega, true, rfl, iteT ?_⟩
    exact ⟨_, rfl, (p : Nat), rfl, by omega, q⟩
def spCheckPeriodic : Sp := fun vs H Q _ => ∃ (t : Addr) (a p : Nat), vs = [.ref t] ∧ H t = some (.tup [.int (a : Nat), .int (p : Nat)]) ∧ 1 ≤ p ∧ Q .non H
theorem ok_check_periodic {f : Addr} {fd : FuncData} (F : Fun K "check_periodic" "check_periodic" s_check_periodic f fd) (h1 : Has P w K mg base 3 "is_periodic" ["given"] [] spPeriodic) : FnOk P w K mg base CX0 4 f fd ["given"] spCheckPeriodic := by
  obtain ⟨f_is_periodic, fd_is_periodic, ds_is_periodic, G_is_periodic, m_is_periodic, k_is_periodic, b_is_periodic, v_is_periodic⟩ := h1
  refine F.ok sc_check_periodic (fun vs H Q E h => ?_) (fun cdv A outer s H vs Q E hr h => ?_)
  · obtain ⟨t, a, p, rfl, _⟩ := h
    rfl
  · obtain ⟨t, a, p, rfl, ht, hp, q⟩ := h
    refine ⟨_, (pss_one (ps_if (pt_not (pt_val (pe_call G_is_periodic hr (by rfl) m_is_periodic k_is_periodic b_is_periodic v_is_periodic pass0 (pa_cons (pv 0) pa_nil))))
        (pss_one ps_never)
        pss_nil)), ?_⟩
    exact ⟨_, rfl, t, a, p, rfl, ht, hp, true, rfl, iteF q⟩
end
/-! ### the program: which of two periodic timers is ahead -/
section
variable {P : Program} {w : World} {K : PySem.W.Frag} {mg : Str → Option Value} {base : Heap}
def spCheckTwo : Sp := fun vs H Q _ => ∃ (t1 t2 : Addr) (a1 p1 a2 p2 : Nat), vs = [.ref t1, .ref t2] ∧ H t1 = some (.tup [.int (a1 : Nat), .int (p1 : Nat)]) ∧ H t2 = some (.tup [.int (a2 : Nat), .int (p2 : Nat)]) ∧ 1 ≤ p1 ∧ 1 ≤ p2 ∧ p1 ≠ p2 ∧ Q .non H
theorem ok_check_two {f : Addr} {fd : FuncData} (F : Fun K "check_two" "check_two" s_check_two f fd) (h1 : Has P w K mg base 4 "check_periodic" ["given"] [] spCheckPeriodic) : FnOk P w K mg base CX0 5 f fd ["one", "other"] spCheckTwo := by
  obtain ⟨f_check_periodic, fd_check_periodic, ds_check_periodic, G_check_periodic, m_check_periodic, k_check_periodic, b_check_periodic, v_check_periodic⟩ := h1
  refine F.ok sc_check_two (fun vs H Q E h => ?_) (fun cdv A outer s H vs Q E hr h => ?_)
  · obtain ⟨t1, t2, a1, p1, a2, p2, rfl, _⟩ := h
    rfl
  · obtain ⟨t1, t2, a1, p1, a2, p2, rfl, e1, e2, hp1, hp2, hne, q⟩ := h
    refine ⟨_, (pss_cons (ps_expr (pe_call G_check_periodic hr (by rfl) m_check_periodic k_check_periodic b_check_periodic v_check_periodic pass0 (pa_cons (pv 0) pa_nil)))
      (pss_cons (ps_expr (pe_call G_check_periodic hr (by rfl) m_check_periodic k_check_periodic b_check_periodic v_check_periodic pass0 (pa_cons (pv 1) pa_nil)))
      (pss_one (ps_if (pt_cmpR op_eq (pe_ix (ix_tupK (K := K) rfl) (pv 0) pe_int (fun _ _ => rfl)) (pe_ix (ix_tupK (K := K) rfl) (pv 1) pe_int (fun _ _ => rfl)) (nomark _))
        (pss_one ps_never)
        pss_nil)))), ?_⟩
    refine ⟨_, rfl, t1, a1, p1, rfl, e1, hp1, ?_⟩
    refine ⟨_, rfl, t2, a2, p2, rfl, e2, hp2, ?_⟩
    refine ⟨.ref t1, rfl, t1, _, 1, _, rfl, rfl, .inl (.inl e1), atI_nat (j := 1) rfl, .ref t2, rfl, t2, _, 1, _, rfl, rfl, .inl (.inl e2), atI_nat (j := 1) rfl, rfl, false, dF (vN hne), iteF ?_⟩
    exact q
def spAhead (K : PySem.W.Frag) : Sp := fun vs H Q _ => ∃ (b d a1 p1 a2 p2 : Nat) (q t1 t2 : Addr) (ws : List Bool), vs = [.int (b : Nat), .ref q, .ref t1, .ref t2, .int (d : Nat)] ∧ 2 ≤ b ∧ b ≤ 64 ∧ d < 2 ^ 250 ∧ SqL K H q (ws.map lvV) ∧ ws ≠ [] ∧
  H t1 = some (.tup [.int (a1 : Nat), .int (p1 : Nat)]) ∧ H t2 = some (.tup [.int (a2 : Nat), .int (p2 : Nat)]) ∧ 1 ≤ p1 ∧ 1 ≤ p2 ∧ p1 ≤ d ∧ p2 ≤ d ∧ ∀ v H', IsAhead b ws p1 p2 d v → Same H H' → Q (.bl v) H'
theorem ok_is_ahead {f : Addr} {fd : FuncData} (F : Fun K "is_ahead" "is_ahead" s_is_ahead f fd) (h1 : Has P w K mg base 3 "goes_in_front" ["base", "levels", "now", "due", "lowest"] [] (spFront K)) :
    FnOk P w K mg base CX0 4 f fd ["base", "levels", "one", "other", "tick"] (spAhead K) := by
  obtain ⟨f_goes_in_front, fd_goes_in_front, ds_goes_in_front, G_goes_in_front, m_goes_in_front, k_goes_in_front, b_goes_in_front, v_goes_in_front⟩ := h1
  refine F.ok sc_is_ahead (fun vs H Q E h => ?_) (fun cdv A outer s H vs Q E hr h => ?_)
  · obtain ⟨b, d, a1, p1, a2, p2, q, t1, t2, ws, rfl, _⟩ := h
    rfl
  · obtain ⟨b, d, a1, p1, a2, p2, q, t1, t2, ws, rfl, hb, hb64, hd, hL, hne, e1, e2, hp1, hp2, hd1, hd2, c⟩ := h
    refine ⟨_, (pss_cons (ps_if (pt_cmpR op_lt (pe_ix (ix_tupK (K := K) rfl) (pv 2) pe_int (fun _ _ => rfl)) (pe_ix (ix_tupK (K := K) rfl) (pv 3) pe_int (fun _ _ => rfl)) (nomark _))
        (pss_one (ps_ret (pe_call G_goes_in_front hr (by rfl) m_goes_in_front k_goes_in_front b_goes_in_front v_goes_in_front pass0 (pa_cons (pv 0) (pa_cons (pv 1) (pa_cons (pe_op op_subN (pv 4) (pe_ix (ix_tupK (K := K) rfl) (pv 2) pe_int (fun _ _ => rfl))) (pa_cons (pv 4) (pa_cons pe_int pa_nil))))))))
        pss_nil)
      (pss_one (ps_ret (pe_not (pe_call G_goes_in_front hr (by rfl) m_goes_in_front k_goes_in_front b_goes_in_front v_goes_in_front pass0 (pa_cons (pv 0) (pa_cons (pv 1) (pa_cons (pe_op op_subN (pv 4) (pe_ix (ix_tupK (K := K) rfl) (pv 3) pe_int (fun _ _ => rfl))) (pa_cons (pv 4) (pa_cons pe_int pa_nil)))))))))), ?_⟩
    refine ⟨.ref t1, rfl, t1, _, 1, _, rfl, rfl, .inl (.inl e1), atI_nat (j := 1) rfl, .ref t2, rfl, t2, _, 1, _, rfl, rfl, .inl (.inl e2), atI_nat (j := 1) rfl, _, _, rfl, rfl, decide (p1 < p2), ?_, ?_⟩
    · by_cases h : p1 < p2
      · rw [decide_eq_true h]
        exact dT (by omega)
      · rw [decide_eq_false h]
        exact dF (by omega)
    by_cases h : p1 < p2
    · rw [decide_eq_true h]
      refine iteT ⟨_, rfl, _, rfl, _, rfl, .ref t1, rfl, t1, _, 1, _, rfl, rfl, .inl (.inl e1), atI_nat (j := 1) rfl, d, p1, rfl, rfl, hd1, _, rfl, b, d - p1, d, 0, q, ws, rfl, hb, hb64, by omega, hd, hL, hne, fun k hk H1 s1 => ?_⟩
      exact c _ H1 ⟨fun _ k' hk' => by rw [hk'.uniq hk], fun z => absurd h z⟩ s1
    · rw [decide_eq_false h]
      refine iteF ⟨_, rfl, _, rfl, _, rfl, .ref t2, rfl, t2, _, 1, _, rfl, rfl, .inl (.inl e2), atI_nat (j := 1) rfl, d, p2, rfl, rfl, hd2, _, rfl, b, d - p2, d, 0, q, ws, rfl, hb, hb64, by omega, hd, hL, hne, fun k hk H1 s1 => ?_⟩
      refine ⟨_, rfl, ?_⟩
      exact c _ H1 ⟨fun z => absurd z h, fun _ k' hk' => by rw [hk'.uniq hk]⟩ s1
theorem per_le {a p d : Nat} (hp : 1 ≤ p) (h : a < d) (hm : (d - a) % p = 0) : p ≤ d := by
  have e := Nat.div_add_mod (d - a) p
  rw [hm, Nat.add_zero] at e
  have h1 : 0 < (d - a) / p := by
    rcases Nat.eq_zero_or_pos ((d - a) / p) with z | z
    · rw [z, Nat.mul_zero] at e
      omega
    · exact z
  have h2 : p * 1 ≤ p * ((d - a) / p) := Nat.mul_le_mul_left p h1
  omega
end
/-! ### the program: firing again (behind prog_ahead) -/
section
variable {P : Program} {w : World} {K : PySem.W.Frag} {mg : Str → Option Value} {base : Heap}
def spFires : Sp := fun vs H Q _ => ∃ (t : Addr) (a p d : Nat), vs = [.ref t, .int (d : Nat)] ∧ H t = some (.tup [.int (a : Nat), .int (p : Nat)]) ∧ 1 ≤ p ∧ Q (.bl (decide (a < d ∧ (d - a) % p = 0))) H
theorem ok_fires_again {f : Addr} {fd : FuncData} (F : Fun K "fires_again" "fires_again" s_fires_again f fd) : FnOk P w K mg base CX0 1 f fd ["timer", "tick"] spFires := by
  refine F.ok sc_fires_again (fun vs H Q E h => ?_) (fun cdv A outer s H vs Q E hr h => ?_)
  · obtain ⟨t, a, p, d, rfl, _⟩ := h
    rfl
  · obtain ⟨t, a, p, d, rfl, ht, hp, q⟩ := h
    refine ⟨_, (pss_cons (ps_asg (pv 0) (pg_tupK (K := K) (n := 2) rfl rfl (pgs_cons (pg_name (i := 2) sc_fires_again.nd rfl (.inl rfl)) (pgs_cons (pg_name (i := 3) sc_fires_again.nd rfl (.inl rfl)) pgs_nil))))
      (pss_one (ps_ret (pe_and (pe_cmpR op_gt (pv 1) (pv 2) (nomark _)) (pe_one (pe_cmpR op_eq (pe_op op_remN (pe_op op_subN (pv 1) (pv 2)) (pv 3)) pe_int (nomark _))))))), ?_⟩
    refine ⟨.ref t, rfl, t, _, rfl, .inl (.inl ht), rfl, _, _, rfl, _, _, rfl, rfl, ?_⟩
    by_cases h : a < d
    · refine ⟨_, rfl, _, rfl, _, _, rfl, rfl, true, dT (by omega), iteT ?_⟩
      refine ⟨_, rfl, _, rfl, d, a, rfl, rfl, Nat.le_of_lt h, _, rfl, d - a, p, rfl, rfl, hp, rfl, ?_⟩
      have e : decide (V.int (((d - a) % p : Nat) : Int) = V.int 0) = decide (a < d ∧ (d - a) % p = 0) := by
        by_cases z : (d - a) % p = 0
        · rw [decide_eq_true (show a < d ∧ (d - a) % p = 0 from ⟨h, z⟩), z]
          rfl
        · rw [decide_eq_false (show ¬ (a < d ∧ (d - a) % p = 0) from fun y => z y.2)]
          exact decide_eq_false (vN (b := 0) z)
      show Q (.bl (decide (V.int (((d - a) % p : Nat) : Int) = V.int 0))) H
      rw [e]
      exact q
    · refine ⟨_, rfl, _, rfl, _, _, rfl, rfl, false, dF (by omega), iteF ?_⟩
      rw [decide_eq_false (show ¬ (a < d ∧ (d - a) % p = 0) from fun y => h y.1)] at q
      exact q
end
/-! ### the program: where two periodic timers meet -/
section
variable {P : Program} {w : World} {K : PySem.W.Frag} {mg : Str → Option Value} {base : Heap}
def spDivFac : Sp := fun vs H Q _ => ∃ n m : Nat, vs = [.int (n : Nat), .int (m : Nat)] ∧ 1 ≤ n ∧ 1 ≤ m ∧ n < 2 ^ 210 ∧ m < 2 ^ 210 ∧ ∀ x : Int, (m : Int) ∣ x * n - (Nat.gcd n m : Nat) → x.natAbs ≤ m → ∀ H' t, Same H H' → H t = none → H' t = some (.tup [.int (Nat.gcd n m : Nat), .int x]) → Q (.ref t) H'
theorem ok_divisor_and_factor {f : Addr} {fd : FuncData} (F : Fun K "divisor_and_factor" "divisor_and_factor" s_divisor_and_factor f fd) : FnOk P w K mg base CX0 1 f fd ["number", "modulus"] spDivFac := by
  refine F.ok sc_divisor_and_factor (fun vs H Q E h => ?_) (fun cdv A outer s H vs Q E hr h => ?_)
  · obtain ⟨n, m, rfl, _⟩ := h
    rfl
  · obtain ⟨n, m, rfl, hn, hm, hn2, hm2, q⟩ := h
    refine ⟨_, (pss_cons (ps_par (i := 2) (j := 3) (by rfl) sc_divisor_and_factor.nd rfl rfl (by decide) rfl rfl (pa_cons (pv 0) (pa_cons (pv 1) pa_nil)) (by rfl))
      (pss_cons (ps_asg (pe_tup (pa_cons pe_int (pa_cons pe_int pa_nil))) (pg_tupK (K := K) (n := 2) rfl rfl (pgs_cons (pg_name (i := 4) sc_divisor_and_factor.nd rfl (.inl rfl)) (pgs_cons (pg_name (i := 5) sc_divisor_and_factor.nd rfl (.inl rfl)) pgs_nil))))
      (pss_cons (ps_while PassesOwn.never (pt_cmpR op_ne (pv 3) pe_int (nomark _))
        (pss_cons (ps_set (i := 6) sc_divisor_and_factor.nd rfl (.inl rfl) (pe_op op_fdivW (pv 2) (pv 3)))
        (pss_cons (ps_par (i := 2) (j := 3) (by rfl) sc_divisor_and_factor.nd rfl rfl (by decide) rfl rfl (pa_cons (pv 3) (pa_cons (pe_op op_sub (pv 2) (pe_op op_mulA (pv 6) (pv 3))) pa_nil)) (by rfl))
        (pss_one (ps_par (i := 4) (j := 5) (by rfl) sc_divisor_and_factor.nd rfl rfl (by decide) rfl rfl (pa_cons (pv 5) (pa_cons (pe_op op_sub (pv 4) (pe_op op_mulA (pv 6) (pv 5))) pa_nil)) (by rfl))))))
      (pss_one (ps_ret (pe_tup (pa_cons (pv 2) (pa_cons (pv 4) pa_nil)))))))), ?_⟩
    refine ⟨_, rfl, _, rfl, _, _, rfl, by simp [sizeLine_eq], fun t0 ht0 => ⟨t0, _, rfl, .inl (.inl upd_same), rfl, _, _, rfl, _, _, rfl, rfl, ?_⟩⟩
    refine while_by (fun σ H' => ∃ (d r a b : Nat) (x y : Int) (y6 : Option V), σ = [some (.int (n : Nat)), some (.int (m : Nat)), some (.int (d : Nat)), some (.int (r : Nat)), some (.int x), some (.int y), y6] ∧ Same H H' ∧ ((x = (a : Int) ∧ y = -(b : Int)) ∨ (x = -(a : Int) ∧ y = (b : Int))) ∧
        1 ≤ d ∧ d < 2 ^ 210 ∧ r < 2 ^ 210 ∧ Nat.gcd d r = Nat.gcd n m ∧ a * r + b * d = m ∧ a ≤ m ∧ (m : Int) ∣ x * n - d ∧ (m : Int) ∣ y * n - r)
      (fun σ _ => slotInt σ 3) ⟨n, m, 1, 0, 1, 0, none, rfl, same_upd ht0, .inl ⟨rfl, rfl⟩, hn, hn2, hm2, rfl, by omega, hm, ⟨0, by omega⟩, ⟨-1, by omega⟩⟩ ?_ ?_
    · rintro σ H' ⟨d, r, a, b, x, y, y6, rfl, sm, hxy, hd, hd2, hr2, hgcd, hsz, ham, hx, hy⟩
      by_cases h0 : r = 0
      · refine ⟨_, rfl, rfl, false, nF (vE h0), iteF ?_⟩
        subst h0
        rw [Nat.gcd_zero_right] at hgcd
        subst hgcd
        refine ⟨_, rfl, _, rfl, by simp [sizeLine_eq], fun t ht => ?_⟩
        exact q x hx (by rcases hxy with z | z <;> omega) _ t (sm.trans (same_upd ht)) (sm.free ht) upd_same
      · refine ⟨_, rfl, rfl, true, nT (vN (b := 0) h0), iteT ?_⟩
        have hb : b ≤ m := by
          have z : b * 1 ≤ b * d := Nat.mul_le_mul_left b hd
          omega
        have hq : d / r ≤ d := Nat.div_le_self d r
        have hmod : d % r < r := Nat.mod_lt d (by omega)
        refine ⟨_, rfl, _, rfl, (d : Nat), (r : Nat), rfl, rfl, (ndiv (a := d) 210 (by omega : 0 < r) hr2 |> fun z => wide_div (b := 9000) (Int.natCast_pos.mpr z.1) z.2 (by decide) (Nat.le_refl _)), ?_⟩
        have e1 : (d : Int) - ((d / r : Nat) : Int) * (r : Int) = ((d % r : Nat) : Int) := by
          have z := Nat.div_add_mod d r
          have z2 : ((r * (d / r) + d % r : Nat) : Int) = (d : Int) := congrArg Int.ofNat z
          rw [Int.natCast_add, Int.natCast_mul, Int.mul_comm] at z2
          omega
        refine ⟨_, rfl, _, rfl, _, rfl, _, rfl, ((d / r : Nat) : Int), (r : Nat), rfl, rfl, mul_w 210 210 (by rw [natAbs_cast]; omega) (by rw [natAbs_cast]; exact hr2), (d : Nat), _, rfl, rfl, .int (r : Nat), .int ((d % r : Nat) : Int), congrArg (fun z : Int => [V.int (r : Nat), V.int z]) e1, ?_⟩
        refine ⟨_, rfl, _, rfl, _, rfl, _, rfl, ((d / r : Nat) : Int), y, rfl, rfl, mul_w 210 210 (by rw [natAbs_cast]; omega) (by rcases hxy with z | z <;> omega), x, _, rfl, rfl, .int y, .int (x - ((d / r : Nat) : Int) * y), rfl, ?_⟩
        refine ⟨⟨r, d % r, b, a + d / r * b, y, x - ((d / r : Nat) : Int) * y, _, rfl, sm, ?_, by omega, hr2, by omega, ?_, chain_size hsz, hb, hy, chain_step hx hy⟩, ?_⟩
        · rcases hxy with ⟨z1, z2⟩ | ⟨z1, z2⟩
          · refine .inr ⟨z2, ?_⟩
            rw [z1, z2, Int.mul_neg, Int.natCast_add, Int.natCast_mul]
            omega
          · refine .inl ⟨z2, ?_⟩
            rw [z1, z2, Int.natCast_add, Int.natCast_mul]
            omega
        · rw [Nat.gcd_comm, ← Nat.gcd_rec, Nat.gcd_comm]
          exact hgcd
        · show (((d % r : Nat) : Int)).toNat < ((r : Int)).toNat
          rw [Int.toNat_natCast, Int.toNat_natCast]
          exact hmod
    · rintro σ H' Q1 Q2 h ⟨x, hx, hs, k, e, z⟩
      exact ⟨x, hx, hs, k, e, h _ _ z⟩
/-- what common() tells of two timers -/
def MeetV (H : Hp) (v : V) (a p o q : Nat) : Prop :=
  (¬ ((o : Int) - a) % ((Nat.gcd p q : Nat) : Int) = 0 ∧ v = .non) ∨ (((o : Int) - a) % ((Nat.gcd p q : Nat) : Int) = 0 ∧ ∃ (t : Addr) (f e : Nat), v = .ref t ∧ H t = some (.tup [.int (f : Nat), .int (e : Nat)]) ∧ IsMeet a p o q f e)
def spMeet : Sp := fun vs H Q _ => ∃ (t1 t2 : Addr) (a p o q : Nat), vs = [.ref t1, .ref t2] ∧ H t1 = some (.tup [.int (a : Nat), .int (p : Nat)]) ∧ H t2 = some (.tup [.int (o : Nat), .int (q : Nat)]) ∧ 1 ≤ p ∧ 1 ≤ q ∧ p < 2 ^ 210 ∧ q < 2 ^ 210 ∧ a < 2 ^ 210 ∧ o < 2 ^ 210 ∧
  ∀ v H', Same H H' → MeetV H' v a p o q → (∀ t, v = .ref t → H t = none) → Q v H'
theorem ok_meetings {f : Addr} {fd : FuncData} (F : Fun K "meetings" "meetings" s_meetings f fd) (T : Tx K mg) (h1 : Has P w K mg base 1 "divisor_and_factor" ["number", "modulus"] [] spDivFac) : FnOk P w K mg base CX0 2 f fd ["one", "other"] spMeet := by
  obtain ⟨f_divisor_and_factor, fd_divisor_and_factor, ds_divisor_and_factor, G_divisor_and_factor, m_divisor_and_factor, k_divisor_and_factor, b_divisor_and_factor, v_divisor_and_factor⟩ := h1
  refine F.ok sc_meetings (fun vs H Q E h => ?_) (fun cdv A outer s H vs Q E hr h => ?_)
  · obtain ⟨t1, t2, a, p, o, q, rfl, _⟩ := h
    rfl
  · obtain ⟨t1, t2, a, p, o, q, rfl, e1, e2, hp, hq, hp2, hq2, ha2, ho2, c⟩ := h
    have hg : 0 < Nat.gcd p q := Nat.gcd_pos_of_pos_left q hp
    have hg2 : Nat.gcd p q < 2 ^ 210 := Nat.lt_of_le_of_lt (Nat.le_of_dvd (by omega) (Nat.gcd_dvd_left p q)) hp2
    have cg : ∀ i : Int, CDivW i ((Nat.gcd p q : Nat) : Int) := fun i => wide_div (b := 210) (Int.natCast_pos.mpr hg) hg2 (by decide) (by decide)
    refine ⟨_, (pss_cons (ps_asg (pv 0) (pg_tupK (K := K) (n := 2) rfl rfl (pgs_cons (pg_name (i := 2) sc_meetings.nd rfl (.inl rfl)) (pgs_cons (pg_name (i := 3) sc_meetings.nd rfl (.inl rfl)) pgs_nil))))
      (pss_cons (ps_asg (pv 1) (pg_tupK (K := K) (n := 2) rfl rfl (pgs_cons (pg_name (i := 4) sc_meetings.nd rfl (.inl rfl)) (pgs_cons (pg_name (i := 5) sc_meetings.nd rfl (.inl rfl)) pgs_nil))))
      (pss_cons (ps_asg (pe_call G_divisor_and_factor hr (by rfl) m_divisor_and_factor k_divisor_and_factor b_divisor_and_factor v_divisor_and_factor pass0 (pa_cons (pv 3) (pa_cons (pv 5) pa_nil))) (pg_tupK (K := K) (n := 2) rfl rfl (pgs_cons (pg_name (i := 6) sc_meetings.nd rfl (.inl rfl)) (pgs_cons (pg_name (i := 7) sc_meetings.nd rfl (.inl rfl)) pgs_nil))))
      (pss_cons (ps_set (i := 8) sc_meetings.nd rfl (.inl rfl) (pe_op op_sub (pv 4) (pv 2)))
      (pss_cons (ps_if (pt_cmpR op_ne (pe_op op_mod (pv 8) (pv 6)) pe_int (nomark _))
        (pss_one (ps_ret pe_non))
        pss_nil)
      (pss_cons (ps_set (i := 9) sc_meetings.nd rfl (.inl rfl) (pe_op op_add (pv 2) (pe_op op_mulA (pe_op op_mulA (pe_op op_fdivW (pv 8) (pv 6)) (pv 7)) (pv 3))))
      (pss_cons (ps_set (i := 10) sc_meetings.nd rfl (.inl rfl) (pe_op op_mulA (pe_op op_fdivW (pv 3) (pv 6)) (pv 5)))
      (pss_cons (ps_set (i := 11) sc_meetings.nd rfl (.inl rfl) (pe_callB (call_max2 rfl) (by rfl) T.b_max (by decide +kernel) (pa_cons (pv 2) (pa_cons (pv 4) pa_nil))))
      (pss_one (ps_ret (pe_tup (pa_cons (pe_op op_add (pv 11) (pe_op op_mod (pe_op op_sub (pv 9) (pv 11)) (pv 10))) (pa_cons (pv 10) pa_nil))))))))))))), ?_⟩
    refine ⟨.ref t1, rfl, t1, _, rfl, .inl (.inl e1), rfl, _, _, rfl, _, _, rfl, rfl, ?_⟩
    refine ⟨.ref t2, rfl, t2, _, rfl, .inl (.inl e2), rfl, _, _, rfl, _, _, rfl, rfl, ?_⟩
    refine ⟨_, rfl, _, rfl, p, q, rfl, hp, hq, hp2, hq2, fun x hx hxm H1 t3 s1 ht3 e3 => ?_⟩
    refine ⟨t3, _, rfl, .inl (.inl e3), rfl, _, _, rfl, _, _, rfl, rfl, ?_⟩
    -- apart
    refine ⟨_, rfl, _, rfl, (o : Nat), (a : Nat), rfl, rfl, ?_⟩
    by_cases hgd : ((o : Int) - a) % ((Nat.gcd p q : Nat) : Int) = 0
    · refine ⟨_, rfl, _, rfl, (o : Int) - a, ((Nat.gcd p q : Nat) : Int), rfl, rfl, Int.natCast_pos.mpr hg, rfl, false, nF (congrArg V.int hgd), iteF ?_⟩
      have hu : (((o : Int) - a) / ((Nat.gcd p q : Nat) : Int)).natAbs < 2 ^ 211 := by
        have z := Int.natAbs_ediv_le_natAbs ((o : Int) - a) ((Nat.gcd p q : Nat) : Int)
        omega
      have hux : (((o : Int) - a) / ((Nat.gcd p q : Nat) : Int) * x).natAbs < 2 ^ 421 := by
        have z := wide_lt (j := x) hu (show x.natAbs < 2 ^ 210 by omega)
        exact z
      have hpg : p / Nat.gcd p q ≤ p := Nat.div_le_self _ _
      refine ⟨_, rfl, _, rfl, _, rfl, (o : Int) - a, ((Nat.gcd p q : Nat) : Int), rfl, rfl, cg _, _, rfl, ((o : Int) - a) / ((Nat.gcd p q : Nat) : Int), x, rfl, rfl, mul_w 211 210 hu (by omega), _, rfl, _, (p : Nat), rfl, rfl, mul_w 421 210 hux (by rw [natAbs_cast]; exact hp2), (a : Nat), _, rfl, rfl, ?_⟩
      refine ⟨_, rfl, _, rfl, (p : Nat), ((Nat.gcd p q : Nat) : Int), rfl, rfl, cg _, _, rfl, ((p / Nat.gcd p q : Nat) : Int), (q : Nat), rfl, rfl, mul_w 210 210 (by rw [natAbs_cast]; omega) (by rw [natAbs_cast]; exact hq2), ?_⟩
      obtain ⟨fst, ef, hm⟩ := meet_of hp hq hx hgd
      have he := lcm_pos hp hq
      have ee : ((p / Nat.gcd p q : Nat) : Int) * (q : Int) = ((p / Nat.gcd p q * q : Nat) : Int) := (Int.natCast_mul _ _).symm
      refine ⟨_, rfl, _, rfl, (a : Nat), (o : Nat), rfl, ?_⟩
      refine ⟨_, rfl, _, rfl, _, rfl, _, _, rfl, rfl, _, rfl, _, ((p / Nat.gcd p q * q : Nat) : Int), rfl, congrArg V.int ee, Int.natCast_pos.mpr he, _, _, rfl, rfl, _, rfl, by simp [sizeLine_eq], fun t ht => ?_⟩
      refine c (.ref t) _ (s1.trans (same_upd ht)) (.inr ⟨hgd, t, fst, p / Nat.gcd p q * q, rfl, ?_, hm⟩) (fun t' e => by cases e; exact s1.free ht)
      rw [upd_same]
      have e8 : (a : Int) + ((o : Int) - a) / ((Nat.gcd p q : Nat) : Int) * x * p = (a : Int) + ((o : Int) - a) / ((Nat.gcd p q : Nat) : Int) * x * (p : Nat) := rfl
      exact congrArg some (congrArg HO.tup (by
        rw [← ef, ← ee]
        ))
    · refine ⟨_, rfl, _, rfl, (o : Int) - a, ((Nat.gcd p q : Nat) : Int), rfl, rfl, Int.natCast_pos.mpr hg, rfl, true, nT (vI hgd), iteT ?_⟩
      exact c .non H1 s1 (.inl ⟨hgd, rfl⟩) (fun t e => by cases e)
end
/-! ### the program: how often one timer goes first -/
theorem rangeSize_meet {m e y : Nat} (he : 1 ≤ e) : Builtin.Range.rangeSize (m : Int) (y : Int) (e : Int) = (meetN m e y : Nat) := by
  unfold Builtin.Range.rangeSize meetN
  rw [if_pos (by omega : (e : Int) > 0)]
  by_cases c : m < y
  · rw [if_pos (by omega : (m : Int) < (y : Int))]
    have e1 : (y - m + (e - 1)) / e = (y - m - 1) / e + 1 := by
      rw [show y - m + (e - 1) = (y - m - 1) + e by omega, Nat.add_div_right _ (by omega : 0 < e)]
    rw [e1, show (y : Int) - (m : Int) - 1 = ((y - m - 1 : Nat) : Int) by omega]
    rfl
  · rw [if_neg (by omega : ¬ (m : Int) < (y : Int)), show y - m = 0 by omega, Nat.zero_add, Nat.div_eq_of_lt (by omega)]
    rfl
theorem up_int {x f e : Nat} (he : 1 ≤ e) : (if (x : Int) - (f : Int) + (e : Int) - 1 > 0 then (x : Int) - (f : Int) + (e : Int) - 1 else 0) / (e : Int) = (((x - f + (e - 1)) / e : Nat) : Int) := by
  by_cases c : f ≤ x
  · have z : (if (x : Int) - (f : Int) + (e : Int) - 1 > 0 then (x : Int) - (f : Int) + (e : Int) - 1 else 0) = ((x - f + (e - 1) : Nat) : Int) := by split <;> omega
    rw [z]
    rfl
  · have z : ∃ r : Nat, r < e ∧ (if (x : Int) - (f : Int) + (e : Int) - 1 > 0 then (x : Int) - (f : Int) + (e : Int) - 1 else 0) = (r : Int) := by
      split
      · exact ⟨((x : Int) - (f : Int) + (e : Int) - 1).toNat, by omega, by omega⟩
      · exact ⟨0, by omega, rfl⟩
    obtain ⟨r, hr, z⟩ := z
    rw [z, show x - f = 0 by omega, Nat.zero_add, Nat.div_eq_of_lt (by omega : e - 1 < e)]
    show ((r / e : Nat) : Int) = _
    rw [Nat.div_eq_of_lt hr]
section
variable {P : Program} {w : World} {K : PySem.W.Frag} {mg : Str → Option Value} {base : Heap}
def MostM (mg : Str → Option Value) : Prop := ∃ t, mg "MOST_MEETINGS" = some (.int 2000 t)
def spTimes (K : PySem.W.Frag) : Sp := fun vs H Q _ => ∃ (b a p o q x y : Nat) (ql t1 t2 : Addr) (ws : List Bool), vs = [.int (b : Nat), .ref ql, .ref t1, .ref t2, .int (x : Nat), .int (y : Nat)] ∧ 2 ≤ b ∧ b ≤ 64 ∧ SqL K H ql (ws.map lvV) ∧ ws ≠ [] ∧ ws.length ≤ 60 ∧
  H t1 = some (.tup [.int (a : Nat), .int (p : Nat)]) ∧ H t2 = some (.tup [.int (o : Nat), .int (q : Nat)]) ∧ (1 ≤ p ∧ p < 2 ^ 200) ∧ (1 ≤ q ∧ q < 2 ^ 200) ∧ p ≠ q ∧ a < 2 ^ 200 ∧ o < 2 ^ 200 ∧ x ≤ y ∧ y < 2 ^ 240 ∧
  (∀ f e, IsMeet a p o q f e → meetN (meetM f e x) e y ≤ 2000) ∧ ∀ H', Same H H' → Q (.int (cntP (fun t => bothB a p o q t && ahB ws b p q t) x (y - x) : Nat)) H'
theorem ok_times_first {f : Addr} {fd : FuncData} (F : Fun K "times_first" "times_first" s_times_first f fd) (T : Tx K mg) (hM : MostM mg) (h1 : Has P w K mg base 3 "check_base" ["base"] [] spCheckBase) (h4 : Has P w K mg base 4 "check_levels" ["levels"] [] (spCheckLevels K))
    (h2 : Has P w K mg base 3 "check_tick" ["tick", "least"] [.int 0] spCheckTick) (h7 : Has P w K mg base 3 "check_tick" ["tick", "least"] [] spCheckTick) (h3 : Has P w K mg base 5 "check_two" ["one", "other"] [] spCheckTwo)
    (h5 : Has P w K mg base 2 "meetings" ["one", "other"] [] spMeet) (h6 : Has P w K mg base 4 "is_ahead" ["base", "levels", "one", "other", "tick"] [] (spAhead K)) :
    FnOk P w K mg base CX0 6 f fd ["base", "levels", "one", "other", "first", "behind"] (spTimes K) := by
  obtain ⟨tM, g_MOST_MEETINGS⟩ := hM
  obtain ⟨f_check_base, fd_check_base, ds_check_base, G_check_base, m_check_base, k_check_base, b_check_base, v_check_base⟩ := h1
  obtain ⟨f_check_tick1, fd_check_tick1, ds_check_tick1, G_check_tick1, m_check_tick1, k_check_tick1, b_check_tick1, v_check_tick1⟩ := h2
  obtain ⟨f_check_tick, fd_check_tick, ds_check_tick, G_check_tick, m_check_tick, k_check_tick, b_check_tick, v_check_tick⟩ := h7
  obtain ⟨f_check_two, fd_check_two, ds_check_two, G_check_two, m_check_two, k_check_two, b_check_two, v_check_two⟩ := h3
  obtain ⟨f_check_levels, fd_check_levels, ds_check_levels, G_check_levels, m_check_levels, k_check_levels, b_check_levels, v_check_levels⟩ := h4
  obtain ⟨f_meetings, fd_meetings, ds_meetings, G_meetings, m_meetings, k_meetings, b_meetings, v_meetings⟩ := h5
  obtain ⟨f_is_ahead, fd_is_ahead, ds_is_ahead, G_is_ahead, m_is_ahead, k_is_ahead, b_is_ahead, v_is_ahead⟩ := h6
  refine F.ok sc_times_first (fun vs H Q E h => ?_) (fun cdv A outer s H vs Q E hr h => ?_)
  · obtain ⟨b, a, p, o, q, x, y, ql, t1, t2, ws, rfl, _⟩ := h
    rfl
  · obtain ⟨b, a, p, o, q, x, y, ql, t1, t2, ws, rfl, hb, hb64, hL, hne, h60, e1, e2, ⟨hp, hp2⟩, ⟨hq, hq2⟩, hpq, ha2, ho2, hxy, hy2, hmany, c⟩ := h
    refine ⟨_, (pss_cons (ps_expr (pe_call G_check_base (hr.mono (by decide)) (by rfl) m_check_base k_check_base b_check_base v_check_base pass0 (pa_cons (pv 0) pa_nil)))
      (pss_cons (ps_expr (pe_call G_check_levels (hr.mono (by decide)) (by rfl) m_check_levels k_check_levels b_check_levels v_check_levels pass0 (pa_cons (pv 1) pa_nil)))
      (pss_cons (ps_expr (pe_call G_check_two hr (by rfl) m_check_two k_check_two b_check_two v_check_two pass0 (pa_cons (pv 2) (pa_cons (pv 3) pa_nil))))
      (pss_cons (ps_expr (pe_call G_check_tick1 (hr.mono (by decide)) (by rfl) m_check_tick1 k_check_tick1 b_check_tick1 v_check_tick1 pass0 (pa_cons (pv 4) pa_nil)))
      (pss_cons (ps_expr (pe_call G_check_tick (hr.mono (by decide)) (by rfl) m_check_tick k_check_tick b_check_tick v_check_tick pass0 (pa_cons (pv 5) (pa_cons (pv 4) pa_nil))))
      (pss_cons (ps_set (i := 6) sc_times_first.nd rfl (.inl rfl) (pe_call G_meetings (hr.mono (by decide)) (by rfl) m_meetings k_meetings b_meetings v_meetings pass0 (pa_cons (pv 2) (pa_cons (pv 3) pa_nil))))
      (pss_cons (ps_if (pt_cmpR op_isN (pv 6) pe_non (nomark _))
        (pss_one (ps_ret pe_int))
        pss_nil)
      (pss_cons (ps_asg (pv 6) (pg_tupK (K := K) (n := 2) rfl rfl (pgs_cons (pg_name (i := 7) sc_times_first.nd rfl (.inl rfl)) (pgs_cons (pg_name (i := 8) sc_times_first.nd rfl (.inl rfl)) pgs_nil))))
      (pss_cons (ps_aug (i := 7) sc_times_first.nd rfl (.inl rfl) (pe_op op_mulA (pe_op op_fdivW (pe_callB (call_max2 rfl) (by rfl) T.b_max (by decide +kernel) (pa_cons pe_int (pa_cons (pe_op op_sub (pe_op op_add (pe_op op_sub (pv 4) (pv 7)) (pv 8)) pe_int) pa_nil))) (pv 8)) (pv 8)) ip_add)
      (pss_cons (ps_if (pt_cmpR op_gt (pe_op op_fdivW (pe_callB (call_max2 rfl) (by rfl) T.b_max (by decide +kernel) (pa_cons pe_int (pa_cons (pe_op op_sub (pe_op op_add (pe_op op_sub (pv 5) (pv 7)) (pv 8)) pe_int) pa_nil))) (pv 8)) (pe_glob (v := .int 2000) rfl g_MOST_MEETINGS ⟨_, rfl⟩) (nomark _))
        (pss_one ps_never)
        pss_nil)
      (pss_cons (ps_setLc (i := 9) (own := [("tick", 10)]) (g := gName 10)  rfl sc_times_first.nd rfl rfl (sw_true rfl rfl rfl (by decide +kernel)) (pi_wide3 (by rfl) T.b_range (pa_cons (pv 7) (pa_cons (pv 5) (pa_cons (pv 8) pa_nil)))) (blkOk_by (own := [("tick", 10)]) (N := N_times_first) (sc := defScope s_times_first) (by decide +kernel)) (fun _ _ _ _ _ => (pg_name (i := 10) sc_times_first.nd rfl (.inl rfl))) (fun _ _ _ _ _ => (pts_one (pt_cmpR op_gt (pv 10) (pe_callB (call_max2 rfl) (by rfl) T.b_max (by decide +kernel) (pa_cons (pe_ix (ix_tupK (K := K) rfl) (pv 2) pe_int (fun _ _ => rfl)) (pa_cons (pe_ix (ix_tupK (K := K) rfl) (pv 3) pe_int (fun _ _ => rfl)) pa_nil))) (nomark _)))) (fun _ _ _ _ _ => (pv 10)))
      (pss_one (ps_ret (pe_callB (lenK (K := K) rfl) (by rfl) T.b_len PySem.boot_len (pa_cons (pe_lc (own := [("tick", 10)]) (g := gName 10)  rfl sc_times_first.nd (pi_list (pv 9)) (blkOk_by (own := [("tick", 10)]) (N := N_times_first) (sc := defScope s_times_first) (by decide +kernel)) (fun _ _ _ _ _ => (pg_name (i := 10) sc_times_first.nd rfl (.inl rfl))) (fun _ _ _ _ _ => (pts_one (pt_val (pe_call G_is_ahead (hr.mono (by decide)) (by rfl) m_is_ahead k_is_ahead b_is_ahead v_is_ahead pass0 (pa_cons (pv 0) (pa_cons (pv 1) (pa_cons (pv 2) (pa_cons (pv 3) (pa_cons (pv 10) pa_nil))))))))) (fun _ _ _ _ _ => (pv 10))) pa_nil))))))))))))))), ?_⟩
    refine ⟨_, rfl, b, rfl, by omega, by omega, ?_⟩
    refine ⟨_, rfl, ql, ws, rfl, hL, hne, h60, fun H1 s1 => ?_⟩
    refine ⟨_, rfl, _, rfl, t1, t2, a, p, o, q, rfl, s1 _ _ e1, s1 _ _ e2, hp, hq, hpq, ?_⟩
    refine ⟨_, rfl, x, 0, rfl, by omega, ?_⟩
    refine ⟨_, rfl, _, rfl, y, x, rfl, by omega, ?_⟩
    refine ⟨_, rfl, _, rfl, t1, t2, a, p, o, q, rfl, s1 _ _ e1, s1 _ _ e2, hp, hq, by omega, by omega, by omega, by omega, fun v H2 s2 hv _ => ?_⟩
    have s02 := s1.trans s2
    rcases hv with ⟨hn, rfl⟩ | ⟨hg, tm, f, e, rfl, em, hm⟩
    · refine ⟨_, rfl, rfl, true, rfl, iteT ?_⟩
      have z : cntP (fun t => bothB a p o q t && ahB ws b p q t) x (y - x) = 0 := by
        refine cntP_zero _ fun t h1 h2 => ?_
        cases hB : bothB a p o q t with
        | false => rfl
        | true =>
          obtain ⟨⟨b1, b2⟩, b3, b4⟩ := bothB_iff.mp hB
          exact absurd (meet_gcd (Nat.le_of_lt b1) (Nat.le_of_lt b3) (Nat.dvd_of_mod_eq_zero b2) (Nat.dvd_of_mod_eq_zero b4)) hn
      have z2 := c H2 s02
      rw [z] at z2
      exact z2
    · refine ⟨_, rfl, rfl, false, rfl, iteF ?_⟩
      have hmeet := hm
      obtain ⟨he, c1, c2, c3, c4⟩ := hm
      have he1 : 1 ≤ e := by
        rw [he]
        exact lcm_pos hp hq
      have he2 : e < 2 ^ 400 := by
        have z : p / Nat.gcd p q * q < 2 ^ 400 := by
          have z1 := Nat.mul_lt_mul'' (Nat.lt_of_le_of_lt (Nat.div_le_self p (Nat.gcd p q)) hp2) hq2
          rw [← Nat.pow_add] at z1
          exact z1
        rw [he]
        exact z
      have hf2 : f < 2 ^ 401 := by omega
      have hN := hmany f e hmeet
      have hx2 : x < 2 ^ 240 := by omega
      refine ⟨.ref tm, rfl, tm, _, rfl, .inl (.inl em), rfl, _, _, rfl, _, _, rfl, rfl, ?_⟩
      -- the first meeting that counts
      have cw : ∀ i : Int, CDivW i (e : Int) := fun i => wide_div (b := 400) (Int.natCast_pos.mpr he1) he2 (by decide) (by decide)
      have hk1 : (x - f + (e - 1)) / e < 2 ^ 402 := Nat.lt_of_le_of_lt (Nat.div_le_self _ _) (by omega)
      refine ⟨_, rfl, _, rfl, _, rfl, (x : Nat), (f : Nat), rfl, rfl, _, rfl, _, (e : Nat), rfl, rfl, _, 1, rfl, rfl, 0, _, rfl, _, rfl, _, (e : Nat), rfl, rfl, cw _, _, rfl, (((x - f + (e - 1)) / e : Nat) : Int), (e : Nat), congrArg V.int (up_int he1), rfl, mul_w 402 402 (by rw [natAbs_cast]; exact hk1) (by rw [natAbs_cast]; omega), (f : Nat), (((x - f + (e - 1)) / e * e : Nat) : Int), rfl, congrArg V.int (cast_mul _ _), ?_⟩
      -- not too many
      have hMM : meetM f e x = f + (x - f + (e - 1)) / e * e := rfl
      refine ⟨_, rfl, _, rfl, (y : Nat), ((meetM f e x : Nat) : Int), rfl, rfl, _, rfl, _, (e : Nat), rfl, rfl, _, 1, rfl, rfl, 0, _, rfl, _, rfl, _, (e : Nat), rfl, rfl, cw _, ((meetN (meetM f e x) e y : Nat) : Int), 2000, congrArg V.int (up_int he1), rfl, false, dF (by omega), iteF ?_⟩
      -- the ticks
      have hdvs : CDivP ((y : Int) - ((meetM f e x : Nat) : Int)) (e : Int) := by
        refine divp_s 3000 (Int.natCast_pos.mpr he1) ?_
        have hmm : meetM f e x < 2 ^ 900 := by
          have z := Nat.mul_lt_mul'' hk1 he2
          rw [← Nat.pow_add] at z
          rw [hMM]
          exact Nat.lt_of_lt_of_le (Nat.add_lt_add hf2 z) (by decide)
        have hbig : (2 : Nat) ^ 240 + 2 ^ 900 < 2 ^ 3000 := by decide
        have hab : ((y : Int) - ((meetM f e x : Nat) : Int)).natAbs ≤ y + meetM f e x := by omega
        generalize (2 : Nat) ^ 3000 = B at hbig ⊢
        generalize (2 : Nat) ^ 900 = B9 at hbig hmm
        omega
      refine ⟨_, rfl, _, rfl, _, rfl, ((meetM f e x : Nat) : Int), (y : Nat), (e : Nat), meetN (meetM f e x) e y, rfl, hdvs, rangeSize_meet he1, fun D hD => lc_step (lo := ((meetM f e x : Nat) : Int)) (c := (e : Nat)) (n := meetN (meetM f e x) e y) (fun i H' => Same H2 H' ∧ H' D = some (.lst ((tickL (meetM f e x) e (max a o) i).map fun t : Nat => V.int (t : Nat))))
        ⟨same_upd hD, upd_same⟩ ?_ ?_⟩
      · rintro i H' hi ⟨sm, eD⟩
        have e1' := sm _ _ (s02 _ _ e1)
        have e2' := sm _ _ (s02 _ _ e2)
        have etk : ((meetM f e x : Nat) : Int) + (i : Int) * (e : Int) = ((meetM f e x + i * e : Nat) : Int) := by
          rw [Int.natCast_add, Int.natCast_mul]
        have hmax : (if (o : Int) > (a : Int) then (o : Int) else (a : Int)) = ((max a o : Nat) : Int) := by split <;> omega
        refine ⟨rfl, _, rfl, .ref t1, rfl, t1, _, 0, _, rfl, rfl, .inl (.inl e1'), atI_nat (j := 0) rfl, .ref t2, rfl, t2, _, 0, _, rfl, rfl, .inl (.inl e2'), atI_nat (j := 0) rfl, (a : Nat), (o : Nat), rfl, ((meetM f e x + i * e : Nat) : Int), ((max a o : Nat) : Int), congrArg V.int etk, congrArg V.int hmax, ?_⟩
        by_cases hc : max a o < meetM f e x + i * e
        · refine ⟨true, dT (by omega), iteT ⟨_, rfl, _, eD, ?_, fun c o e => ?_, ?_⟩⟩
          · rw [List.length_map]
            have := tickL_len (meetM f e x) e (max a o) i
            exact sizeLine_ge (by omega)
          · rw [upd_ne (ne_of_none e hD)]
            exact sm _ _ e
          · rw [upd_same, etk]
            show _ = some (HO.lst ((tickL (meetM f e x) e (max a o) i ++ if max a o < meetM f e x + i * e then [meetM f e x + i * e] else []).map fun t : Nat => V.int (t : Nat)))
            rw [if_pos hc, List.map_append]
            rfl
        · refine ⟨false, dF (by omega), iteF ⟨sm, ?_⟩⟩
          show _ = some (HO.lst ((tickL (meetM f e x) e (max a o) i ++ if max a o < meetM f e x + i * e then [meetM f e x + i * e] else []).map fun t : Nat => V.int (t : Nat)))
          rw [if_neg hc, List.append_nil]
          exact eD
      rintro H3 ⟨s3, eD⟩
      have hlen := tickL_len (meetM f e x) e (max a o) (meetN (meetM f e x) e y)
      have hcnt : (tickL (meetM f e x) e (max a o) (meetN (meetM f e x) e y)).countP (fun t => ahB ws b p q t) = cntP (fun t => bothB a p o q t && ahB ws b p q t) x (y - x) := by
        rw [cnt_range (f := f) he1 hxy (fun t ht => ?_)]
        · refine tickL_cnt _ fun k hk => ?_
          have hd := meetM_dvd (f := f) (e := e) (x := x) (k := k)
          have hfm : f ≤ meetM f e x + k * e := by
            unfold meetM
            omega
          have hpe : p ∣ e := by
            rw [he, lcm_form hp]
            exact Nat.dvd_mul_left p _
          have hqe : q ∣ e := by
            rw [he]
            exact Nat.dvd_mul_left q _
          generalize meetM f e x + k * e = t at hd hfm ⊢
          have d1 : p ∣ t - a := by
            have z := Nat.dvd_add (Nat.dvd_trans hpe hd) c3
            rw [show t - f + (f - a) = t - a by omega] at z
            exact z
          have d2 : q ∣ t - o := by
            have z := Nat.dvd_add (Nat.dvd_trans hqe hd) c4
            rw [show t - f + (f - o) = t - o by omega] at z
            exact z
          have eb : bothB a p o q t = decide (max a o < t) := by
            rw [Bool.eq_iff_iff, bothB_iff, decide_eq_true_iff]
            constructor
            · rintro ⟨⟨z1, _⟩, z2, _⟩
              omega
            · intro z
              exact ⟨⟨by omega, Nat.mod_eq_zero_of_dvd d1⟩, by omega, Nat.mod_eq_zero_of_dvd d2⟩
          rw [eb]
        · rw [Bool.and_eq_true] at ht
          obtain ⟨⟨b1, b2⟩, b3, b4⟩ := bothB_iff.mp ht.1
          have h1 := Nat.dvd_of_mod_eq_zero b2
          have h2 := Nat.dvd_of_mod_eq_zero b4
          have hft : f ≤ t := by
            rcases Nat.lt_or_ge t f with l | l
            · have := meet_uniq hp hmeet (by omega) (by omega) h1 h2
              omega
            · exact l
          refine ⟨hft, ?_⟩
          rw [he]
          refine lcm_dvd hp ?_ ?_
          · have z := Nat.dvd_sub h1 c3
            rw [show t - a - (f - a) = t - f by omega] at z
            exact z
          · have z := Nat.dvd_sub h2 c4
            rw [show t - o - (f - o) = t - f by omega] at z
            exact z
      have hmem : ∀ t, t ∈ tickL (meetM f e x) e (max a o) (meetN (meetM f e x) e y) → t < y ∧ p ≤ t ∧ q ≤ t := by
        intro t ht
        obtain ⟨k, h1, h2, h3⟩ := tickL_mem ht
        have h4 : t < y := by
          have := up_lt he1 h1
          omega
        have hd := meetM_dvd (f := f) (e := e) (x := x) (k := k)
        have hfm : f ≤ meetM f e x + k * e := by
          unfold meetM
          omega
        rw [← h2] at hd hfm
        have hpe : p ∣ e := by
          rw [he, lcm_form hp]
          exact Nat.dvd_mul_left p _
        have hqe : q ∣ e := by
          rw [he]
          exact Nat.dvd_mul_left q _
        have d1 : p ∣ t - a := by
          have z := Nat.dvd_add (Nat.dvd_trans hpe hd) c3
          rw [show t - f + (f - a) = t - a by omega] at z
          exact z
        have d2 : q ∣ t - o := by
          have z := Nat.dvd_add (Nat.dvd_trans hqe hd) c4
          rw [show t - f + (f - o) = t - o by omega] at z
          exact z
        have l1 := Nat.le_of_dvd (by omega) d1
        have l2 := Nat.le_of_dvd (by omega) d2
        omega
      generalize tickL (meetM f e x) e (max a o) (meetN (meetM f e x) e y) = ts at eD hlen hcnt hmem
      have s03 := s02.trans s3
      refine ⟨_, rfl, D, rfl, ⟨_, SqL.of eD⟩, fun D2 hD2 => lc_list (K := K) (a := D) (xs := ts.map fun t : Nat => V.int (t : Nat)) (fun i H' => Same H3 H' ∧ ∃ zs : List V, zs.length = (ts.take i).countP (fun t => ahB ws b p q t) ∧ H' D2 = some (.lst zs))
        ⟨same_upd hD2, [], rfl, upd_same⟩ (fun i H' _ ⟨sm, _⟩ => SqL.of (sm _ _ eD)) ?_ ?_⟩
      · rintro i z H' hz ⟨sm, zs, hzs, eZ⟩
        rw [List.getElem?_map] at hz
        obtain ⟨t, ht, rfl⟩ : ∃ t, ts[i]? = some t ∧ z = V.int (t : Nat) := by
          cases ez : ts[i]? with
          | none =>
            rw [ez] at hz
            cases hz
          | some t =>
            rw [ez] at hz
            exact ⟨t, rfl, (Option.some.inj hz).symm⟩
        obtain ⟨t3, t4, t5⟩ := hmem t (List.mem_of_getElem? ht)
        have hstep : (ts.take (i + 1)).countP (fun t => ahB ws b p q t) = (ts.take i).countP (fun t => ahB ws b p q t) + if ahB ws b p q t = true then 1 else 0 := by
          rw [List.take_add_one, ht]
          show List.countP _ (List.take i ts ++ [t]) = _
          rw [List.countP_append, List.countP_singleton]
        have hzl : zs.length ≤ 2000 := by
          have z := List.countP_le_length (p := fun t => ahB ws b p q t) (l := ts.take i)
          rw [List.length_take] at z
          omega
        refine ⟨rfl, _, rfl, _, rfl, _, rfl, _, rfl, _, rfl, b, t, a, p, o, q, ql, t1, t2, ws, rfl, hb, hb64, by omega, (s03.trans sm).seq hL, hne, sm _ _ (s3 _ _ (s02 _ _ e1)), sm _ _ (s3 _ _ (s02 _ _ e2)), hp, hq, t4, t5, fun v H4 hv s4 => ⟨v, rfl, ?_⟩⟩
        have ev := hv.eq hb hp hq t4 t5
        cases v with
        | true =>
          refine iteT ⟨_, rfl, _, s4 _ _ eZ, sizeLine_ge (by omega), fun c o e' => ?_, zs ++ [.int (t : Nat)], ?_, upd_same⟩
          · rw [upd_ne (ne_of_none e' hD2)]
            exact s4 _ _ (sm _ _ e')
          · rw [hstep, ← ev, if_pos rfl, List.length_append, hzs]
            rfl
        | false =>
          refine iteF ⟨sm.trans s4, zs, ?_, s4 _ _ eZ⟩
          rw [hstep, ← ev, if_neg (by decide), hzs]
          rfl
      · rintro H4 ⟨s4, zs, hzs, eZ⟩
        rw [List.length_map, List.take_length, hcnt] at hzs
        refine ⟨D2, zs, rfl, .inl (SqL.of eZ), ?_⟩
        rw [hzs]
        exact c H4 (s03.trans s4)
end
/-! ### the dict of live timers -/
def LiveK (H : Hp) : List (Key × V) → List Tm → Prop
  | [], [] => True
  | kv :: kvs, m :: ms => kv.1 = Sum.inl (m.num : Int) ∧ (∃ t, kv.2 = .ref t ∧ H t = some (.tup (tmV m))) ∧ LiveK H kvs ms
  | _, _ => False
theorem LiveK.frame {H H' : Hp} (s : ∀ t m, H t = some (.tup (tmV m)) → H' t = some (.tup (tmV m))) : ∀ {kvs : List (Key × V)} {ms : List Tm}, LiveK H kvs ms → LiveK H' kvs ms
  | [], [], _ => trivial
  | _ :: _, _ :: _, ⟨h1, ⟨t, h2, h3⟩, h4⟩ => ⟨h1, ⟨t, h2, s _ _ h3⟩, h4.frame s⟩
  | [], _ :: _, h => h.elim
  | _ :: _, [], h => h.elim
theorem LiveK.same {H H' : Hp} (s : Same H H') {kvs : List (Key × V)} {ms : List Tm} (h : LiveK H kvs ms) : LiveK H' kvs ms := h.frame fun _ _ e => s _ _ e
/-- a place that holds no tuple may change -/
theorem LiveK.upd {H : Hp} {l : Addr} {o o' : HO} (hl : H l = some o) (hn : ∀ xs, o ≠ .tup xs) {kvs : List (Key × V)} {ms : List Tm} (h : LiveK H kvs ms) : LiveK (upd H l o') kvs ms := h.frame fun t m e => by
  rw [upd_ne fun z => ?_]
  · exact e
  · rw [z, hl] at e
    exact hn _ (Option.some.inj e)
theorem LiveK.len {H : Hp} : ∀ {kvs : List (Key × V)} {ms : List Tm}, LiveK H kvs ms → kvs.length = ms.length
  | [], [], _ => rfl
  | _ :: _, _ :: _, h => congrArg Nat.succ h.2.2.len
  | [], _ :: _, h => h.elim
  | _ :: _, [], h => h.elim
theorem LiveK.keys {H : Hp} : ∀ {kvs : List (Key × V)} {ms : List Tm}, LiveK H kvs ms → kvs.map (·.1) = ms.map fun m => Sum.inl (m.num : Int)
  | [], [], _ => rfl
  | kv :: kvs, m :: ms, h => by
    rw [List.map_cons, List.map_cons, h.1, h.2.2.keys]
  | [], _ :: _, h => h.elim
  | _ :: _, [], h => h.elim
theorem LiveK.get {H : Hp} : ∀ {kvs : List (Key × V)} {ms : List Tm} {i : Nat} {k : Key} {v : V}, LiveK H kvs ms → kvs[i]? = some (k, v) → ∃ m t, ms[i]? = some m ∧ k = Sum.inl (m.num : Int) ∧ v = .ref t ∧ H t = some (.tup (tmV m))
  | kv :: _, m :: _, 0, k, v, ⟨h1, ⟨t, h2, h3⟩, _⟩, e => by
    cases Option.some.inj e
    exact ⟨m, t, rfl, h1, h2, h3⟩
  | _ :: _, _ :: _, i + 1, _, _, h, e => h.2.2.get (i := i) e
  | [], _, _, _, _, _, e => by simp at e
  | _ :: _, [], _, _, _, h, _ => h.elim
theorem LiveK.snoc {H : Hp} {k : Key} {t : Addr} {m : Tm} : ∀ {kvs : List (Key × V)} {ms : List Tm}, LiveK H kvs ms → k = Sum.inl (m.num : Int) → H t = some (.tup (tmV m)) → LiveK H (kvs ++ [(k, .ref t)]) (ms ++ [m])
  | [], [], _, h1, h2 => ⟨h1, ⟨t, rfl, h2⟩, trivial⟩
  | _ :: _, _ :: _, h, h1, h2 => ⟨h.1, h.2.1, h.2.2.snoc h1 h2⟩
  | [], _ :: _, h, _, _ => h.elim
  | _ :: _, [], h, _, _ => h.elim
theorem inl_num {a b : Nat} : (Sum.inl (a : Int) : Key) = Sum.inl (b : Int) ↔ a = b := ⟨fun e => Int.ofNat.inj (Sum.inl.inj e), fun e => by rw [e]⟩
theorem LiveK.drop {H : Hp} {n : Nat} : ∀ {kvs : List (Key × V)} {ms : List Tm}, LiveK H kvs ms → LiveK H (dropK kvs (Sum.inl (n : Int))) (dropT n ms)
  | [], [], _ => trivial
  | kv :: kvs, m :: ms, h => by
    by_cases e : m.num = n
    · have e1 : kv.1 = (Sum.inl (n : Int) : Key) := by rw [h.1, e]
      have e2 : dropT n (m :: ms) = dropT n ms := by
        unfold dropT
        rw [List.filter_cons, if_neg (by simp [e])]
      rw [dropK_pos e1, e2]
      exact h.2.2.drop
    · have e1 : ¬ kv.1 = (Sum.inl (n : Int) : Key) := by
        rw [h.1]
        exact fun z => e (inl_num.mp z)
      have e2 : dropT n (m :: ms) = m :: dropT n ms := by
        unfold dropT
        rw [List.filter_cons, if_pos (by simp [e])]
      rw [dropK_neg e1, e2]
      exact ⟨h.1, h.2.1, h.2.2.drop⟩
  | [], _ :: _, h => h.elim
  | _ :: _, [], h => h.elim
theorem LiveK.val {H : Hp} {n : Nat} : ∀ {kvs : List (Key × V)} {ms : List Tm}, LiveK H kvs ms → match ms.find? fun m => decide (m.num = n) with
    | none => valV kvs (Sum.inl (n : Int)) = none
    | some m => ∃ t, valV kvs (Sum.inl (n : Int)) = some (.ref t) ∧ H t = some (.tup (tmV m))
  | [], [], _ => rfl
  | kv :: kvs, m :: ms, h => by
    by_cases e : m.num = n
    · have e1 : kv.1 = (Sum.inl (n : Int) : Key) := by rw [h.1, e]
      rw [List.find?_cons_of_pos (by simpa using e), valV_pos e1]
      obtain ⟨t, h2, h3⟩ := h.2.1
      exact ⟨t, by rw [h2], h3⟩
    · have e1 : ¬ kv.1 = (Sum.inl (n : Int) : Key) := by
        rw [h.1]
        exact fun z => e (inl_num.mp z)
      rw [List.find?_cons_of_neg (by simpa using e), valV_neg e1]
      exact h.2.2.val
  | [], _ :: _, h => h.elim
  | _ :: _, [], h => h.elim
theorem find_of {ms : List Tm} {m : Tm} (nd : (ms.map (·.num)).Nodup) (h : m ∈ ms) : ms.find? (fun x => decide (x.num = m.num)) = some m := by
  induction ms with
  | nil => cases h
  | cons a r ih =>
    rw [List.map_cons, List.nodup_cons] at nd
    rcases List.mem_cons.mp h with e | h
    · rw [e]
      exact List.find?_cons_of_pos (by simp)
    · have hne : ¬ a.num = m.num := fun e => nd.1 (by rw [e]; exact List.mem_map_of_mem h)
      rw [List.find?_cons_of_neg (by simpa using hne)]
      exact ih nd.2 h
theorem LiveK.val_of {H : Hp} {kvs : List (Key × V)} {ms : List Tm} {m : Tm} (h : LiveK H kvs ms) (nd : (ms.map (·.num)).Nodup) (hm : m ∈ ms) : ∃ t, valV kvs (Sum.inl (m.num : Int)) = some (.ref t) ∧ H t = some (.tup (tmV m)) := by
  have z := h.val (n := m.num)
  rw [find_of nd hm] at z
  exact z
theorem LiveK.val_not {H : Hp} {kvs : List (Key × V)} {ms : List Tm} {n : Nat} (h : LiveK H kvs ms) (hn : ∀ m ∈ ms, m.num ≠ n) : valV kvs (Sum.inl (n : Int)) = none := by
  have z := h.val (n := n)
  rw [List.find?_eq_none.mpr (fun m hm => by simpa using hn m hm)] at z
  exact z
theorem unlock {H H1 : Hp} {l : Addr} {u : HO} {od : Obj} (h : H l = some u) (s : Same (upd H l (.frz od u)) H1) : Same H (upd H1 l u) := fun c o e => by
  by_cases z : c = l
  · rw [z] at e ⊢
    rw [upd_same]
    exact h.symm.trans e
  · rw [upd_ne z]
    exact s c o (by rw [upd_ne z]; exact e)
theorem lock_same {H : Hp} {l : Addr} {u : HO} {o' : HO} {c : Addr} {o : HO} (h : H l = some u) (e : H c = some o) (hn : u ≠ o) : upd H l o' c = some o := by
  rw [upd_ne fun z => hn (by rw [z, h] at e; exact Option.some.inj e)]
  exact e
theorem sq_lock {K : PySem.W.Frag} {H : Hp} {l q : Addr} {kvs : List (Key × V)} {o' : HO} {xs : List V} (h : H l = some (.dK kvs)) (hq : SqL K H q xs) : SqL K (upd H l o') q xs := by
  rcases hq with (e | ⟨o, e⟩) | e
  · exact .inl (.inl (lock_same h e (by intro z; cases z)))
  · exact .inl (.inr ⟨o, lock_same h e (by intro z; cases z)⟩)
  · exact .inr e
/-- a loop over d.items() -/
theorem for_items {d : Addr} {o : Obj} {kvs : List (Key × V)} {g : TG} {tb : TS} {D : Ends} {σ : L2.St} {H : Hp} (Pv : Nat → L2.St → Hp → Prop) (h0 : Pv 0 σ H) (hq : ∀ i σ H, Pv i σ H → H d = some (.frz o (.dK kvs)))
    (hs : ∀ (i : Nat) (k : Key) (v : V) (T : Addr) (σ : L2.St) (H : Hp), kvs[i]? = some (k, v) → Pv i σ H → H T = none → g (.ref T) σ (upd H T (.tup [kV k, v])) fun σ2 H2 => tb { D with nx := Pv (i + 1), ct := Pv (i + 1), bk := D.nx } σ2 H2) (hd : ∀ σ H, Pv kvs.length σ H → D.nx σ H) :
    ∃ W : Nat → Nat → L2.St → Hp → Prop, (∃ m, W 0 m σ H) ∧ ∀ i m σ H, W i m σ H →
      ((Iti d o kvs).stop i H ∧ D.nx σ H) ∨ ((Iti d o kvs).go i H ∧ ∃ N : L2.St → Hp → Prop, (∀ σ' H', N σ' H' → ∃ m', m' < m ∧ W (i + 1) m' σ' H') ∧ ∀ v H', (Iti d o kvs).yld i H v H' → g v σ H' fun σ2 H2 => tb { D with nx := N, ct := N, bk := D.nx } σ2 H2) := by
  refine ⟨fun i m σ H => m = kvs.length - i ∧ i ≤ kvs.length ∧ Pv i σ H, ⟨kvs.length, rfl, Nat.zero_le _, h0⟩, ?_⟩
  rintro i m σ H ⟨rfl, hi, p⟩
  have qx := hq i σ H p
  by_cases hlt : i < kvs.length
  · refine .inr ⟨⟨qx, hlt⟩, Pv (i + 1), fun σ' H' p' => ⟨kvs.length - (i + 1), by omega, rfl, hlt, p'⟩, fun x H' y => ?_⟩
    obtain ⟨T, k, v, e, rfl, nT, rfl⟩ := y
    exact hs i k v T σ H e p nT
  · have e : i = kvs.length := by omega
    subst e
    exact .inl ⟨⟨qx, Nat.le_refl _⟩, hd σ H p⟩
/-- a loop over d.values() -/
theorem for_values {d : Addr} {o : Obj} {kvs : List (Key × V)} {g : TG} {tb : TS} {D : Ends} {σ : L2.St} {H : Hp} (Pv : Nat → L2.St → Hp → Prop) (h0 : Pv 0 σ H) (hq : ∀ i σ H, Pv i σ H → H d = some (.frz o (.dK kvs)))
    (hs : ∀ (i : Nat) (k : Key) (v : V) (σ : L2.St) (H : Hp), kvs[i]? = some (k, v) → Pv i σ H → g v σ H fun σ2 H2 => tb { D with nx := Pv (i + 1), ct := Pv (i + 1), bk := D.nx } σ2 H2) (hd : ∀ σ H, Pv kvs.length σ H → D.nx σ H) :
    ∃ W : Nat → Nat → L2.St → Hp → Prop, (∃ m, W 0 m σ H) ∧ ∀ i m σ H, W i m σ H →
      ((Itd d o kvs).stop i H ∧ D.nx σ H) ∨ ((Itd d o kvs).go i H ∧ ∃ N : L2.St → Hp → Prop, (∀ σ' H', N σ' H' → ∃ m', m' < m ∧ W (i + 1) m' σ' H') ∧ ∀ v H', (Itd d o kvs).yld i H v H' → g v σ H' fun σ2 H2 => tb { D with nx := N, ct := N, bk := D.nx } σ2 H2) := by
  refine ⟨fun i m σ H => m = kvs.length - i ∧ i ≤ kvs.length ∧ Pv i σ H, ⟨kvs.length, rfl, Nat.zero_le _, h0⟩, ?_⟩
  rintro i m σ H ⟨rfl, hi, p⟩
  have qx := hq i σ H p
  by_cases hlt : i < kvs.length
  · refine .inr ⟨⟨qx, hlt⟩, Pv (i + 1), fun σ' H' p' => ⟨kvs.length - (i + 1), by omega, rfl, hlt, p'⟩, fun x H' y => ?_⟩
    obtain ⟨rfl, k, e⟩ := y
    exact hs i k x σ H' e p
  · have e : i = kvs.length := by omega
    subst e
    exact .inl ⟨⟨qx, Nat.le_refl _⟩, hd σ H p⟩
/-- a comprehension over d.values() -/
theorem lc_values {d : Addr} {o : Obj} {kvs : List (Key × V)} {g : TG} {tt : TT} {te : TE} {vs : List Nat} {σ : L2.St} {H1 : Hp} {D : Addr} {Qd : Hp → Prop} (Pv : Nat → Hp → Prop) (h0 : Pv 0 (upd H1 D (.lst []))) (hq : ∀ i H, Pv i H → H d = some (.frz o (.dK kvs)))
    (hs : ∀ i k x H, kvs[i]? = some (k, x) → Pv i H → g x (wipe σ vs) H fun σ2 H2 => wipe σ2 vs = wipe σ vs ∧ tt σ2 H2 fun b H3 =>
      if b = true then te σ2 H3 fun y H4 => ∃ acc, H4 D = some (.lst acc) ∧ acc.length < sizeLine ∧ Pv (i + 1) (upd H4 D (.lst (acc ++ [y]))) else Pv (i + 1) H3) (hd : ∀ H, Pv kvs.length H → Qd H) :
    ∃ W : Nat → Nat → Hp → Prop, (∃ m, W 0 m (upd H1 D (.lst []))) ∧ ∀ i m H, W i m H →
      ((Itd d o kvs).stop i H ∧ Qd H) ∨ ((Itd d o kvs).go i H ∧ ∃ Nx : Hp → Prop, (∀ H', Nx H' → ∃ m', m' < m ∧ W (i + 1) m' H') ∧ ∀ x H', (Itd d o kvs).yld i H x H' → g x (wipe σ vs) H' fun σ2 H2 => wipe σ2 vs = wipe σ vs ∧ tt σ2 H2 fun b H3 =>
        if b = true then te σ2 H3 fun y H4 => ∃ acc, H4 D = some (.lst acc) ∧ acc.length < sizeLine ∧ Nx (upd H4 D (.lst (acc ++ [y]))) else Nx H3) := by
  refine ⟨fun i m H => m = kvs.length - i ∧ i ≤ kvs.length ∧ Pv i H, ⟨kvs.length, rfl, Nat.zero_le _, h0⟩, ?_⟩
  rintro i m H ⟨rfl, hi, p⟩
  have qx := hq i H p
  by_cases hlt : i < kvs.length
  · refine .inr ⟨⟨qx, hlt⟩, Pv (i + 1), fun H' p' => ⟨kvs.length - (i + 1), by omega, rfl, hlt, p'⟩, fun x H' y => ?_⟩
    obtain ⟨rfl, k, e⟩ := y
    exact hs i k x H' e p
  · have e : i = kvs.length := by omega
    subst e
    exact .inl ⟨⟨qx, Nat.le_refl _⟩, hd H p⟩
section
variable {P : Program} {w : World} {K : PySem.W.Frag} {mg : Str → Option Value} {base : Heap}
def spLeast : Sp := fun vs H Q _ => ∃ (l : Addr) (kvs : List (Key × V)) (ms : List Tm), vs = [.ref l] ∧ H l = some (.dK kvs) ∧ LiveK H kvs ms ∧ ms.length ≤ 1000 ∧ ∀ H', Same H H' → Q (perV (leastD ms)) H'
theorem min_least {ms : List Tm} {Q : V → Prop} (q : Q (perV (leastD ms))) : (ms.map (fun m => (m.due : Int)) = [] → Q .non) ∧ ∀ v ∈ ms.map (fun m => (m.due : Int)), (∀ x ∈ ms.map (fun m => (m.due : Int)), v ≤ x) → Q (.int v) := by
  refine ⟨fun e => ?_, fun v hv hx => ?_⟩
  · rw [least_none.mpr (List.map_eq_nil_iff.mp e)] at q
    exact q
  · obtain ⟨m, hm, rfl⟩ := List.mem_map.mp hv
    have e : leastD ms = some m.due := least_some.mpr ⟨List.mem_map_of_mem hm, fun x h => by
      obtain ⟨m', hm', rfl⟩ := List.mem_map.mp h
      exact Int.ofNat_le.mp (hx _ (List.mem_map_of_mem hm'))⟩
    rw [e] at q
    exact q
theorem ok_least_due {f : Addr} {fd : FuncData} (F : Fun K "least_due" "least_due" s_least_due f fd) (T : Tx K mg) : FnOk P w K mg base CX0 1 f fd ["live"] spLeast := by
  refine F.ok sc_least_due (fun vs H Q E h => ?_) (fun cdv A outer s H vs Q E hr h => ?_)
  · obtain ⟨l, kvs, ms, rfl, _⟩ := h
    rfl
  · obtain ⟨l, kvs, ms, rfl, hl, L, few, q⟩ := h
    refine ⟨_, (pss_one (ps_ret (pe_callBK (minDef (K := K) rfl rfl hr.units) (by rfl) T.b_min (by decide +kernel) (pa_cons (pe_lock (pe_lc (own := [("due", 1), ("period", 2), ("since", 3)]) (g := _) (tt := tYes) rfl sc_least_due.nd (pi_values (pv 0)) (blkOk_by (own := [("due", 1), ("period", 2), ("since", 3)]) (N := N_least_due) (sc := defScope s_least_due) (by decide +kernel)) (fun _ _ _ _ _ => (pg_tupK (K := K) (n := 3) rfl rfl (pgs_cons (pg_name (i := 1) sc_least_due.nd rfl (.inl rfl)) (pgs_cons (pg_name (i := 2) sc_least_due.nd rfl (.inl rfl)) (pgs_cons (pg_name (i := 3) sc_least_due.nd rfl (.inl rfl)) pgs_nil))))) (fun _ _ _ _ _ => pts_nil) (fun _ _ _ _ _ => (pv 1)))) pa_nil) (pk_cons pe_non pk_nil)))), ?_⟩
    refine ⟨l, _, hl, trivial, fun od => ?_⟩
    refine ⟨_, rfl, l, od, kvs, rfl, upd_same, fun D hD => lc_values (d := l) (o := od) (kvs := kvs) (fun i H' => Same (upd H l (.frz od (.dK kvs))) H' ∧ H' D = some (.lst ((ms.take i).map fun m => V.int (m.due : Nat))))
      ⟨same_upd hD, upd_same⟩ (fun i H' ⟨sm, _⟩ => sm _ _ upd_same) ?_ ?_⟩
    · rintro i k x H' hx ⟨sm, eD⟩
      have L' := L.upd (o' := .frz od (.dK kvs)) hl (fun xs z => by cases z)
      obtain ⟨m, t, hm, rfl, rfl, ht⟩ := L'.get hx
      refine ⟨t, _, rfl, .inl (.inl (sm _ _ ht)), rfl, _, _, rfl, _, _, rfl, _, _, rfl, rfl, rfl, yesT (iteT ?_)⟩
      refine ⟨_, rfl, _, eD, ?_, fun c o e => ?_, ?_⟩
      · rw [List.length_map, List.length_take]
        exact sizeLine_ge (by omega)
      · rw [upd_ne (ne_of_none e hD)]
        exact sm _ _ e
      · rw [upd_same, List.take_add_one, hm, List.map_append]
        rfl
    · rintro H1 ⟨sm, eD⟩
      rw [L.len, List.take_length] at eD
      have nDl : D ≠ l := fun e => by
        rw [e, upd_same] at hD
        cases hD
      have s2 := unlock hl sm
      have eD2 : (upd H1 l (.dK kvs)) D = some (.lst ((ms.map fun m => (m.due : Int)).map V.int)) := by
        rw [upd_ne nDl, eD, List.map_map]
        rfl
      refine ⟨sm _ _ upd_same, D, ms.map fun m => (m.due : Int), rfl, rfl, SqL.of eD2, ?_⟩
      exact min_least (Q := fun v => Q v (upd H1 l (.dK kvs))) (q _ s2)
end
/-! ### what fires, what is left -/
section
variable {P : Program} {w : World} {K : PySem.W.Frag} {mg : Str → Option Value} {base : Heap}
def spWithTimer : Sp := fun vs H Q _ => ∃ (a : Addr) (xs : List Nat) (n : Nat) (f : Bool), vs = [.ref a, .int (n : Nat), .bl f] ∧ H a = some (.lst (xs.map fun x => V.int (x : Nat))) ∧ xs.length ≤ 1000 ∧ ∀ H' p, Same H H' → H p = none → H' p = some (.lst ((insT f n xs).map fun x => V.int (x : Nat))) → Q (.ref p) H'
theorem ok_with_timer {f : Addr} {fd : FuncData} (F : Fun K "with_timer" "with_timer" s_with_timer f fd) : FnOk P w K mg base CX0 1 f fd ["numbers", "number", "front"] spWithTimer := by
  refine F.ok sc_with_timer (fun vs H Q E h => ?_) (fun cdv A outer s H vs Q E hr h => ?_)
  · obtain ⟨a, xs, n, fr, rfl, _⟩ := h
    rfl
  · obtain ⟨a, xs, n, fr, rfl, ha, hl, q⟩ := h
    refine ⟨_, (pss_cons (ps_if (pt_val (pv 2))
        (pss_one (ps_ret (pe_op op_cat (pe_lst (pa_cons (pv 1) pa_nil)) (pv 0))))
        pss_nil)
      (pss_one (ps_ret (pe_op op_cat (pv 0) (pe_lst (pa_cons (pv 1) pa_nil)))))), ?_⟩
    refine ⟨_, rfl, fr, rfl, ?_⟩
    cases fr with
    | true =>
      refine iteT ⟨_, rfl, by simp [sizeLine_eq], fun p1 h1 => ?_⟩
      have s1 := same_upd (o := .lst [.int (n : Nat)]) h1
      refine ⟨_, rfl, p1, a, _, _, rfl, rfl, upd_same, s1 _ _ ha, ?_, fun p hp => ?_⟩
      · rw [List.length_map]
        exact sizeLine_le (by show 1 + xs.length ≤ 1000000; omega)
      · exact q _ p (s1.trans (same_upd hp)) (s1.free hp) upd_same
    | false =>
      refine iteF ⟨_, rfl, _, rfl, by simp [sizeLine_eq], fun p1 h1 => ?_⟩
      have s1 := same_upd (o := .lst [.int (n : Nat)]) h1
      refine ⟨a, p1, _, _, rfl, rfl, s1 _ _ ha, upd_same, ?_, fun p hp => ?_⟩
      · rw [List.length_map]
        exact sizeLine_le (by show xs.length + 1 ≤ 1000000; omega)
      · refine q _ p (s1.trans (same_upd hp)) (s1.free hp) ?_
        rw [upd_same]
        unfold insT
        rw [if_neg (by decide), List.map_append]
        rfl
end
/-- the order of timers that are set at these ticks and due at one tick -/
noncomputable def orderP (b : Nat) (ws : List Bool) (d : Nat) (ps : List (Nat × Nat)) : List Nat := ps.foldl (fun acc r => insT (sideT b ws r.2 d 0) r.1 acc) []
theorem orderP_snoc (b : Nat) (ws : List Bool) (d : Nat) (ps : List (Nat × Nat)) (r : Nat × Nat) : orderP b ws d (ps ++ [r]) = insT (sideT b ws r.2 d 0) r.1 (orderP b ws d ps) := by
  unfold orderP
  rw [List.foldl_append]
  rfl
theorem orderP_len (b : Nat) (ws : List Bool) (d : Nat) (ps : List (Nat × Nat)) : (orderP b ws d ps).length = ps.length := by
  have H : ∀ (ps : List (Nat × Nat)) (acc : List Nat), (ps.foldl (fun acc r => insT (sideT b ws r.2 d 0) r.1 acc) acc).length = acc.length + ps.length := by
    intro ps
    induction ps with
    | nil => intro acc; rfl
    | cons r ps ih =>
      intro acc
      rw [List.foldl_cons, ih, insT_len, List.length_cons]
      omega
  have z := H ps []
  rw [List.length_nil, Nat.zero_add] at z
  exact z
def setsOf (t : Nat) (ms : List Tm) : List (Nat × Nat) := (ms.filter fun m => decide (m.due = t)).map fun m => (m.num, m.since)
theorem order_P (b : Nat) (ws : List Bool) (t : Nat) (ms : List Tm) : orderAt b ws t ms = orderP b ws t (setsOf t ms) := by
  have H : ∀ (ms : List Tm) (acc : List Nat), ms.foldl (fun acc m => if m.due = t then insT (sideT b ws m.since m.due 0) m.num acc else acc) acc = (setsOf t ms).foldl (fun acc r => insT (sideT b ws r.2 t 0) r.1 acc) acc := by
    intro ms
    induction ms with
    | nil => intro acc; rfl
    | cons m ms ih =>
      intro acc
      rw [List.foldl_cons, ih]
      by_cases e : m.due = t
      · have z : setsOf t (m :: ms) = (m.num, m.since) :: setsOf t ms := by
          unfold setsOf
          rw [List.filter_cons_of_pos (by simpa using e)]
          rfl
        rw [z, List.foldl_cons, if_pos e, e]
      · have z : setsOf t (m :: ms) = setsOf t ms := by
          unfold setsOf
          rw [List.filter_cons_of_neg (by simpa using e)]
        rw [z, if_neg e]
  exact H ms []
/-- at the places ts stand tuples of a number and a tick -/
def PrAt (H : Hp) : List Addr → List (Nat × Nat) → Prop
  | [], [] => True
  | t :: ts, r :: rs => H t = some (.tup [.int (r.1 : Nat), .int (r.2 : Nat)]) ∧ PrAt H ts rs
  | _, _ => False
theorem PrAt.frame {H H' : Hp} : ∀ {ts : List Addr} {rs : List (Nat × Nat)}, PrAt H ts rs → (∀ t xs, H t = some (.tup xs) → H' t = some (.tup xs)) → PrAt H' ts rs
  | [], [], _, _ => trivial
  | _ :: _, _ :: _, h, s => ⟨s _ _ h.1, h.2.frame s⟩
  | [], _ :: _, h, _ => h.elim
  | _ :: _, [], h, _ => h.elim
theorem PrAt.app {H : Hp} {t : Addr} {r : Nat × Nat} : ∀ {ts : List Addr} {rs : List (Nat × Nat)}, PrAt H ts rs → H t = some (.tup [.int (r.1 : Nat), .int (r.2 : Nat)]) → PrAt H (ts ++ [t]) (rs ++ [r])
  | [], [], _, h => ⟨h, trivial⟩
  | _ :: _, _ :: _, h, h2 => ⟨h.1, h.2.app h2⟩
  | [], _ :: _, h, _ => h.elim
  | _ :: _, [], h, _ => h.elim
theorem PrAt.len {H : Hp} : ∀ {ts : List Addr} {rs : List (Nat × Nat)}, PrAt H ts rs → ts.length = rs.length
  | [], [], _ => rfl
  | _ :: _, _ :: _, h => congrArg Nat.succ h.2.len
  | [], _ :: _, h => h.elim
  | _ :: _, [], h => h.elim
theorem PrAt.item {H : Hp} : ∀ {ts : List Addr} {rs : List (Nat × Nat)} {i : Nat} {x : V}, PrAt H ts rs → (ts.map V.ref)[i]? = some x → ∃ t r, x = V.ref t ∧ rs[i]? = some r ∧ H t = some (.tup [.int (r.1 : Nat), .int (r.2 : Nat)])
  | t :: _, r :: _, 0, x, h, e => ⟨t, r, (Option.some.inj e).symm, rfl, h.1⟩
  | _ :: _, _ :: _, i + 1, _, h, e => h.2.item (i := i) e
  | [], _, _, _, _, e => by simp at e
  | _ :: _, [], _, _, h, _ => h.elim
/-- a list made over the items of a dict -/
theorem lc_items {d : Addr} {o : Obj} {kvs : List (Key × V)} {g : TG} {tt : TT} {te : TE} {ws : List Nat} {σ : L2.St} {G : Hp} {D : Addr} {Qd : Hp → Prop} (Pv : Nat → Hp → Prop) (start : Pv 0 (upd G D (.lst []))) (lock : ∀ i G, Pv i G → G d = some (.frz o (.dK kvs)))
    (step : ∀ (i : Nat) (k : Key) (v : V) (T : Addr) (G : Hp), kvs[i]? = some (k, v) → Pv i G → G T = none → g (.ref T) (wipe σ ws) (upd G T (.tup [kV k, v])) fun τ G2 => wipe τ ws = wipe σ ws ∧ tt τ G2 fun c G3 => if c = true then te τ G3 fun z G4 => ∃ ac, G4 D = some (.lst ac) ∧ ac.length < sizeLine ∧ Pv (i + 1) (upd G4 D (.lst (ac ++ [z]))) else Pv (i + 1) G3)
    (last : ∀ G, Pv kvs.length G → Qd G) : ∃ W : Nat → Nat → Hp → Prop, (∃ m, W 0 m (upd G D (.lst []))) ∧ ∀ i m G, W i m G → ((Iti d o kvs).stop i G ∧ Qd G) ∨
      ((Iti d o kvs).go i G ∧ ∃ N : Hp → Prop, (∀ G', N G' → ∃ m', m' < m ∧ W (i + 1) m' G') ∧ ∀ x G', (Iti d o kvs).yld i G x G' → g x (wipe σ ws) G' fun τ G2 => wipe τ ws = wipe σ ws ∧ tt τ G2 fun c G3 => if c = true then te τ G3 fun z G4 => ∃ ac, G4 D = some (.lst ac) ∧ ac.length < sizeLine ∧ N (upd G4 D (.lst (ac ++ [z]))) else N G3) := by
  refine ⟨fun i m G => (m = kvs.length - i ∧ i ≤ kvs.length) ∧ Pv i G, ⟨kvs.length, ⟨rfl, Nat.zero_le _⟩, start⟩, ?_⟩
  rintro i m G ⟨⟨rfl, le⟩, pv⟩
  have here := lock i G pv
  rcases Nat.lt_or_ge i kvs.length with lt | ge
  · refine .inr ⟨⟨here, lt⟩, Pv (i + 1), fun G' p' => ⟨kvs.length - (i + 1), by omega, ⟨rfl, lt⟩, p'⟩, fun x G' y => ?_⟩
    obtain ⟨T, k, v, e, rfl, nT, rfl⟩ := y
    exact step i k v T G e pv nT
  · have e : i = kvs.length := Nat.le_antisymm le ge
    rw [e] at pv ⊢
    exact .inl ⟨⟨here, Nat.le_refl _⟩, last G pv⟩
section
variable {P : Program} {w : World} {K : PySem.W.Frag} {mg : Str → Option Value} {base : Heap}
def spFiringOrder (K : PySem.W.Frag) : Sp := fun vs H Q _ => ∃ (b d : Nat) (q S : Addr) (ws : List Bool) (ts : List Addr) (ps : List (Nat × Nat)), vs = [.int (b : Nat), .ref q, .int (d : Nat), .ref S] ∧ 2 ≤ b ∧ b ≤ 64 ∧ SqL K H q (ws.map lvV) ∧ ws ≠ [] ∧ H S = some (.lst (ts.map V.ref)) ∧ PrAt H ts ps ∧ ps.length ≤ 1000 ∧ (∀ r ∈ ps, r.2 < d ∧ d < 2 ^ 250) ∧
  ∀ H' p, Same H H' → H p = none → H' p = some (.lst ((orderP b ws d ps).map fun x => V.int (x : Nat))) → Q (.ref p) H'
theorem ok_firing_order {f : Addr} {fd : FuncData} (F : Fun K "firing_order" "firing_order" s_firing_order f fd) (h1 : Has P w K mg base 1 "with_timer" ["numbers", "number", "front"] [] spWithTimer)
    (h2 : Has P w K mg base 3 "goes_in_front" ["base", "levels", "now", "due", "lowest"] [] (spFront K)) : FnOk P w K mg base CX0 4 f fd ["base", "levels", "due", "settings"] (spFiringOrder K) := by
  obtain ⟨f_with_timer, fd_with_timer, ds_with_timer, G_with_timer, m_with_timer, k_with_timer, b_with_timer, v_with_timer⟩ := h1
  obtain ⟨f_goes_in_front, fd_goes_in_front, ds_goes_in_front, G_goes_in_front, m_goes_in_front, k_goes_in_front, b_goes_in_front, v_goes_in_front⟩ := h2
  refine F.ok sc_firing_order (fun vs H Q E h => ?_) (fun cdv A outer s H vs Q E hr h => ?_)
  · obtain ⟨b, d, q, S, ws, ts, ps, rfl, _⟩ := h
    rfl
  · obtain ⟨b, d, q, S, ws, ts, ps, rfl, hb, hb64, hL, hne, hS, hP, few, ok, c⟩ := h
    refine ⟨_, (pss_cons (ps_set (i := 4) sc_firing_order.nd rfl (.inl rfl) (pe_lst pa_nil))
      (pss_cons (ps_for PassesOwn.never rfl (pi_list (pv 3)) (pg_tupK (K := K) (n := 2) rfl rfl (pgs_cons (pg_name (i := 5) sc_firing_order.nd rfl (.inl rfl)) (pgs_cons (pg_name (i := 6) sc_firing_order.nd rfl (.inl rfl)) pgs_nil)))
        (pss_one (ps_set (i := 4) sc_firing_order.nd rfl (.inl rfl) (pe_call G_with_timer (hr.mono (by decide)) (by rfl) m_with_timer k_with_timer b_with_timer v_with_timer pass0 (pa_cons (pv 4) (pa_cons (pv 5) (pa_cons (pe_call G_goes_in_front hr (by rfl) m_goes_in_front k_goes_in_front b_goes_in_front v_goes_in_front pass0 (pa_cons (pv 0) (pa_cons (pv 1) (pa_cons (pv 6) (pa_cons (pv 2) (pa_cons pe_int pa_nil)))))) pa_nil)))))))
      (pss_one (ps_ret (pv 4))))), ?_⟩
    refine ⟨by simp [sizeLine_eq], fun p0 hp0 => ?_⟩
    have s0 := same_upd (o := .lst []) hp0
    have e0 : (upd H p0 (.lst [])) p0 = some (.lst []) := upd_same
    generalize upd H p0 (.lst []) = H0 at s0 e0 ⊢
    have hS0 := s0 _ _ hS
    refine ⟨_, rfl, S, rfl, ⟨_, SqL.of hS0⟩, for_list (K := K) (a := S) (xs := ts.map V.ref) (fun i σ H' => ∃ (p : Addr) (y5 y6 : Option V), σ = [some (.int (b : Nat)), some (.ref q), some (.int (d : Nat)), some (.ref S), some (.ref p), y5, y6] ∧ Same H0 H' ∧ H p = none ∧ H' p = some (.lst ((orderP b ws d (ps.take i)).map fun x => V.int (x : Nat))))
      ⟨p0, none, none, rfl, Same.refl _, hp0, e0⟩ (fun i σ H' _ ⟨_, _, _, _, sm, _⟩ => SqL.of (sm _ _ hS0)) ?_ ?_⟩
    · rintro i x σ H' hx ⟨p, y5, y6, rfl, sm, hp, eP⟩
      have hP' := hP.frame (H' := H') (fun t xs e => sm _ _ (s0 _ _ e))
      obtain ⟨t, r, rfl, hr2, ht⟩ := hP'.item hx
      obtain ⟨hrd, hd⟩ := ok r (List.mem_of_getElem? hr2)
      refine ⟨t, _, rfl, .inl (.inl ht), rfl, _, _, rfl, _, _, rfl, rfl, ?_⟩
      have hfew : (orderP b ws d (ps.take i)).length ≤ 1000 := by
        rw [orderP_len, List.length_take]
        omega
      refine ⟨_, rfl, _, rfl, _, rfl, _, rfl, _, rfl, _, rfl, b, r.2, d, 0, q, ws, rfl, hb, hb64, hrd, hd, (s0.trans sm).seq hL, hne, fun k2 hk2 H2 s2 => ?_⟩
      have eP2 := s2 _ _ eP
      refine ⟨p, orderP b ws d (ps.take i), r.1, frontOf ws 0 (rowsOf b r.2 d k2), rfl, eP2, hfew, fun H3 p3 s3 hp3 eP3 => ?_⟩
      refine ⟨p3, _, _, rfl, (sm.trans s2).trans s3, ((s0.trans sm).trans s2).free hp3, ?_⟩
      rw [List.take_add_one, hr2]
      show _ = some (HO.lst ((orderP b ws d (ps.take i ++ [r])).map fun x => V.int (x : Nat)))
      rw [orderP_snoc, sideT_eq hk2]
      exact eP3
    · rintro σ H' ⟨p, y5, y6, rfl, sm, hp, eP⟩
      rw [List.length_map, hP.len, List.take_length] at eP
      exact ⟨_, rfl, c _ p (s0.trans sm) hp eP⟩
end
/-! ### timers taken out, and fired -/
def DuesOk (ms : List Tm) : Prop := ∀ m ∈ ms, m.since < m.due ∧ m.due < 2 ^ 250
theorem order_few (b : Nat) (ws : List Bool) (t : Nat) (ms : List Tm) : (orderAt b ws t ms).length ≤ ms.length := by
  rw [order_len]
  exact List.length_filter_le _ _
/-- the timers that fire stand in the list, each once -/
structure Firing (t : Nat) (ms : List Tm) (ns : List Nat) : Prop where
  nd : ns.Nodup
  mem : ∀ n ∈ ns, ∃ m ∈ ms, m.num = n
theorem drop_mem {n : Nat} {ms : List Tm} {m : Tm} (h : m ∈ ms) (hn : m.num ≠ n) : m ∈ dropT n ms := List.mem_filter.mpr ⟨h, by simpa using hn⟩
theorem drop_len_lt {n : Nat} {ms : List Tm} (h : ∃ m ∈ ms, m.num = n) : (dropT n ms).length < ms.length := by
  obtain ⟨m, hm, e⟩ := h
  unfold dropT
  exact List.length_filter_lt_length_iff_exists.mpr ⟨m, hm, by simp [e]⟩
theorem fire_some {t n : Nat} {ms : List Tm} {m : Tm} (h : ms.find? (fun x => decide (x.num = n)) = some m) : fireT t ms n = match m.per with
    | none => dropT n ms
    | some k => dropT n ms ++ [⟨n, t + k, some k, t⟩] := by
  unfold fireT
  rw [h]
  try rfl
theorem drop_nodup {n : Nat} {ms : List Tm} (nd : (ms.map (·.num)).Nodup) : ((dropT n ms).map (·.num)).Nodup := by
  unfold dropT
  exact nd.sublist (List.Sublist.map _ List.filter_sublist)
theorem drop_not {n : Nat} {ms : List Tm} : ∀ m ∈ dropT n ms, m.num ≠ n := fun m hm => by simpa using (List.mem_filter.mp hm).2
theorem fire_nodup {t n : Nat} {ms : List Tm} (nd : (ms.map (·.num)).Nodup) : ((fireT t ms n).map (·.num)).Nodup := by
  unfold fireT
  split
  · exact nd
  · split
    · exact drop_nodup nd
    · rw [List.map_append]
      refine nd_snoc (drop_nodup nd) fun h => ?_
      obtain ⟨m, hm, e⟩ := List.mem_map.mp h
      exact drop_not m hm e
theorem fire_num {t n x : Nat} {ms : List Tm} (hx : x ≠ n) (h : ∃ m ∈ ms, m.num = x) : ∃ m ∈ fireT t ms n, m.num = x := by
  obtain ⟨m, hm, e⟩ := h
  unfold fireT
  split
  · exact ⟨m, hm, e⟩
  · split
    · exact ⟨m, drop_mem hm (by omega), e⟩
    · exact ⟨m, List.mem_append_left _ (drop_mem hm (by omega)), e⟩
theorem fire_len {t n : Nat} {ms : List Tm} : (fireT t ms n).length ≤ ms.length := by
  unfold fireT
  split
  · exact Nat.le_refl _
  · rename_i m hf
    have hm := List.mem_of_find?_eq_some hf
    have e : m.num = n := by simpa using List.find?_some hf
    have z := drop_len_lt (n := n) ⟨m, hm, e⟩
    split
    · omega
    · rw [List.length_append]
      show (dropT n ms).length + 1 ≤ _
      omega
/-! ### what fires, what is left -/
section
variable {P : Program} {w : World} {K : PySem.W.Frag} {mg : Str → Option Value} {base : Heap}
def spOrder (K : PySem.W.Frag) : Sp := fun vs H Q _ => ∃ (b t : Nat) (q l : Addr) (ws : List Bool) (kvs : List (Key × V)) (ms : List Tm), vs = [.int (b : Nat), .ref q, .ref l, .int (t : Nat)] ∧ 2 ≤ b ∧ b ≤ 64 ∧ SqL K H q (ws.map lvV) ∧ ws ≠ [] ∧ H l = some (.dK kvs) ∧ LiveK H kvs ms ∧ ms.length ≤ 1000 ∧ DuesOk ms ∧
  ∀ H' p, Same H H' → H p = none → H' p = some (.lst ((orderAt b ws t ms).map fun x => V.int (x : Nat))) → Q (.ref p) H'
theorem ok_order {f : Addr} {fd : FuncData} (F : Fun K "order_of_firing" "order_of_firing" s_order_of_firing f fd) (h1 : Has P w K mg base 4 "firing_order" ["base", "levels", "due", "settings"] [] (spFiringOrder K)) :
    FnOk P w K mg base CX0 5 f fd ["base", "levels", "live", "tick"] (spOrder K) := by
  obtain ⟨f_firing_order, fd_firing_order, ds_firing_order, G_firing_order, m_firing_order, k_firing_order, b_firing_order, v_firing_order⟩ := h1
  refine F.ok sc_order_of_firing (fun vs H Q E h => ?_) (fun cdv A outer s H vs Q E hr h => ?_)
  · obtain ⟨b, t, q, l, ws, kvs, ms, rfl, _⟩ := h
    rfl
  · obtain ⟨b, t, q, l, ws, kvs, ms, rfl, hb, hb64, hL, hne, hl, L, few, ok, c⟩ := h
    refine ⟨_, (pss_cons (ps_lock (ps_setLc (i := 4) (own := [("number", 5), ("due", 6), ("period", 7), ("since", 8)]) (g := _)  rfl sc_order_of_firing.nd rfl rfl (sw_true rfl rfl rfl (by decide +kernel)) (pi_items (pv 2)) (blkOk_by (own := [("number", 5), ("due", 6), ("period", 7), ("since", 8)]) (N := N_order_of_firing) (sc := defScope s_order_of_firing) (by decide +kernel)) (fun _ _ _ _ _ => (pg_tupK (K := K) (n := 2) rfl rfl (pgs_cons (pg_name (i := 5) sc_order_of_firing.nd rfl (.inl rfl)) (pgs_cons (pg_tupK (K := K) (n := 3) rfl rfl (pgs_cons (pg_name (i := 6) sc_order_of_firing.nd rfl (.inl rfl)) (pgs_cons (pg_name (i := 7) sc_order_of_firing.nd rfl (.inl rfl)) (pgs_cons (pg_name (i := 8) sc_order_of_firing.nd rfl (.inl rfl)) pgs_nil)))) pgs_nil)))) (fun _ _ _ _ _ => (pts_one (pt_cmpR op_eq (pv 6) (pv 3) (nomark _)))) (fun _ _ _ _ _ => (pe_tup (pa_cons (pv 5) (pa_cons (pv 8) pa_nil))))))
      (pss_one (ps_ret (pe_call G_firing_order hr (by rfl) m_firing_order k_firing_order b_firing_order v_firing_order pass0 (pa_cons (pv 0) (pa_cons (pv 1) (pa_cons (pv 3) (pa_cons (pv 4) pa_nil)))))))), ?_⟩
    refine ⟨l, _, hl, trivial, fun od => ?_⟩
    refine ⟨_, rfl, l, od, kvs, rfl, upd_same, fun D hD => lc_items (d := l) (o := od) (kvs := kvs) (fun i H' => Same (upd H l (.frz od (.dK kvs))) H' ∧ ∃ ts : List Addr, H' D = some (.lst (ts.map V.ref)) ∧ PrAt H' ts (setsOf t (ms.take i)))
      ⟨same_upd hD, [], upd_same, trivial⟩ (fun i H' ⟨sm, _⟩ => sm _ _ upd_same) ?_ ?_⟩
    · rintro i k v U H' hx ⟨sm, ts, eD, hP⟩ hU
      have L' := L.upd (o' := .frz od (.dK kvs)) hl (fun xs z => by cases z)
      obtain ⟨m, tt, hm, rfl, rfl, ht⟩ := L'.get hx
      have sU := same_upd (o := .tup [.int (m.num : Nat), .ref tt]) hU
      have ht' := sU _ _ (sm _ _ ht)
      have eD' := sU _ _ eD
      have hP' := hP.frame (H' := upd H' U (.tup [.int (m.num : Nat), .ref tt])) (fun t xs e => sU _ _ e)
      have hstep : setsOf t (ms.take (i + 1)) = setsOf t (ms.take i) ++ if m.due = t then [(m.num, m.since)] else [] := by
        rw [List.take_add_one, hm]
        show setsOf t (ms.take i ++ [m]) = _
        unfold setsOf
        rw [List.filter_append, List.map_append]
        by_cases e : m.due = t
        · rw [if_pos e, List.filter_cons_of_pos (by simpa using e)]
          rfl
        · rw [if_neg e, List.filter_cons_of_neg (by simpa using e)]
          rfl
      have hts : ts.length ≤ 1000 := by
        rw [hP.len]
        unfold setsOf
        rw [List.length_map]
        have z := List.length_filter_le (fun m : Tm => decide (m.due = t)) (ms.take i)
        rw [List.length_take] at z
        omega
      refine ⟨U, _, rfl, .inl (.inl upd_same), rfl, _, _, rfl, _, _, rfl, tt, _, rfl, .inl (.inl ht'), rfl, _, _, rfl, _, _, rfl, _, _, rfl, rfl, rfl, rfl, ?_⟩
      have sm1 := sm.trans sU
      by_cases e : m.due = t
      · refine ⟨_, rfl, _, rfl, rfl, true, dT (vE e), iteT ⟨_, rfl, _, rfl, by simp [sizeLine_eq], fun t3 ht3 => ?_⟩⟩
        have s3 := same_upd (o := .tup [.int (m.num : Nat), .int (m.since : Nat)]) ht3
        have eD3 := s3 _ _ eD'
        have n3 : t3 ≠ D := fun z => by
          rw [z] at ht3
          exact absurd (eD'.symm.trans ht3) (by intro y; cases y)
        refine ⟨_, eD3, ?_, fun c o e' => ?_, ts ++ [t3], ?_, ?_⟩
        · rw [List.length_map]
          exact sizeLine_ge (by omega)
        · rw [upd_ne (ne_of_none e' hD)]
          exact s3 _ _ (sm1 _ _ e')
        · rw [upd_same, List.map_append]
          rfl
        · rw [hstep, if_pos e]
          refine PrAt.app (r := (m.num, m.since)) (hP'.frame fun t' xs e' => ?_) ?_
          · rw [upd_ne (ne_of (s3 _ _ e') eD3 (by intro z; cases z))]
            exact s3 _ _ e'
          · rw [upd_ne n3]
            exact upd_same
      · refine ⟨_, rfl, _, rfl, rfl, false, dF (vN e), iteF ⟨sm1, ts, eD', ?_⟩⟩
        rw [hstep, if_neg e, List.append_nil]
        exact hP'
    · rintro H1 ⟨sm, ts, eD, hP⟩
      rw [L.len, List.take_length] at hP
      have nDl : D ≠ l := fun e => by
        rw [e, upd_same] at hD
        cases hD
      have s2 := unlock hl sm
      have hDn : H D = none := by
        rw [upd_ne nDl] at hD
        exact hD
      refine ⟨sm _ _ upd_same, ?_⟩
      have hP2 := hP.frame (H' := upd H1 l (.dK kvs)) (fun t' xs e' => by
        rw [upd_ne (ne_of e' (sm _ _ upd_same) (by intro z; cases z))]
        exact e')
      have eD2 : (upd H1 l (.dK kvs)) D = some (.lst (ts.map V.ref)) := by
        rw [upd_ne nDl]
        exact eD
      generalize upd H1 l (.dK kvs) = H2 at s2 hP2 eD2 ⊢
      refine ⟨_, rfl, _, rfl, _, rfl, _, rfl, b, t, q, D, ws, ts, setsOf t ms, rfl, hb, hb64, s2.seq hL, hne, eD2, hP2, ?_, ?_, fun H3 p s3 hp eP => ?_⟩
      · unfold setsOf
        rw [List.length_map]
        exact Nat.le_trans (List.length_filter_le _ _) few
      · intro r hr
        obtain ⟨m, hm, rfl⟩ := List.mem_map.mp hr
        have z := List.mem_filter.mp hm
        have e : m.due = t := by simpa using z.2
        rw [← e]
        exact ok m z.1
      · rw [← order_P] at eP
        exact c H3 p (s2.trans s3) (s2.free hp) eP
end
section
variable {P : Program} {w : World} {K : PySem.W.Frag} {mg : Str → Option Value} {base : Heap}
def spAfter : Sp := fun vs H Q _ => ∃ (l a : Addr) (t : Nat) (ns : List Nat) (kvs : List (Key × V)) (ms : List Tm), vs = [.ref l, .ref a, .int (t : Nat)] ∧ H l = some (.dK kvs) ∧ LiveK H kvs ms ∧ ms.length ≤ 1000 ∧ (ms.map (·.num)).Nodup ∧ H a = some (.lst (ns.map fun x => V.int (x : Nat))) ∧ Firing t ms ns ∧
  ∀ H' p kvs', Same H H' → H p = none → H' p = some (.dK kvs') → LiveK H' kvs' (afterF t ms ns) → Q (.ref p) H'
theorem ok_after {f : Addr} {fd : FuncData} (F : Fun K "after_firing" "after_firing" s_after_firing f fd) (T : Tx K mg) : FnOk P w K mg base CX0 1 f fd ["live", "numbers", "tick"] spAfter := by
  refine F.ok sc_after_firing (fun vs H Q E h => ?_) (fun cdv A outer s H vs Q E hr h => ?_)
  · obtain ⟨l, a, t, ns, kvs, ms, rfl, _⟩ := h
    rfl
  · obtain ⟨l, a, t, ns, kvs, ms, rfl, hl, L, few, nd, ha, fr, c⟩ := h
    have hu := hu_of hr
    refine ⟨_, (pss_cons (ps_set (i := 3) sc_after_firing.nd rfl (.inl rfl) (pe_callTy call_dictD (by rfl) T.b_dict (by decide +kernel) (pa_cons (pv 0) pa_nil)))
      (pss_cons (ps_for PassesOwn.never rfl (pi_list (pv 1)) (pg_name (i := 4) sc_after_firing.nd rfl (.inl rfl))
        (pss_cons (ps_asg (pe_dpop1 (pv 3) (pv 4) ⟨by rfl, by rfl, by rfl, by rfl⟩) (pg_tupK (K := K) (n := 3) rfl rfl (pgs_cons (pg_name (i := 5) sc_after_firing.nd rfl (.inl rfl)) (pgs_cons (pg_name (i := 6) sc_after_firing.nd rfl (.inl rfl)) (pgs_cons (pg_name (i := 7) sc_after_firing.nd rfl (.inl rfl)) pgs_nil)))))
        (pss_one (ps_if (pt_cmpR op_notN (pv 6) pe_non (nomark _))
          (pss_one (ps_dput hu (pv 3) (pv 4) (pe_tup (pa_cons (pe_op op_add (pv 2) (pv 6)) (pa_cons (pv 6) (pa_cons (pv 2) pa_nil)))) rfl))
          pss_nil))))
      (pss_one (ps_ret (pv 3))))), ?_⟩
    refine ⟨_, rfl, l, kvs, rfl, .inl hl, fun p hp => ?_⟩
    have s0 := same_upd (o := .dK kvs) hp
    have npa : p ≠ a := fun e => by
      rw [e, ha] at hp
      cases hp
    refine ⟨_, rfl, a, rfl, ⟨_, SqL.of (s0 _ _ ha)⟩, for_list (K := K) (a := a) (xs := ns.map fun x => V.int (x : Nat)) (fun i σ H' => ∃ (y4 y5 y6 y7 : Option V) (kvs' : List (Key × V)), σ = [some (.ref l), some (.ref a), some (.int (t : Nat)), some (.ref p), y4, y5, y6, y7] ∧ Same H H' ∧ H' p = some (.dK kvs') ∧ LiveK H' kvs' (afterF t ms (ns.take i)) ∧ ((afterF t ms (ns.take i)).map (·.num)).Nodup ∧ (afterF t ms (ns.take i)).length ≤ 1000 ∧ ∀ (x : Nat), (∃ j, i ≤ j ∧ ns[j]? = some x) → ∃ m ∈ afterF t ms (ns.take i), m.num = x)
      ⟨none, none, none, none, kvs, rfl, s0, upd_same, L.same s0, nd, few, fun x ⟨j, _, hj⟩ => fr.mem x (List.mem_of_getElem? hj)⟩ (fun i σ H' _ ⟨_, _, _, _, _, _, sm, _⟩ => SqL.of (sm _ _ ha)) ?_ ?_⟩
    · rintro i x σ H' hx ⟨y4, y5, y6, y7, kvs', rfl, sm, eP, L', nd', few', hin⟩
      rw [List.getElem?_map] at hx
      obtain ⟨n, hn, rfl⟩ : ∃ n, ns[i]? = some n ∧ x = V.int (n : Nat) := by
        cases e : ns[i]? with
        | none =>
          rw [e] at hx
          cases hx
        | some n =>
          rw [e] at hx
          exact ⟨n, rfl, (Option.some.inj hx).symm⟩
      obtain ⟨m, hm, en⟩ := hin n ⟨i, Nat.le_refl i, hn⟩
      have hfind := find_of nd' hm
      rw [en] at hfind
      obtain ⟨tt, hv, ht⟩ := L'.val_of nd' hm
      rw [en] at hv
      have estep : afterF t ms (ns.take (i + 1)) = fireT t (afterF t ms (ns.take i)) n := by
        unfold afterF
        rw [List.take_add_one, hn, List.foldl_append]
        rfl
      generalize hms : afterF t ms (ns.take i) = ms1 at L' nd' few' hin hm hfind estep
      have hnext : ∀ (x : Nat), (∃ j, i + 1 ≤ j ∧ ns[j]? = some x) → ∃ m ∈ fireT t ms1 n, m.num = x := fun x ⟨j, hj, ej⟩ => by
        refine fire_num (fun e => ?_) (hin x ⟨j, by omega, ej⟩)
        rw [e] at ej
        have hjl : j < ns.length := (List.getElem?_eq_some_iff.mp ej).1
        have := (List.getElem?_inj (i := i) (j := j) (List.getElem?_eq_some_iff.mp hn).1 fr.nd).mp (hn.trans ej.symm)
        omega
      refine ⟨_, rfl, p, rfl, .inl ⟨_, .inl eP⟩, _, rfl, kvs', Sum.inl (n : Int), _, eP, rfl, hv, ?_⟩
      have Ld := (L'.drop (n := n)).upd (o' := .dK (dropK kvs' (Sum.inl (n : Int)))) eP (fun xs z => by cases z)
      have ntp : tt ≠ p := ne_of ht eP (by intro z; cases z)
      have ht2 : (upd H' p (.dK (dropK kvs' (Sum.inl (n : Int))))) tt = some (.tup (tmV m)) := by
        rw [upd_ne ntp]
        exact ht
      have sd : Same H (upd H' p (.dK (dropK kvs' (Sum.inl (n : Int))))) := fun b o e => by
        rw [upd_ne (ne_of_none e hp)]
        exact sm _ _ e
      refine ⟨tt, _, rfl, .inl (.inl ht2), rfl, _, _, rfl, _, _, rfl, _, _, rfl, rfl, ?_⟩
      cases hper : m.per with
      | none =>
        have ef : fireT t ms1 n = dropT n ms1 := by rw [fire_some hfind, hper]
        refine ⟨perV none, rfl, rfl, false, ?_, iteF ?_⟩
        · rfl
        · refine ⟨_, _, _, _, _, rfl, sd, upd_same, ?_, ?_, ?_, ?_⟩
          · rw [estep, ef]
            exact Ld
          · rw [estep]
            exact fire_nodup nd'
          · rw [estep]
            exact Nat.le_trans fire_len few'
          · rw [estep]
            exact hnext
      | some k =>
        have ef : fireT t ms1 n = dropT n ms1 ++ [⟨n, t + k, some k, t⟩] := by rw [fire_some hfind, hper]
        refine ⟨perV (some k), rfl, rfl, true, ?_, iteT ?_⟩
        · rfl
        · have hvn := Ld.val_not (n := n) (fun m' hm' => drop_not m' hm')
          have hlen : (dropK kvs' (Sum.inl (n : Int))).length < sizeLine := by
            have z := dropK_le kvs' (Sum.inl (n : Int) : Key)
            rw [L'.len] at z
            exact sizeLine_ge (by omega)
          refine ⟨_, rfl, .int (k : Nat), rfl, _, _, rfl, rfl, .int (k : Nat), rfl, _, rfl, by simp [sizeLine_eq], fun u hu0 => ?_⟩
          have su := same_upd (o := .tup [.int ((t : Int) + (k : Int)), .int (k : Nat), .int (t : Nat)]) hu0
          have nup : p ≠ u := fun e => by
            rw [← e, upd_same] at hu0
            cases hu0
          refine ⟨_, rfl, _, rfl, p, _, rfl, DPut.k (k := Sum.inl (n : Int)) (su _ _ upd_same) hlen, ?_⟩
          rw [putK_new _ hvn]
          refine ⟨_, _, _, _, _, rfl, fun b o e => ?_, upd_same, ?_, ?_, ?_, ?_⟩
          · rw [upd_ne (ne_of_none e hp)]
            exact su _ _ (sd _ _ e)
          · rw [estep, ef]
            refine LiveK.upd (su _ _ upd_same) (fun xs z => by cases z) ?_
            exact (Ld.same su).snoc (m := ⟨n, t + k, some k, t⟩) rfl upd_same
          · rw [estep]
            exact fire_nodup nd'
          · rw [estep]
            exact Nat.le_trans fire_len few'
          · rw [estep]
            exact hnext
    · rintro σ H' ⟨y4, y5, y6, y7, kvs', rfl, sm, eP, L', _⟩
      rw [List.length_map, List.take_length] at L'
      exact ⟨_, rfl, c H' p kvs' sm hp eP L'⟩
end
/-! ### the order of many: how two of them stand, the one falling list -/
def oP (f : Nat × Nat → Bool) (zs : List (Nat × Nat)) : List (Nat × Nat) := zs.foldl (fun acc z => if f z = true then z :: acc else acc ++ [z]) []
theorem oP_fold (b : Nat) (ws : List Bool) (x : Nat) : ∀ (zs acc : List (Nat × Nat)), (zs.map fun z => (z.2, x - z.1)).foldl (fun acc r => insT (sideT b ws r.2 x 0) r.1 acc) (acc.map (·.2)) = (zs.foldl (fun acc z => if sideT b ws (x - z.1) x 0 = true then z :: acc else acc ++ [z]) acc).map (·.2) := by
  intro zs
  induction zs with
  | nil => intro acc; rfl
  | cons z zs ih =>
    intro acc
    rw [List.map_cons, List.foldl_cons, List.foldl_cons, ← ih]
    congr 1
    show insT (sideT b ws (x - z.1) x 0) z.2 (acc.map (·.2)) = _
    unfold insT
    by_cases c : sideT b ws (x - z.1) x 0 = true
    · rw [if_pos c, if_pos c, List.map_cons]
    · rw [if_neg c, if_neg c, List.map_append]
      rfl
theorem orderP_oP (b : Nat) (ws : List Bool) (x : Nat) (zs : List (Nat × Nat)) : orderP b ws x (zs.map fun z => (z.2, x - z.1)) = (oP (fun z => sideT b ws (x - z.1) x 0) zs).map (·.2) := oP_fold b ws x zs []
theorem oP_snoc (f : Nat × Nat → Bool) (zs : List (Nat × Nat)) (z : Nat × Nat) : oP f (zs ++ [z]) = if f z = true then z :: oP f zs else oP f zs ++ [z] := by
  unfold oP
  rw [List.foldl_append]
  rfl
theorem oP_memA (f : Nat × Nat → Bool) (y : Nat × Nat) : ∀ (zs acc : List (Nat × Nat)), y ∈ zs.foldl (fun acc z => if f z = true then z :: acc else acc ++ [z]) acc ↔ y ∈ acc ∨ y ∈ zs := by
  intro zs
  induction zs with
  | nil => intro acc; simp
  | cons z zs ih =>
    intro acc
    rw [List.foldl_cons, ih]
    by_cases c : f z = true
    · rw [if_pos c, List.mem_cons, List.mem_cons]
      constructor
      · rintro ((h | h) | h)
        · exact .inr (.inl h)
        · exact .inl h
        · exact .inr (.inr h)
      · rintro (h | h | h)
        · exact .inl (.inr h)
        · exact .inl (.inl h)
        · exact .inr h
    · rw [if_neg c, List.mem_append, List.mem_singleton, List.mem_cons]
      constructor
      · rintro ((h | h) | h)
        · exact .inl h
        · exact .inr (.inl h)
        · exact .inr (.inr h)
      · rintro (h | h | h)
        · exact .inl (.inl h)
        · exact .inl (.inr h)
        · exact .inr h
theorem oP_mem {f : Nat × Nat → Bool} {zs : List (Nat × Nat)} {y : Nat × Nat} : y ∈ oP f zs ↔ y ∈ zs := by
  unfold oP
  rw [oP_memA]
  simp
theorem oP_len (f : Nat × Nat → Bool) (zs : List (Nat × Nat)) : (oP f zs).length = zs.length := by
  have H : ∀ (zs acc : List (Nat × Nat)), (zs.foldl (fun acc z => if f z = true then z :: acc else acc ++ [z]) acc).length = acc.length + zs.length := by
    intro zs
    induction zs with
    | nil => intro acc; rfl
    | cons z zs ih =>
      intro acc
      rw [List.foldl_cons, ih, List.length_cons]
      split
      · rw [List.length_cons]
        omega
      · rw [List.length_append, List.length_singleton]
        omega
  have z := H zs []
  rw [List.length_nil, Nat.zero_add] at z
  exact z
/-- one stands ahead of another: set later and to the front, or the other one set later and to the back -/
def RelP (f : Nat × Nat → Bool) (a c : Nat × Nat) : Prop := (a.1 < c.1 ∧ f a = true) ∨ (c.1 < a.1 ∧ f c = false)
theorem oP_relA (f : Nat × Nat → Bool) : ∀ (zs acc : List (Nat × Nat)), acc.Pairwise (RelP f) → (∀ y ∈ acc, ∀ z ∈ zs, z.1 < y.1) → zs.Pairwise (fun a c => c.1 < a.1) → (zs.foldl (fun acc z => if f z = true then z :: acc else acc ++ [z]) acc).Pairwise (RelP f) := by
  intro zs
  induction zs with
  | nil => intro acc h _ _; exact h
  | cons z zs ih =>
    intro acc h h1 h2
    rw [List.foldl_cons]
    have h3 := List.pairwise_cons.mp h2
    have h4 : ∀ y ∈ acc, z.1 < y.1 := fun y hy => h1 y hy z (List.mem_cons_self ..)
    by_cases c : f z = true
    · rw [if_pos c]
      refine ih _ (List.pairwise_cons.mpr ⟨fun y hy => .inl ⟨h4 y hy, c⟩, h⟩) (fun y hy w hw => ?_) h3.2
      rcases List.mem_cons.mp hy with rfl | hy
      · exact h3.1 w hw
      · exact h1 y hy w (List.mem_cons_of_mem _ hw)
    · rw [if_neg c]
      refine ih _ (List.pairwise_append.mpr ⟨h, List.pairwise_singleton _ _, fun y hy w hw => ?_⟩) (fun y hy w hw => ?_) h3.2
      · rw [List.mem_singleton.mp hw]
        exact .inr ⟨h4 y hy, by simpa using c⟩
      · rcases List.mem_append.mp hy with hy | hy
        · exact h1 y hy w (List.mem_cons_of_mem _ hw)
        · rw [List.mem_singleton.mp hy]
          exact h3.1 w hw
theorem oP_rel {f : Nat × Nat → Bool} {zs : List (Nat × Nat)} (h : zs.Pairwise (fun a c => c.1 < a.1)) : (oP f zs).Pairwise (RelP f) := oP_relA f zs [] List.Pairwise.nil (fun y hy => by cases hy) h
/-- a falling list is told by its members -/
theorem strict_uniq : ∀ {l m : List (Nat × Nat)}, l.Pairwise (fun a c => c.1 < a.1) → m.Pairwise (fun a c => c.1 < a.1) → (∀ z, z ∈ l ↔ z ∈ m) → l = m
  | [], [], _, _, _ => rfl
  | [], c :: m, _, _, h => absurd ((h c).mpr (List.mem_cons_self ..)) (by simp)
  | a :: l, [], _, _, h => absurd ((h a).mp (List.mem_cons_self ..)) (by simp)
  | a :: l, c :: m, hl, hm, h => by
    have hl' := List.pairwise_cons.mp hl
    have hm' := List.pairwise_cons.mp hm
    have e : a = c := by
      rcases List.mem_cons.mp ((h a).mp (List.mem_cons_self ..)) with e | e
      · exact e
      · rcases List.mem_cons.mp ((h c).mpr (List.mem_cons_self ..)) with e2 | e2
        · exact e2.symm
        · have z1 := hm'.1 a e
          have z2 := hl'.1 c e2
          exact absurd z1 (by omega)
    subst e
    congr 1
    refine strict_uniq hl'.2 hm'.2 fun z => ⟨fun hz => ?_, fun hz => ?_⟩
    · rcases List.mem_cons.mp ((h z).mp (List.mem_cons_of_mem _ hz)) with e | e
      · have y := hl'.1 z hz
        rw [e] at y
        exact absurd y (Nat.lt_irrefl _)
      · exact e
    · rcases List.mem_cons.mp ((h z).mpr (List.mem_cons_of_mem _ hz)) with e | e
      · have y := hm'.1 z hz
        rw [e] at y
        exact absurd y (Nat.lt_irrefl _)
      · exact e
theorem orderP_turn {b : Nat} {ws : List Bool} {x n : Nat} {zs : List (Nat × Nat)} : oP (fun z => sideT b ws (x - z.1) x 0) (zs.map fun z => (z.1, n - 1 - z.2)) = (oP (fun z => sideT b ws (x - z.1) x 0) zs).map fun z => (z.1, n - 1 - z.2) := by
  have H : ∀ (zs acc : List (Nat × Nat)), (zs.map fun z => (z.1, n - 1 - z.2)).foldl (fun acc z => if (fun z : Nat × Nat => sideT b ws (x - z.1) x 0) z = true then z :: acc else acc ++ [z]) (acc.map fun z => (z.1, n - 1 - z.2)) = (zs.foldl (fun acc z => if (fun z : Nat × Nat => sideT b ws (x - z.1) x 0) z = true then z :: acc else acc ++ [z]) acc).map fun z => (z.1, n - 1 - z.2) := by
    intro zs
    induction zs with
    | nil => intro acc; rfl
    | cons z zs ih =>
      intro acc
      rw [List.map_cons, List.foldl_cons, List.foldl_cons, ← ih]
      congr 1
      by_cases c : sideT b ws (x - z.1) x 0 = true
      · rw [if_pos c, if_pos c]
        rfl
      · rw [if_neg c, if_neg c, List.map_append]
        rfl
  exact H zs []
/-! ### the program: orders of many periodic timers -/
/-- who fires at x: the period and the index of each, in the order of the indexes -/
def firesB (x : Nat) (r : Nat × Nat) : Bool := decide (r.1 < x ∧ (x - r.1) % r.2 = 0)
def rowsF (prs : List (Nat × Nat)) (x : Nat) : List (Nat × Nat) := (prs.zipIdx.filter fun z => firesB x z.1).map fun z => (z.1.2, z.2)
theorem rowsF_mem {prs : List (Nat × Nat)} {x : Nat} {z : Nat × Nat} : z ∈ rowsF prs x ↔ ∃ r, prs[z.2]? = some r ∧ r.2 = z.1 ∧ firesB x r = true := by
  unfold rowsF
  rw [List.mem_map]
  constructor
  · rintro ⟨y, hy, e⟩
    obtain ⟨h1, h2⟩ := List.mem_filter.mp hy
    have h3 := List.mem_zipIdx_iff_getElem?.mp h1
    rw [← e]
    exact ⟨y.1, h3, rfl, h2⟩
  · rintro ⟨r, h1, h2, h3⟩
    exact ⟨(r, z.2), List.mem_filter.mpr ⟨List.mem_zipIdx_iff_getElem?.mpr h1, h3⟩, Prod.ext h2 rfl⟩
theorem rowsF_nodup {prs : List (Nat × Nat)} {x : Nat} (h : (prs.map (·.2)).Nodup) : ((rowsF prs x).map (·.1)).Nodup := by
  unfold rowsF
  rw [List.map_map]
  have e : (prs.zipIdx.filter fun z => firesB x z.1).map ((fun z : Nat × Nat => z.1) ∘ fun z : (Nat × Nat) × Nat => (z.1.2, z.2)) = (prs.zipIdx.filter fun z => firesB x z.1).map fun z => z.1.2 := List.map_congr_left fun _ _ => rfl
  rw [e]
  have z : (prs.zipIdx.map fun z => z.1.2).Nodup := by
    have y : prs.zipIdx.map (fun z => z.1.2) = prs.map (·.2) := by
      have w : prs.zipIdx.map (fun z => z.1) = prs := by
        rw [List.zipIdx_map_fst]
      have v : prs.zipIdx.map (fun z => z.1.2) = (prs.zipIdx.map fun z => z.1).map (·.2) := by rw [List.map_map]; rfl
      rw [v, w]
    rw [y]
    exact h
  exact z.sublist (List.Sublist.map _ List.filter_sublist)
theorem rowsF_step {prs : List (Nat × Nat)} {x i : Nat} {r : Nat × Nat} (h : prs[i]? = some r) : ((prs.zipIdx.take (i + 1)).filter fun z => firesB x z.1).map (fun z => (z.1.2, z.2)) = ((prs.zipIdx.take i).filter fun z => firesB x z.1).map (fun z => (z.1.2, z.2)) ++ if firesB x r = true then [(r.2, i)] else [] := by
  have e : prs.zipIdx[i]? = some (r, i) := by
    rw [List.getElem?_zipIdx, h]
    simp
  rw [List.take_add_one, e, Option.toList_some, List.filter_append, List.map_append]
  congr 1
  by_cases c : firesB x r = true
  · rw [if_pos c, List.filter_cons_of_pos (p := fun z : (Nat × Nat) × Nat => firesB x z.1) c]
    rfl
  · rw [if_neg c, List.filter_cons_of_neg (p := fun z : (Nat × Nat) × Nat => firesB x z.1) c]
    rfl
section
variable {P : Program} {w : World} {K : PySem.W.Frag} {mg : Str → Option Value} {base : Heap}
def spSeveral (K : PySem.W.Frag) : Sp := fun vs H Q _ => ∃ (S : Addr) (ss : List Addr) (prs : List (Nat × Nat)), vs = [.ref S] ∧ H S = some (.lst (ss.map V.ref)) ∧ PrAt H ss prs ∧ prs ≠ [] ∧ prs.length ≤ 60 ∧ (∀ r ∈ prs, 1 ≤ r.2) ∧ (prs.map (·.2)).Nodup ∧ ∀ H', Same H H' → Q .non H'
theorem ok_check_several {f : Addr} {fd : FuncData} (F : Fun K "check_several" "check_several" s_check_several f fd) (T : Tx K mg) (h1 : Has P w K mg base 4 "check_periodic" ["given"] [] spCheckPeriodic) : FnOk P w K mg base CX0 5 f fd ["some"] (spSeveral K) := by
  obtain ⟨f_check_periodic, fd_check_periodic, ds_check_periodic, G_check_periodic, m_check_periodic, k_check_periodic, b_check_periodic, v_check_periodic⟩ := h1
  refine F.ok sc_check_several (fun vs H Q E h => ?_) (fun cdv A outer s H vs Q E hr h => ?_)
  · obtain ⟨S, ss, prs, rfl, _⟩ := h
    rfl
  · obtain ⟨S, ss, prs, rfl, hS, hP, hne, h60, hp1, hnd, c⟩ := h
    have hpos : 0 < prs.length := List.length_pos_iff.mpr hne
    have hsl := hP.len
    refine ⟨_, (pss_cons (ps_if (PW.pt (pw_or (pt_not (pt_val (pe_callB (isiK (K := K) rfl) (by rfl) T.b_isinstance (by decide +kernel) (pa_cons (pv 0) (pa_cons (pe_bltn (v := .ty "list") (u := .type "list") (by rfl) T.b_list (by decide +kernel) rfl) pa_nil))))) (pw_or1 (pt_cmpR op_eq (pe_callB (lenK (K := K) rfl) (by rfl) T.b_len PySem.boot_len (pa_cons (pv 0) pa_nil)) pe_int (nomark _)))))
        (pss_one ps_never)
        pss_nil)
      (pss_cons (ps_for PassesOwn.never rfl (pi_list (pv 0)) (pg_name (i := 1) sc_check_several.nd rfl (.inl rfl))
        (pss_one (ps_expr (pe_call G_check_periodic hr (by rfl) m_check_periodic k_check_periodic b_check_periodic v_check_periodic pass0 (pa_cons (pv 1) pa_nil)))))
      (pss_one (ps_if (pt_cmpR op_ne (RZ.pe_lenSetI (by rfl) T.b_len (by rfl) T.b_set (pe_lc (own := [("phase", 2), ("period", 3)]) (g := _) (tt := tYes) rfl sc_check_several.nd (pi_list (pv 0)) (blkOk_by (own := [("phase", 2), ("period", 3)]) (N := N_check_several) (sc := defScope s_check_several) (by decide +kernel)) (fun _ _ _ _ _ => (pg_tupK (K := K) (n := 2) rfl rfl (pgs_cons (pg_name (i := 2) sc_check_several.nd rfl (.inl rfl)) (pgs_cons (pg_name (i := 3) sc_check_several.nd rfl (.inl rfl)) pgs_nil)))) (fun _ _ _ _ _ => pts_nil) (fun _ _ _ _ _ => (pv 3)))) (pe_callB (lenK (K := K) rfl) (by rfl) T.b_len PySem.boot_len (pa_cons (pv 0) pa_nil)) (nomark _))
        (pss_one ps_never)
        pss_nil)))), ?_⟩
    refine ⟨.ref S, rfl, _, _, _, _, true, rfl, .ty "list", tyx_list (K := K) (SqL.of hS), kit_ty (by decide +kernel), true, rfl, iteF ?_⟩
    refine ⟨.ref S, rfl, S, _, rfl, .inl (SqL.of hS), rfl, false, dF ?_, iteF ?_⟩
    · rw [List.length_map, hsl]
      exact vN (b := 0) (by omega)
    refine ⟨_, rfl, S, rfl, ⟨_, SqL.of hS⟩, for_list (K := K) (a := S) (xs := ss.map V.ref) (fun i σ H' => (∃ y1, σ = [some (.ref S), y1, none, none]) ∧ H' = H) ⟨⟨none, rfl⟩, rfl⟩ (fun i σ H' _ ⟨_, e⟩ => by rw [e]; exact SqL.of hS) ?_ ?_⟩
    · rintro i x σ H' hx ⟨⟨y1, rfl⟩, rfl⟩
      obtain ⟨t, r, rfl, hr, ht⟩ := hP.item hx
      exact ⟨_, rfl, t, r.1, r.2, rfl, ht, hp1 r (List.mem_of_getElem? hr), ⟨⟨_, rfl⟩, rfl⟩⟩
    · rintro σ H' ⟨⟨y1, rfl⟩, rfl⟩
      refine ⟨_, rfl, S, rfl, ⟨_, SqL.of hS⟩, fun D hD => lc_list (K := K) (a := S) (xs := ss.map V.ref) (fun i H1 => Same H' H1 ∧ H1 D = some (.lst ((prs.take i).map fun r => V.int (r.2 : Nat)))) ⟨same_upd hD, upd_same⟩ (fun i H1 _ ⟨sm, _⟩ => SqL.of (sm _ _ hS)) ?_ ?_⟩
      · rintro i x H1 hx ⟨sm, eD⟩
        obtain ⟨t, r, rfl, hr, ht⟩ := hP.item hx
        refine ⟨t, _, rfl, .inl (.inl (sm _ _ ht)), rfl, _, _, rfl, _, _, rfl, rfl, rfl, yesT (iteT ?_)⟩
        refine ⟨_, rfl, _, eD, ?_, fun c o e => ?_, ?_⟩
        · rw [List.length_map, List.length_take]
          exact sizeLine_ge (by omega)
        · rw [upd_ne (ne_of_none e hD)]
          exact sm _ _ e
        · rw [upd_same, List.take_add_one, hr, List.map_append]
          rfl
      · rintro H1 ⟨s1, eD⟩
        rw [List.length_map, hsl, List.take_length] at eD
        have e1 : prs.map (fun r => V.int (r.2 : Nat)) = (prs.map fun r => ((r.2 : Nat) : Int)).map V.int := by
          rw [List.map_map]
          rfl
        rw [e1] at eD
        have nd : (prs.map fun r => ((r.2 : Nat) : Int)).Nodup := by
          have z : (prs.map (·.2)).Pairwise (· ≠ ·) := hnd
          rw [List.pairwise_map] at z
          show (prs.map fun r => ((r.2 : Nat) : Int)).Pairwise (· ≠ ·)
          rw [List.pairwise_map]
          exact z.imp fun h e => h (Int.ofNat.inj e)
        refine ⟨D, _, rfl, SqL.of eD, nd, by rw [List.length_map]; omega, .ref S, rfl, S, _, rfl, .inl (SqL.of (s1 _ _ hS)), rfl, false, nF ?_, iteF (c H1 s1)⟩
        rw [List.length_map, List.length_map, hsl]
def spOrderAtX (K : PySem.W.Frag) (CT : Addr) : Sp := fun vs H Q E => ∃ (b x : Nat) (q S : Addr) (ws : List Bool) (ss : List Addr) (prs : List (Nat × Nat)), vs = [.int (b : Nat), .ref q, .ref S, .int (x : Nat)] ∧ 2 ≤ b ∧ b ≤ 64 ∧ SqL K H q (ws.map lvV) ∧ ws ≠ [] ∧ ws.length ≤ 60 ∧ x < 2 ^ 250 ∧
  H S = some (.lst (ss.map V.ref)) ∧ PrAt H ss prs ∧ prs ≠ [] ∧ prs.length ≤ 60 ∧ (∀ r ∈ prs, 1 ≤ r.2) ∧ (prs.map (·.2)).Nodup ∧
  ((∃ r ∈ prs, r.1 = x) → ∀ H', Same H H' → E (.ref CT) none H') ∧ ((∀ r ∈ prs, r.1 ≠ x) → ∀ H' p (zs : List (Nat × Nat)), Same H H' → H p = none → zs.Perm (rowsF prs x) → zs.Pairwise (fun a c => c.1 < a.1) → H' p = some (.lst ((orderP b ws x (zs.map fun z => (z.2, x - z.1))).map fun y => V.int (y : Nat))) → Q (.ref p) H')
theorem okX_order_at {f CT : Addr} {fd : FuncData} (F : Fun K "order_at" "order_at" s_order_at f fd) (T : Tx K mg) (X_NoTick : EC K mg "NoTick" CT) (h1 : Has P w K mg base 3 "check_base" ["base"] [] spCheckBase) (h2 : Has P w K mg base 4 "check_levels" ["levels"] [] (spCheckLevels K))
    (h3 : Has P w K mg base 3 "check_tick" ["tick", "least"] [.int 0] spCheckTick) (h4 : Has P w K mg base 5 "check_several" ["some"] [] (spSeveral K)) (h5 : Has P w K mg base 1 "fires_again" ["timer", "tick"] [] spFires)
    (h6 : Has P w K mg base 4 "firing_order" ["base", "levels", "due", "settings"] [] (spFiringOrder K)) : FnOk P w K mg base (L2.CX P w) 6 f fd ["base", "levels", "some", "tick"] (spOrderAtX K CT) := by
  obtain ⟨f_check_base, fd_check_base, ds_check_base, G_check_base, m_check_base, k_check_base, b_check_base, v_check_base⟩ := h1
  obtain ⟨f_check_levels, fd_check_levels, ds_check_levels, G_check_levels, m_check_levels, k_check_levels, b_check_levels, v_check_levels⟩ := h2
  obtain ⟨f_check_tick1, fd_check_tick1, ds_check_tick1, G_check_tick1, m_check_tick1, k_check_tick1, b_check_tick1, v_check_tick1⟩ := h3
  obtain ⟨f_check_several, fd_check_several, ds_check_several, G_check_several, m_check_several, k_check_several, b_check_several, v_check_several⟩ := h4
  obtain ⟨f_fires_again, fd_fires_again, ds_fires_again, G_fires_again, m_fires_again, k_fires_again, b_fires_again, v_fires_again⟩ := h5
  obtain ⟨f_firing_order, fd_firing_order, ds_firing_order, G_firing_order, m_firing_order, k_firing_order, b_firing_order, v_firing_order⟩ := h6
  refine F.okX sc_order_at (fun vs H Q E h => ?_) (fun cdv A outer s H vs Q E hr h => ?_)
  · obtain ⟨b, x, q, S, ws, ss, prs, rfl, _⟩ := h
    rfl
  · obtain ⟨b, x, q, S, ws, ss, prs, rfl, hb, hb64, hL, hne, h60, hx, hS, hP, hpne, hp60, hpr1, hnd, cx, c⟩ := h
    have hsl := hP.len
    refine ⟨_, (pss_cons (ps_expr (pe_call G_check_base (hr.mono (by decide)) (by rfl) m_check_base k_check_base b_check_base v_check_base pass0 (pa_cons (pv 0) pa_nil)))
      (pss_cons (ps_expr (pe_call G_check_levels (hr.mono (by decide)) (by rfl) m_check_levels k_check_levels b_check_levels v_check_levels pass0 (pa_cons (pv 1) pa_nil)))
      (pss_cons (ps_expr (pe_call G_check_several hr (by rfl) m_check_several k_check_several b_check_several v_check_several pass0 (pa_cons (pv 2) pa_nil)))
      (pss_cons (ps_expr (pe_call G_check_tick1 (hr.mono (by decide)) (by rfl) m_check_tick1 k_check_tick1 b_check_tick1 v_check_tick1 pass0 (pa_cons (pv 3) pa_nil)))
      (pss_cons (ps_if (pt_cmpR op_in_seq (pv 3) (pe_lc (own := [("phase", 9), ("period", 8)]) (g := _) (tt := tYes) rfl sc_order_at.nd (pi_list (pv 2)) (blkOk_by (own := [("phase", 9), ("period", 8)]) (N := N_order_at) (sc := defScope s_order_at) (by decide +kernel)) (fun _ _ _ _ _ => (pg_tupK (K := K) (n := 2) rfl rfl (pgs_cons (pg_name (i := 9) sc_order_at.nd rfl (.inl rfl)) (pgs_cons (pg_name (i := 8) sc_order_at.nd rfl (.inl rfl)) pgs_nil)))) (fun _ _ _ _ _ => pts_nil) (fun _ _ _ _ _ => (pv 9))) (by rfl))
        (pss_one (ps_raise rfl (takes_of rfl rfl rfl rfl) (pmk_own PySem.F.excBase_ValueError X_NoTick.x X_NoTick.g X_NoTick.k (raises_own X_NoTick.b X_NoTick.t) rfl)))
        pss_nil)
      (pss_cons (ps_setLc (i := 4) (own := [("index", 6), ("timer", 7)]) (g := _)  rfl sc_order_at.nd rfl rfl (sw_true rfl rfl rfl (by decide +kernel)) (pi_enum (by rfl) T.b_enumerate (pa_cons (pv 2) pa_nil)) (blkOk_by (own := [("index", 6), ("timer", 7)]) (N := N_order_at) (sc := defScope s_order_at) (by decide +kernel)) (fun _ _ _ _ _ => (pg_tupK (K := K) (n := 2) rfl rfl (pgs_cons (pg_name (i := 6) sc_order_at.nd rfl (.inl rfl)) (pgs_cons (pg_name (i := 7) sc_order_at.nd rfl (.inl rfl)) pgs_nil)))) (fun _ _ _ _ _ => (pts_one (pt_val (pe_call G_fires_again (hr.mono (by decide)) (by rfl) m_fires_again k_fires_again b_fires_again v_fires_again pass0 (pa_cons (pv 7) (pa_cons (pv 3) pa_nil)))))) (fun _ _ _ _ _ => (pe_tup (pa_cons (pe_ix (ix_tupK (K := K) rfl) (pv 7) pe_int (fun _ _ => rfl)) (pa_cons (pv 6) pa_nil)))))
      (pss_cons (ps_setLc (i := 5) (own := [("period", 8), ("index", 6)]) (g := _) (tt := tYes) rfl sc_order_at.nd rfl rfl (sw_true rfl rfl rfl (by decide +kernel)) (pi_list (pe_callBK cr_sortedPR (by rfl) T.b_sorted (by decide +kernel) (pa_cons (pv 4) pa_nil) (pk_cons pe_bl pk_nil))) (blkOk_by (own := [("period", 8), ("index", 6)]) (N := N_order_at) (sc := defScope s_order_at) (by decide +kernel)) (fun _ _ _ _ _ => (pg_tupK (K := K) (n := 2) rfl rfl (pgs_cons (pg_name (i := 8) sc_order_at.nd rfl (.inl rfl)) (pgs_cons (pg_name (i := 6) sc_order_at.nd rfl (.inl rfl)) pgs_nil)))) (fun _ _ _ _ _ => pts_nil) (fun _ _ _ _ _ => (pe_tup (pa_cons (pv 6) (pa_cons (pe_op op_subN (pv 3) (pv 8)) pa_nil)))))
      (pss_one (ps_ret (pe_call G_firing_order (hr.mono (by decide)) (by rfl) m_firing_order k_firing_order b_firing_order v_firing_order pass0 (pa_cons (pv 0) (pa_cons (pv 1) (pa_cons (pv 3) (pa_cons (pv 5) pa_nil)))))))))))))), ?_⟩
    refine ⟨_, rfl, b, rfl, by omega, by omega, ?_⟩
    refine ⟨_, rfl, q, ws, rfl, hL, hne, h60, fun H1 s1 => ?_⟩
    have hP1 := hP.frame (H' := H1) fun t xs e => s1 _ _ e
    refine ⟨_, rfl, S, ss, prs, rfl, s1 _ _ hS, hP1, hpne, hp60, hpr1, hnd, fun H2 s2 => ?_⟩
    have s02 := s1.trans s2
    have hP2 := hP.frame (H' := H2) fun t xs e => s02 _ _ e
    have hS2 := s02 _ _ hS
    refine ⟨_, rfl, x, 0, rfl, by omega, ?_⟩
    -- no timer fires for the first time
    refine ⟨_, rfl, _, rfl, S, rfl, ⟨_, SqL.of hS2⟩, fun D hD => lc_list (K := K) (a := S) (xs := ss.map V.ref) (fun i H' => Same H2 H' ∧ H' D = some (.lst (((prs.take i).map (·.1)).map fun y => V.int (y : Nat)))) ⟨same_upd hD, upd_same⟩ (fun i H' _ ⟨sm, _⟩ => SqL.of (sm _ _ hS2)) ?_ ?_⟩
    · rintro i v H' hv ⟨sm, eD⟩
      obtain ⟨t, r, rfl, hr, ht⟩ := hP2.item hv
      refine ⟨t, _, rfl, .inl (.inl (sm _ _ ht)), rfl, _, _, rfl, _, _, rfl, rfl, rfl, yesT (iteT ?_)⟩
      refine ⟨_, rfl, _, eD, ?_, fun c o e => ?_, ?_⟩
      · rw [List.length_map, List.length_map, List.length_take]
        exact sizeLine_ge (by omega)
      · rw [upd_ne (ne_of_none e hD)]
        exact sm _ _ e
      · rw [upd_same, List.take_add_one, hr, Option.toList_some, List.map_append, List.map_append]
        rfl
    rintro H3 ⟨s3, eD⟩
    rw [List.length_map, hsl, List.take_length] at eD
    have s03 := s02.trans s3
    by_cases hin : x ∈ prs.map (·.1)
    · obtain ⟨r, hr, e⟩ := List.mem_map.mp hin
      refine ⟨D, _, rfl, .inl (SqL.of eD), rfl, flat_nats _, true, ?_, iteT (cx ⟨r, hr, e⟩ H3 s03)⟩
      show V.bl (inV (.int (x : Nat)) ((prs.map (·.1)).map fun y => V.int (y : Nat))) = V.bl true
      rw [inV_nat, decide_eq_true hin]
    have hpr : ∀ r ∈ prs, 1 ≤ r.2 ∧ r.1 ≠ x := fun r hr => ⟨hpr1 r hr, fun e => hin (List.mem_map.mpr ⟨r, hr, e⟩)⟩
    refine ⟨D, _, rfl, .inl (SqL.of eD), rfl, flat_nats _, false, ?_, iteF ?_⟩
    · show V.bl (inV (.int (x : Nat)) ((prs.map (·.1)).map fun y => V.int (y : Nat))) = V.bl false
      rw [inV_nat, decide_eq_false hin]
    -- who fires
    have hP3 := hP.frame (H' := H3) fun t xs e => s03 _ _ e
    have hS3 := s03 _ _ hS
    refine ⟨_, rfl, S, _, rfl, SqL.of hS3, fun D4 hD4 => lc_enum (K := K) (a := S) (xs := ss.map V.ref) (fun i H' => Same H3 H' ∧ ∃ rt : List Addr, H' D4 = some (.lst (rt.map V.ref)) ∧ PrAt H' rt (((prs.zipIdx.take i).filter fun z => firesB x z.1).map fun z => (z.1.2, z.2))) ⟨same_upd hD4, [], upd_same, trivial⟩ (fun i H' _ ⟨sm, _⟩ => SqL.of (sm _ _ hS3)) ?_ ?_⟩
    · rintro i v U H' hv ⟨sm, rt, eD4, hR⟩ hU
      obtain ⟨t, r, rfl, hr, ht⟩ := hP3.item hv
      have sU := same_upd (o := .tup [.int (i : Nat), .ref t]) hU
      have ht' := sU _ _ (sm _ _ ht)
      have hrp := (hpr r (List.mem_of_getElem? hr)).1
      refine ⟨U, _, rfl, .inl (.inl upd_same), rfl, _, _, rfl, _, _, rfl, rfl, rfl, ?_⟩
      refine ⟨_, rfl, _, rfl, t, r.1, r.2, x, rfl, ht', hrp, firesB x r, rfl, ?_⟩
      have hil : i < prs.length := (List.getElem?_eq_some_iff.mp hr).1
      by_cases cf : firesB x r = true
      · rw [cf]
        refine iteT ⟨.ref t, rfl, t, _, 1, _, rfl, rfl, .inl (.inl ht'), atI_nat (j := 1) rfl, _, rfl, by simp [sizeLine_eq], fun u hu => ?_⟩
        have su := same_upd (o := .tup [.int (r.2 : Nat), .int (i : Nat)]) hu
        have eD4' := su _ _ (sU _ _ eD4)
        refine ⟨_, eD4', ?_, fun c o e => ?_, rt ++ [u], ?_, ?_⟩
        · rw [List.length_map, hR.len, List.length_map]
          have z := List.length_filter_le (fun z : (Nat × Nat) × Nat => firesB x z.1) (prs.zipIdx.take i)
          rw [List.length_take, List.length_zipIdx] at z
          exact sizeLine_ge (by omega)
        · rw [upd_ne (ne_of_none e hD4)]
          exact su _ _ (sU _ _ (sm _ _ e))
        · rw [upd_same, List.map_append]
          rfl
        · rw [rowsF_step hr, if_pos cf]
          have hk : ∀ t' xs, H' t' = some (.tup xs) → (upd (upd (upd H' U (.tup [.int (i : Nat), .ref t])) u (.tup [.int (r.2 : Nat), .int (i : Nat)])) D4 (.lst (rt.map V.ref ++ [.ref u]))) t' = some (.tup xs) := fun t' xs e => by
            rw [upd_ne (ne_of (su _ _ (sU _ _ e)) eD4' (by intro z; cases z))]
            exact su _ _ (sU _ _ e)
          refine (hR.frame hk).app (r := (r.2, i)) ?_
          rw [upd_ne (ne_of upd_same eD4' (by intro z; cases z))]
          exact upd_same
      · have cf' : firesB x r = false := by
          cases e : firesB x r with
          | false => rfl
          | true => exact absurd e cf
        rw [cf']
        refine iteF ⟨fun c o e => sU _ _ (sm _ _ e), rt, sU _ _ eD4, ?_⟩
        rw [rowsF_step hr, if_neg cf, List.append_nil]
        exact hR.frame fun t' xs e => sU _ _ e
    rintro H4 ⟨s4, rt, eR, hR⟩
    have e4 : (prs.zipIdx.take (ss.map V.ref).length) = prs.zipIdx := by
      rw [List.length_map, hsl]
      exact List.take_of_length_le (by rw [List.length_zipIdx]; exact Nat.le_refl _)
    rw [e4] at hR
    have hR' : PrAt H4 rt (rowsF prs x) := hR
    clear hR
    -- the greatest period first
    have hk : ∀ v ∈ rt.map V.ref, ∃ t, v = V.ref t ∧ H4 t = some (.tup [.int (pairV H4 v).1, .int (pairV H4 v).2]) := fun v hv => by
      obtain ⟨i, hi⟩ := List.getElem?_of_mem hv
      obtain ⟨t, r, rfl, _, ht⟩ := hR'.item hi
      refine ⟨t, rfl, ?_⟩
      rw [pairV_of ht]
      exact ht
    refine ⟨_, rfl, D4, _, pairV H4, rfl, rfl, SqL.of eR, hk, fun ys py hsrt hperm hpy => ?_⟩
    have hrev : ys.reverse.Perm (rt.map V.ref) := (List.reverse_perm ys).trans hperm
    obtain ⟨zs, ezs⟩ : ∃ zs : List (Nat × Nat), zs = ys.reverse.map fun v => ((pairV H4 v).1.toNat, (pairV H4 v).2.toNat) := ⟨_, rfl⟩
    have hzperm : zs.Perm (rowsF prs x) := by
      rw [ezs]
      refine (hrev.map _).trans (List.Perm.of_eq ?_)
      have main : ∀ (rt : List Addr) (rs : List (Nat × Nat)), PrAt H4 rt rs → (rt.map V.ref).map (fun v => ((pairV H4 v).1.toNat, (pairV H4 v).2.toNat)) = rs := by
        intro rt
        induction rt with
        | nil =>
          intro rs h
          cases rs with
          | nil => rfl
          | cons _ _ => exact h.elim
        | cons t rt ih =>
          intro rs h
          cases rs with
          | nil => exact h.elim
          | cons r rs =>
            rw [List.map_cons, List.map_cons, ih rs h.2, pairV_of h.1]
            rfl
      exact main rt _ hR'
    have item : ∀ {i : Nat} {v : V}, ys.reverse[i]? = some v → ∃ t z, v = .ref t ∧ zs[i]? = some z ∧ H4 t = some (.tup [.int (z.1 : Nat), .int (z.2 : Nat)]) := fun {i v} hv => by
      obtain ⟨j, hj⟩ := List.getElem?_of_mem (hrev.mem_iff.mp (List.mem_of_getElem? hv))
      obtain ⟨t, r, rfl, _, ht⟩ := hR'.item hj
      refine ⟨t, r, rfl, ?_, ht⟩
      rw [ezs, List.getElem?_map, hv]
      show some ((pairV H4 (.ref t)).1.toNat, (pairV H4 (.ref t)).2.toNat) = some r
      rw [pairV_of ht]
      rfl
    have hznd : (zs.map (·.1)).Nodup := (hzperm.map _).nodup_iff.mpr (rowsF_nodup hnd)
    have hzs : zs.Pairwise fun a c => c.1 < a.1 := by
      have p1 : ys.reverse.Pairwise fun a c => SrtO.lexB (pairV H4 a) (pairV H4 c) = false := List.pairwise_reverse.mpr hsrt
      have p2 : zs.Pairwise fun a c => c.1 ≤ a.1 := by
        rw [ezs, List.pairwise_map]
        refine p1.imp_of_mem fun {a c} ha hc h => ?_
        obtain ⟨i, hi⟩ := List.getElem?_of_mem (hrev.mem_iff.mp ha)
        obtain ⟨j, hj⟩ := List.getElem?_of_mem (hrev.mem_iff.mp hc)
        obtain ⟨t, r, rfl, _, ht⟩ := hR'.item hi
        obtain ⟨t2, r2, rfl, _, ht2⟩ := hR'.item hj
        rw [pairV_of ht, pairV_of ht2] at h ⊢
        show r2.1 ≤ r.1
        refine Nat.le_of_not_lt fun l => ?_
        have z : SrtO.lexB (((r.1 : Nat) : Int), ((r.2 : Nat) : Int)) (((r2.1 : Nat) : Int), ((r2.2 : Nat) : Int)) = true := by
          unfold SrtO.lexB
          simp [l]
          omega
        rw [z] at h
        cases h
      have p3 : zs.Pairwise fun a c => a.1 ≠ c.1 := List.pairwise_map.mp hznd
      exact (p2.and p3).imp fun h => by omega
    have hzm : ∀ z ∈ zs, 1 ≤ z.1 ∧ z.1 ≤ x ∧ 0 < x := fun z hz => by
      obtain ⟨r, h1, h2, h3⟩ := rowsF_mem.mp (hzperm.mem_iff.mp hz)
      have h4 : r.1 < x ∧ (x - r.1) % r.2 = 0 := of_decide_eq_true h3
      have h5 := (hpr r (List.mem_of_getElem? h1)).1
      have h6 := per_le h5 h4.1 h4.2
      omega
    have sy := same_upd (o := .lst ys.reverse) hpy
    have epy := upd_same (H := H4) (a := py) (o := .lst ys.reverse)
    generalize upd H4 py (.lst ys.reverse) = H5 at sy epy ⊢
    refine ⟨py, rfl, ⟨_, SqL.of epy⟩, fun D6 hD6 => lc_list (K := K) (a := py) (xs := ys.reverse) (fun i H' => Same H5 H' ∧ ∃ st : List Addr, H' D6 = some (.lst (st.map V.ref)) ∧ PrAt H' st ((zs.take i).map fun z => (z.2, x - z.1))) ⟨same_upd hD6, [], upd_same, trivial⟩ (fun i H' _ ⟨sm, _⟩ => SqL.of (sm _ _ epy)) ?_ ?_⟩
    · rintro i v H' hv ⟨sm, st, eD6, hSt⟩
      obtain ⟨t, z, rfl, hz, ht⟩ := item hv
      have hz1 := hzm z (List.mem_of_getElem? hz)
      refine ⟨t, _, rfl, .inl (.inl (sm _ _ (sy _ _ ht))), rfl, _, _, rfl, _, _, rfl, rfl, rfl, yesT (iteT ?_)⟩
      refine ⟨_, rfl, _, rfl, _, rfl, x, z.1, rfl, rfl, hz1.2.1, by simp [sizeLine_eq], fun u hu => ?_⟩
      have su := same_upd (o := .tup [.int (z.2 : Nat), .int ((x - z.1 : Nat) : Int)]) hu
      have eD6' := su _ _ eD6
      have hzl : zs.length ≤ 60 := by
        rw [hzperm.length_eq]
        unfold rowsF
        rw [List.length_map]
        have z := List.length_filter_le (fun z : (Nat × Nat) × Nat => firesB x z.1) prs.zipIdx
        rw [List.length_zipIdx] at z
        omega
      refine ⟨_, eD6', ?_, fun c o e => ?_, st ++ [u], ?_, ?_⟩
      · rw [List.length_map, hSt.len, List.length_map, List.length_take]
        exact sizeLine_ge (by omega)
      · rw [upd_ne (ne_of_none e hD6)]
        exact su _ _ (sm _ _ e)
      · rw [upd_same, List.map_append]
        rfl
      · rw [List.take_add_one, hz, Option.toList_some, List.map_append]
        refine (hSt.frame fun t' xs e => ?_).app (r := (z.2, x - z.1)) ?_
        · rw [upd_ne (ne_of (su _ _ e) eD6' (by intro z; cases z))]
          exact su _ _ e
        · rw [upd_ne (ne_of upd_same eD6' (by intro z; cases z))]
          exact upd_same
    · rintro H6 ⟨s6, st, eD6, hSt⟩
      have hyl : ys.reverse.length = zs.length := by rw [ezs, List.length_map]
      rw [hyl, List.take_length] at hSt
      have s06 := (s03.trans s4).trans (sy.trans s6)
      have hzl : zs.length ≤ 60 := by
        rw [hzperm.length_eq]
        unfold rowsF
        rw [List.length_map]
        have z := List.length_filter_le (fun z : (Nat × Nat) × Nat => firesB x z.1) prs.zipIdx
        rw [List.length_zipIdx] at z
        omega
      refine ⟨_, rfl, _, rfl, _, rfl, _, rfl, b, x, q, D6, ws, st, zs.map (fun z => (z.2, x - z.1)), rfl, hb, hb64, s06.seq hL, hne, eD6, hSt, by rw [List.length_map]; omega, fun r hr => ?_, fun H7 p s7 hp ep => ?_⟩
      · obtain ⟨z, hz, rfl⟩ := List.mem_map.mp hr
        have y := hzm z hz
        exact ⟨(by show x - z.1 < x; omega), hx⟩
      · exact c (fun r hr => (hpr r hr).2) H7 p zs (s06.trans s7) (s06.free hp) hzperm hzs ep
end
/-! ### many periodic timers, told by rows -/
theorem per_many {t0 t x b : Nat} {ws : List Bool} {ms : List Tm} {prs zs : List (Nat × Nat)} (hnd : (prs.map (·.2)).Nodup) (hP1 : ∀ i, i < prs.length → 1 ≤ pOf prs i) (h : PInv (dOf prs) (pOf prs) prs.length t0 t ms) (hx : t < x) (hge : ∀ m ∈ ms, x ≤ m.due)
    (again : ∀ j ∈ orderAt b ws x ms, dOf prs j + pOf prs j ≤ x) (hz : zs.Perm (rowsF prs x)) (hzs : zs.Pairwise fun a c => c.1 < a.1) : orderAt b ws x ms = orderP b ws x (zs.map fun z => (z.2, x - z.1)) := by
  rw [order_P]
  obtain ⟨l, el⟩ : ∃ l, l = ms.filter fun m => decide (m.due = x) := ⟨_, rfl⟩
  have mem : ∀ m ∈ l, m ∈ ms ∧ m.due = x := fun m hm => by
    rw [el] at hm
    obtain ⟨z1, z2⟩ := List.mem_filter.mp hm
    exact ⟨z1, of_decide_eq_true z2⟩
  have ag : ∀ m ∈ l, dOf prs m.num + pOf prs m.num ≤ x := fun m hm => again _ (order_mem.mpr ⟨m, (mem m hm).1, (mem m hm).2, rfl⟩)
  have sn : ∀ m ∈ l, m.since = x - pOf prs m.num ∧ pOf prs m.num ≤ x := fun m hm => h.since hP1 (mem m hm).1 (mem m hm).2 (ag m hm)
  have lt : ∀ m ∈ l, m.num < prs.length := fun m hm => (h.per m (mem m hm).1).1
  have e1 : setsOf x ms = (l.map fun m => (pOf prs m.num, m.num)).map fun z => (z.2, x - z.1) := by
    unfold setsOf
    rw [← el, List.map_map]
    refine List.map_congr_left fun m hm => ?_
    show (m.num, m.since) = (m.num, x - pOf prs m.num)
    rw [(sn m hm).1]
  rw [e1]
  congr 2
  refine strict_uniq ?_ hzs fun z => ?_
  · rw [List.pairwise_map]
    have nd : l.Pairwise fun a c => a.num ≠ c.num := by
      rw [el]
      exact List.pairwise_map.mp (h.nd.sublist (List.Sublist.map _ List.filter_sublist))
    have srt : l.Pairwise fun a c => a.since ≤ c.since := by
      rw [el]
      exact h.srt.sublist List.filter_sublist
    refine (srt.and nd).imp_of_mem fun {a c} ha hc hh => ?_
    have h1 := sn a ha
    have h2 := sn c hc
    have h3 := hh.1
    rw [h1.1, h2.1] at h3
    have h4 : pOf prs c.num ≠ pOf prs a.num := fun e => hh.2 (per_uniq hnd (lt a ha) (lt c hc) e.symm)
    show pOf prs c.num < pOf prs a.num
    omega
  · rw [hz.mem_iff, rowsF_mem, List.mem_map]
    constructor
    · rintro ⟨m, hm, rfl⟩
      have hl := lt m hm
      have hg := List.getElem?_eq_getElem hl
      obtain ⟨_, _, _, _, hf, _⟩ := h.per m (mem m hm).1
      rw [(mem m hm).2] at hf
      have hp := hP1 _ hl
      have ha := ag m hm
      refine ⟨_, hg, (pOf_get hg).symm, ?_⟩
      have e1 := dOf_get hg
      have e2 := pOf_get hg
      refine decide_eq_true ⟨?_, ?_⟩
      · rw [← e1]
        omega
      · rw [← e1, ← e2]
        exact hf.2
    · rintro ⟨r, hg, e, hf⟩
      have hl := (List.getElem?_eq_some_iff.mp hg).1
      have hf' : r.1 < x ∧ (x - r.1) % r.2 = 0 := of_decide_eq_true hf
      obtain ⟨m, hm, em⟩ := h.all z.2 hl
      have hd : m.due = x := (h.due hP1 hx hge hm).mpr (by
        rw [em]
        refine ⟨?_, ?_⟩
        · rw [dOf_get hg]
          omega
        · rw [dOf_get hg, pOf_get hg]
          exact hf'.2)
      refine ⟨m, ?_, ?_⟩
      · rw [el]
        exact List.mem_filter.mpr ⟨hm, decide_eq_true hd⟩
      · rw [em, pOf_get hg, e]
theorem rows_none {prs : List (Nat × Nat)} {x : Nat} (h : ∀ i, i < prs.length → ¬ Fires (dOf prs) (pOf prs) i x) : rowsF prs x = [] := by
  refine List.eq_nil_iff_forall_not_mem.mpr fun z hz => ?_
  obtain ⟨r, hg, e, hf⟩ := rowsF_mem.mp hz
  have hf' : r.1 < x ∧ (x - r.1) % r.2 = 0 := of_decide_eq_true hf
  refine h z.2 (List.getElem?_eq_some_iff.mp hg).1 ⟨?_, ?_⟩
  · rw [dOf_get hg]
    omega
  · rw [dOf_get hg, pOf_get hg]
    exact hf'.2
/-! ### the law's drawing of numbers -/
def SrcAt (H : Hp) (p : Addr) : Prop := ∃ a b c : Int, H p = some (.lst [.int a, .int b, .int c])
/-- all but the source p stands as it was; p is a source again -/
structure Stp (p : Addr) (H H' : Hp) : Prop where
  keep : ∀ q o, q ≠ p → H q = some o → H' q = some o
  src : SrcAt H' p
theorem Stp.refl {p : Addr} {H : Hp} (h : SrcAt H p) : Stp p H H := ⟨fun _ _ _ e => e, h⟩
theorem Stp.trans {p : Addr} {H H1 H2 : Hp} (a : Stp p H H1) (b : Stp p H1 H2) : Stp p H H2 := ⟨fun q o n e => b.keep q o n (a.keep q o n e), b.src⟩
theorem Stp.same {p : Addr} {H H1 H2 : Hp} (a : Stp p H H1) (b : Same H1 H2) : Stp p H H2 := by
  obtain ⟨x, y, z, e⟩ := a.src
  exact ⟨fun q o n e => b q o (a.keep q o n e), ⟨x, y, z, b _ _ e⟩⟩
theorem SrcAt.same {p : Addr} {H H' : Hp} (h : SrcAt H p) (s : Same H H') : SrcAt H' p := by
  obtain ⟨a, b, c, e⟩ := h
  exact ⟨a, b, c, s _ _ e⟩
theorem Stp.free {p q : Addr} {H H' : Hp} (a : Stp p H H') (hq : H' q = none) : H q = none := by
  cases e : H q with
  | none => rfl
  | some o =>
    by_cases z : q = p
    · obtain ⟨x, y, u, w⟩ := a.src
      rw [z, w] at hq
      cases hq
    · rw [a.keep q o z e] at hq
      cases hq
theorem SrcAt.ne {H : Hp} {p l : Addr} (h : SrcAt H p) (hl : H l = none) : l ≠ p := fun e => by
  obtain ⟨x, y, z, w⟩ := h
  rw [e, w] at hl
  cases hl
theorem SrcAt.stp_same {p : Addr} {H H' : Hp} (h : SrcAt H p) (s : Same H H') : Stp p H H' := (Stp.refl h).same s
theorem Stp.seqL {K : PySem.W.Frag} {p a : Addr} {xs : List V} {H H' : Hp} (s : Stp p H H') (n : a ≠ p) (h : SqL K H a xs) : SqL K H' a xs := by
  rcases h with (h | ⟨o, h⟩) | h
  · exact .inl (.inl (s.keep _ _ n h))
  · exact .inl (.inr ⟨o, s.keep _ _ n h⟩)
  · exact .inr h
section
variable {P : Program} {w : World} {K : PySem.W.Frag} {mg : Str → Option Value} {base : Heap}
def spCellAt (K : PySem.W.Frag) : Sp := fun vs H Q _ => ∃ (a : Addr) (ns : List Int) (k : Nat), vs = [.ref a, .int (k : Nat)] ∧ SqL K H a (ns.map V.int) ∧ ∀ v : Int, Q (.int v) H
theorem ok_cell_at {f : Addr} {fd : FuncData} (F : Fun K "_law_cell_at" "_law_cell_at" s__law_cell_at f fd) (T : Tx K mg) : FnOk P w K mg base CX0 1 f fd ["_law_script", "_law_k"] (spCellAt K) := by
  refine F.ok sc__law_cell_at (fun vs H Q E h => ?_) (fun cdv A outer s H vs Q E hr h => ?_)
  · obtain ⟨a, ns, k, rfl, _⟩ := h
    rfl
  · obtain ⟨a, ns, k, rfl, hS, q⟩ := h
    refine ⟨_, (pss_cons (ps_if (pt_cmpR op_lt (pv 1) (pe_callB (lenK (K := K) rfl) (by rfl) T.b_len PySem.boot_len (pa_cons (pv 0) pa_nil)) (nomark _))
        (pss_one (ps_ret (pe_ix (ix_listK (K := K) rfl) (pv 0) (pv 1) (fun _ _ => rfl))))
        pss_nil)
      (pss_one (ps_ret pe_int))), ?_⟩
    refine ⟨_, rfl, .ref a, rfl, a, ns.map V.int, rfl, .inl hS, _, _, rfl, rfl, _, rfl, ite2 (fun e => ?_) (fun e => ?_)⟩
    · have hk : k < ns.length := by
        have z := of_decide_eq_true e
        rw [List.length_map] at z
        omega
      have g : (ns.map V.int)[k]? = some (.int ns[k]) := by
        rw [List.getElem?_map, List.getElem?_eq_getElem hk]
        rfl
      exact ⟨.ref a, rfl, _, rfl, a, _, _, _, rfl, rfl, hS, atI_nat g, q _⟩
    · exact q 0
def spMixed : Sp := fun vs H Q _ => ∃ c k : Int, vs = [.int c, .int k] ∧ ∀ r : Int, 0 ≤ r → r < 2147483563 → Q (.int r) H
theorem ok_mixed {f : Addr} {fd : FuncData} (F : Fun K "_law_mixed" "_law_mixed" s__law_mixed f fd) : FnOk P w K mg base CX0 1 f fd ["_law_cell", "_law_k"] spMixed := by
  refine F.ok sc__law_mixed (fun vs H Q E h => ?_) (fun cdv A outer s H vs Q E hr h => ?_)
  · obtain ⟨c, k, rfl, _⟩ := h
    rfl
  · obtain ⟨c, k, rfl, q⟩ := h
    refine ⟨_, (pss_cons (ps_set (i := 2) sc__law_mixed.nd rfl (.inl rfl) (pe_op op_add (pe_op op_mod (pv 0) pe_int) (pe_op op_mulA (pe_op op_fdivW (pv 0) pe_int) pe_int)))
      (pss_cons (ps_set (i := 2) sc__law_mixed.nd rfl (.inl rfl) (pe_op op_mod (pe_op op_mulA (pe_op op_add (pe_op op_add (pv 2) (pe_op op_mulA pe_int (pv 1))) pe_int) pe_int) pe_int))
      (pss_cons (ps_set (i := 2) sc__law_mixed.nd rfl (.inl rfl) (pe_op op_mod (pe_op op_mulA (pv 2) (pe_op op_add (pe_op op_add (pe_op op_fdivW (pv 2) pe_int) pe_int) (pv 1))) pe_int))
      (pss_one (ps_ret (pe_op op_mod (pe_op op_mulA (pv 2) (pe_op op_add (pe_op op_fdivW (pv 2) pe_int) pe_int)) pe_int)))))), ?_⟩
    refine ⟨_, rfl, c, 2147483629, rfl, rfl, (by decide : (0 : Int) < 2147483629), _, rfl, c, 2147483629, rfl, rfl, div_s (by decide) (by decide), _, 30011, rfl, rfl, mul_r (by decide) (by decide), _, _, rfl, rfl, ?_⟩
    refine ⟨_, rfl, _, rfl, 69621, k, rfl, rfl, mul_l (by decide) (by decide), _, _, rfl, rfl, _, 1, rfl, rfl, _, 48271, rfl, rfl, mul_r (by decide) (by decide), _, 2147483629, rfl, rfl, (by decide : (0 : Int) < 2147483629), ?_⟩
    generalize hl : (c % 2147483629 + c / 2147483629 * 30011 + 69621 * k + 1) * 48271 = l0
    have b1 : 0 ≤ l0 % 2147483629 := Int.emod_nonneg _ (by decide)
    have b2 : l0 % 2147483629 < 2147483629 := Int.emod_lt_of_pos _ (by decide)
    refine ⟨_, rfl, _, rfl, l0 % 2147483629, 907, rfl, rfl, div_s (by decide) (by decide), _, 16831, rfl, rfl, _, rfl, _, k, rfl, rfl, l0 % 2147483629, _, rfl, rfl, mul_l (by omega) (by omega), _, 2147483587, rfl, rfl, (by decide : (0 : Int) < 2147483587), ?_⟩
    generalize (l0 % 2147483629) * (l0 % 2147483629 / 907 + 16831 + k) = l1
    have b3 : 0 ≤ l1 % 2147483587 := Int.emod_nonneg _ (by decide)
    have b4 : l1 % 2147483587 < 2147483587 := Int.emod_lt_of_pos _ (by decide)
    refine ⟨_, rfl, _, rfl, _, 1201, rfl, rfl, div_s (by decide) (by decide), _, 30011, rfl, rfl, _, _, rfl, rfl, mul_l (i := l1 % 2147483587) (by omega) (by omega), _, 2147483563, rfl, rfl, (by decide : (0 : Int) < 2147483563), ?_⟩
    exact q _ (Int.emod_nonneg _ (by decide)) (Int.emod_lt_of_pos _ (by decide))
def spSource (K : PySem.W.Frag) : Sp := fun vs H Q _ => ∃ (a : Addr) (ns : List Int) (k : Nat), vs = [.ref a, .int (k : Nat)] ∧ SqL K H a (ns.map V.int) ∧ ∀ H' p, Same H H' → H p = none → SrcAt H' p → Q (.ref p) H'
theorem ok_source {f : Addr} {fd : FuncData} (F : Fun K "_law_source" "_law_source" s__law_source f fd) (T : Tx K mg) (h1 : Has P w K mg base 1 "_law_cell_at" ["_law_script", "_law_k"] [] (spCellAt K))
    (h2 : Has P w K mg base 1 "_law_mixed" ["_law_cell", "_law_k"] [] spMixed) : FnOk P w K mg base CX0 2 f fd ["_law_script", "_law_k"] (spSource K) := by
  obtain ⟨f__law_cell_at, fd__law_cell_at, ds__law_cell_at, G__law_cell_at, m__law_cell_at, k__law_cell_at, b__law_cell_at, v__law_cell_at⟩ := h1
  obtain ⟨f__law_mixed, fd__law_mixed, ds__law_mixed, G__law_mixed, m__law_mixed, k__law_mixed, b__law_mixed, v__law_mixed⟩ := h2
  refine F.ok sc__law_source (fun vs H Q E h => ?_) (fun cdv A outer s H vs Q E hr h => ?_)
  · obtain ⟨a, ns, k, rfl, _⟩ := h
    rfl
  · obtain ⟨a, ns, k, rfl, hS, q⟩ := h
    refine ⟨_, (pss_cons (ps_if (pt_cmpR op_lt (pv 1) (pe_callB (lenK (K := K) rfl) (by rfl) T.b_len PySem.boot_len (pa_cons (pv 0) pa_nil)) (nomark _))
        (pss_one (ps_ret (pe_lst (pa_cons (pe_ix (ix_listK (K := K) rfl) (pv 0) (pv 1) (fun _ _ => rfl)) (pa_cons (pe_ix (ix_listK (K := K) rfl) (pv 0) (pv 1) (fun _ _ => rfl)) (pa_cons pe_int pa_nil))))))
        pss_nil)
      (pss_cons (ps_set (i := 2) sc__law_source.nd rfl (.inl rfl) (pe_call G__law_mixed hr (by rfl) m__law_mixed k__law_mixed b__law_mixed v__law_mixed pass0 (pa_cons (pe_call G__law_cell_at hr (by rfl) m__law_cell_at k__law_cell_at b__law_cell_at v__law_cell_at pass0 (pa_cons (pv 0) (pa_cons pe_int pa_nil))) (pa_cons (pe_op op_add pe_int (pv 1)) pa_nil))))
      (pss_one (ps_ret (pe_lst (pa_cons (pv 2) (pa_cons (pv 2) (pa_cons pe_int pa_nil)))))))), ?_⟩
    refine ⟨_, rfl, .ref a, rfl, a, ns.map V.int, rfl, .inl hS, _, _, rfl, rfl, _, rfl, ite2 (fun e => ?_) (fun e => ?_)⟩
    · have hk : k < ns.length := by
        have z := of_decide_eq_true e
        rw [List.length_map] at z
        omega
      have g : (ns.map V.int)[k]? = some (.int ns[k]) := by
        rw [List.getElem?_map, List.getElem?_eq_getElem hk]
        rfl
      refine ⟨.ref a, rfl, _, rfl, a, _, _, _, rfl, rfl, hS, atI_nat g, .ref a, rfl, _, rfl, a, _, _, _, rfl, rfl, hS, atI_nat g, by simp [sizeLine_eq], fun p hp => ?_⟩
      exact q _ p (same_upd hp) hp ⟨_, _, _, upd_same⟩
    · refine ⟨.ref a, rfl, a, ns, 0, rfl, hS, fun v => ⟨_, rfl, 1000, _, rfl, rfl, v, _, rfl, fun r _ _ => ?_⟩⟩
      refine ⟨_, rfl, _, rfl, by simp [sizeLine_eq], fun p hp => ?_⟩
      exact q _ p (same_upd hp) hp ⟨_, _, _, upd_same⟩
def spNext : Sp := fun vs H Q _ => ∃ (p : Addr) (m : Int), vs = [.ref p, .int m] ∧ 0 < m ∧ m < 2 ^ 300 ∧ SrcAt H p ∧ ∀ (r : Nat) H', (r : Int) < m → Stp p H H' → Q (.int (r : Nat)) H'
theorem ok_next {f : Addr} {fd : FuncData} (F : Fun K "_law_next" "_law_next" s__law_next f fd) (h2 : Has P w K mg base 1 "_law_mixed" ["_law_cell", "_law_k"] [] spMixed) : FnOk P w K mg base CX0 2 f fd ["_law_source_here", "_law_many"] spNext := by
  obtain ⟨f__law_mixed, fd__law_mixed, ds__law_mixed, G__law_mixed, m__law_mixed, k__law_mixed, b__law_mixed, v__law_mixed⟩ := h2
  refine F.ok sc__law_next (fun vs H Q E h => ?_) (fun cdv A outer s H vs Q E hr h => ?_)
  · obtain ⟨p, m, rfl, _⟩ := h
    rfl
  · obtain ⟨p, m, rfl, hm, hm2, ⟨a, b, c, hp⟩, q⟩ := h
    have fin : ∀ (x : Int) (H' : Hp), Stp p H H' → Q (.int (x % m)) H' := fun x H' s => by
      have h0 : 0 ≤ x % m := Int.emod_nonneg _ (by omega)
      have h1 : x % m < m := Int.emod_lt_of_pos _ hm
      have e : ((x % m).toNat : Int) = x % m := Int.toNat_of_nonneg h0
      have z := q (x % m).toNat H' (by omega) s
      rw [e] at z
      exact z
    have st : ∀ x y z : Int, Stp p H (upd H p (.lst [.int x, .int y, .int z])) := fun x y z => ⟨fun q o n e => by rw [upd_ne n]; exact e, ⟨x, y, z, upd_same⟩⟩
    refine ⟨_, (pss_cons (ps_if (pt_cmpR op_ge (pe_ix (ix_listK (K := K) rfl) (pv 0) pe_int (fun _ _ => rfl)) (pe_op op_pow pe_int pe_int) (nomark _))
        (pss_cons (ps_set (i := 2) sc__law_next.nd rfl (.inl rfl) (pe_op op_mod (pe_ix (ix_listK (K := K) rfl) (pv 0) pe_int (fun _ _ => rfl)) (pv 1)))
        (pss_cons (ps_asg (pe_op op_fdivW (pe_ix (ix_listK (K := K) rfl) (pv 0) pe_int (fun _ _ => rfl)) (pv 1)) (pg_sub (pv 0) pe_int set_list))
        (pss_one (ps_ret (pv 2)))))
        pss_nil)
      (pss_cons (ps_asg (pe_op op_add (pe_ix (ix_listK (K := K) rfl) (pv 0) pe_int (fun _ _ => rfl)) pe_int) (pg_sub (pv 0) pe_int set_list))
      (pss_one (ps_ret (pe_op op_mod (pe_call G__law_mixed hr (by rfl) m__law_mixed k__law_mixed b__law_mixed v__law_mixed pass0 (pa_cons (pe_ix (ix_listK (K := K) rfl) (pv 0) pe_int (fun _ _ => rfl)) (pa_cons (pe_ix (ix_listK (K := K) rfl) (pv 0) pe_int (fun _ _ => rfl)) pa_nil))) (pv 1)))))), ?_⟩
    refine ⟨.ref p, rfl, p, _, 0, .int a, rfl, rfl, SqL.of hp, atI_nat (j := 0) rfl, 10, 18, rfl, rfl, ⟨by decide, by decide, by decide⟩, a, _, rfl, rfl, _, rfl, ite2 (fun _ => ?_) (fun _ => ?_)⟩
    · refine ⟨.ref p, rfl, p, _, 0, .int a, rfl, rfl, SqL.of hp, atI_nat (j := 0) rfl, .int m, rfl, a, m, rfl, rfl, hm, ?_⟩
      refine ⟨.ref p, rfl, p, _, 0, .int a, rfl, rfl, SqL.of hp, atI_nat (j := 0) rfl, .int m, rfl, a, m, rfl, rfl, div_s hm hm2, ?_⟩
      refine ⟨.ref p, rfl, p, _, 0, 0, rfl, rfl, hp, rfl, ?_⟩
      exact ⟨_, rfl, fin a _ (st _ _ _)⟩
    · refine ⟨.ref p, rfl, p, _, 2, .int c, rfl, rfl, SqL.of hp, atI_nat (j := 2) rfl, c, 1, rfl, rfl, ?_⟩
      refine ⟨.ref p, rfl, p, _, 2, 2, rfl, rfl, hp, rfl, ?_⟩
      have h2 : (upd H p (.lst [.int a, .int b, .int (c + 1)])) p = some (.lst [.int a, .int b, .int (c + 1)]) := upd_same
      refine ⟨.ref p, rfl, p, _, 1, .int b, rfl, rfl, SqL.of h2, atI_nat (j := 1) rfl, .ref p, rfl, p, _, 2, .int (c + 1), rfl, rfl, SqL.of h2, atI_nat (j := 2) rfl, b, c + 1, rfl, fun r _ _ => ?_⟩
      exact ⟨.int m, rfl, r, m, rfl, rfl, hm, fin r _ (st _ _ _)⟩
end
/-! ### the law's bases -/
section
variable {P : Program} {w : World} {K : PySem.W.Frag} {mg : Str → Option Value} {base : Heap}
def spBase : Sp := fun vs H Q _ => ∃ (p : Addr), vs = [.ref p] ∧ SrcAt H p ∧ ∀ (b : Nat) H', 2 ≤ b → b ≤ 64 → Stp p H H' → Q (.int (b : Nat)) H'
theorem ok_base {f : Addr} {fd : FuncData} (F : Fun K "_law_base" "_law_base" s__law_base f fd) (h1 : Has P w K mg base 2 "_law_next" ["_law_source_here", "_law_many"] [] spNext) : FnOk P w K mg base CX0 3 f fd ["_law_source_here"] spBase := by
  obtain ⟨f__law_next, fd__law_next, ds__law_next, G__law_next, m__law_next, k__law_next, b__law_next, v__law_next⟩ := h1
  refine F.ok sc__law_base (fun vs H Q E h => ?_) (fun cdv A outer s H vs Q E hr h => ?_)
  · obtain ⟨p, rfl, _⟩ := h
    rfl
  · obtain ⟨p, rfl, hs, q⟩ := h
    refine ⟨_, (pss_one (ps_ret (pe_ix (ix_listK (K := K) rfl) (pe_lst (pa_cons pe_int (pa_cons pe_int (pa_cons pe_int (pa_cons pe_int (pa_cons pe_int (pa_cons pe_int (pa_cons pe_int (pa_cons pe_int (pa_cons pe_int pa_nil)))))))))) (pe_call G__law_next hr (by rfl) m__law_next k__law_next b__law_next v__law_next pass0 (pa_cons (pv 0) (pa_cons pe_int pa_nil))) (fun _ _ => rfl)))), ?_⟩
    refine ⟨by simp [sizeLine_eq], fun l hl => ?_⟩
    have s1 := same_upd (o := .lst [.int 2, .int 3, .int 4, .int 5, .int 7, .int 10, .int 16, .int 63, .int 64]) hl
    have nlp : l ≠ p := fun e => by
      obtain ⟨x, y, z, h⟩ := hs
      rw [e, h] at hl
      cases hl
    refine ⟨_, rfl, p, 9, rfl, by decide, by decide, hs.same s1, fun r H' hr9 st => ?_⟩
    have eL := st.keep _ _ nlp upd_same
    have hst : Stp p H H' := (hs.stp_same s1).trans st
    have hr : r < 9 := by omega
    have all : ∀ j : Nat, j < 9 → ∃ b : Nat, ([.int 2, .int 3, .int 4, .int 5, .int 7, .int 10, .int 16, .int 63, .int 64] : List V)[j]? = some (.int (b : Nat)) ∧ 2 ≤ b ∧ b ≤ 64 := by
      intro j hj
      match j, hj with
      | 0, _ => exact ⟨2, rfl, by decide, by decide⟩
      | 1, _ => exact ⟨3, rfl, by decide, by decide⟩
      | 2, _ => exact ⟨4, rfl, by decide, by decide⟩
      | 3, _ => exact ⟨5, rfl, by decide, by decide⟩
      | 4, _ => exact ⟨7, rfl, by decide, by decide⟩
      | 5, _ => exact ⟨10, rfl, by decide, by decide⟩
      | 6, _ => exact ⟨16, rfl, by decide, by decide⟩
      | 7, _ => exact ⟨63, rfl, by decide, by decide⟩
      | 8, _ => exact ⟨64, rfl, by decide, by decide⟩
      | j + 9, h => omega
    obtain ⟨b, eb, b2, b64⟩ := all r hr
    exact ⟨l, _, r, .int (b : Nat), rfl, rfl, SqL.of eL, atI_nat eb, q b H' b2 b64 hst⟩
end
/-! ### the law's ticks -/
theorem emod_le_self {a m : Int} (h : 0 ≤ a) (hm : 0 < m) : a % m ≤ a := by
  have e := Int.emod_add_mul_ediv a m
  have z : 0 ≤ m * (a / m) := Int.mul_nonneg (Int.le_of_lt hm) (Int.ediv_nonneg h (Int.le_of_lt hm))
  omega
theorem pow64_le {b j : Nat} (h : b ≤ 64) (hj : j ≤ 30) : b ^ j < 2 ^ 181 := by
  have h1 : b ^ j ≤ 64 ^ j := Nat.pow_le_pow_left h j
  have h2 : (64 : Nat) ^ j ≤ 64 ^ 30 := Nat.pow_le_pow_right (by decide) hj
  have h3 : (64 : Nat) ^ 30 < 2 ^ 181 := by decide
  omega
section
variable {P : Program} {w : World} {K : PySem.W.Frag} {mg : Str → Option Value} {base : Heap}
/-- a pick of a list of two, by a number less than 2 -/
theorem pick2 {x y : V} {r : Nat} (h : r < 2) : ([x, y] : List V)[r]? = some (if r = 0 then x else y) := by
  match r, h with
  | 0, _ => rfl
  | 1, _ => rfl
  | r + 2, h => omega
def spTick : Sp := fun vs H Q _ => ∃ (p : Addr) (b : Nat), vs = [.ref p, .int (b : Nat)] ∧ 2 ≤ b ∧ b ≤ 64 ∧ SrcAt H p ∧ ∀ (t : Nat) H', t < 2 ^ 190 → Stp p H H' → Q (.int (t : Nat)) H'
theorem ok_tick {f : Addr} {fd : FuncData} (F : Fun K "_law_tick" "_law_tick" s__law_tick f fd) (T : Tx K mg) (h1 : Has P w K mg base 2 "_law_next" ["_law_source_here", "_law_many"] [] spNext) : FnOk P w K mg base CX0 3 f fd ["_law_source_here", "_law_base_here"] spTick := by
  obtain ⟨f__law_next, fd__law_next, ds__law_next, G__law_next, m__law_next, k__law_next, b__law_next, v__law_next⟩ := h1
  refine F.ok sc__law_tick (fun vs H Q E h => ?_) (fun cdv A outer s H vs Q E hr h => ?_)
  · obtain ⟨p, b, rfl, _⟩ := h
    rfl
  · obtain ⟨p, b, rfl, hb2, hb64, hs, q⟩ := h
    have two : ∀ {H : Hp} {l : Addr} {o : HO}, SrcAt H p → H l = none → Stp p H (upd H l o) ∧ l ≠ p := fun {H l o} hs hl =>
      ⟨hs.stp_same (same_upd hl), fun e => by
        obtain ⟨x, y, z, h⟩ := hs
        rw [e, h] at hl
        cases hl⟩
    refine ⟨_, (pss_cons (ps_set (i := 2) sc__law_tick.nd rfl (.inl rfl) (pe_call G__law_next hr (by rfl) m__law_next k__law_next b__law_next v__law_next pass0 (pa_cons (pv 0) (pa_cons pe_int pa_nil))))
      (pss_cons (ps_if (pt_cmpR op_lt (pv 2) pe_int (nomark _))
        (pss_one (ps_ret (pe_call G__law_next hr (by rfl) m__law_next k__law_next b__law_next v__law_next pass0 (pa_cons (pv 0) (pa_cons (pe_ix (ix_listK (K := K) rfl) (pe_lst (pa_cons pe_int (pa_cons pe_int pa_nil))) (pv 2) (fun _ _ => rfl)) pa_nil)))))
        pss_nil)
      (pss_cons (ps_set (i := 3) sc__law_tick.nd rfl (.inl rfl) pe_int)
      (pss_cons (ps_for PassesOwn.never rfl (pi_range1 (by rfl) T.b_range (pa_cons (pe_call G__law_next hr (by rfl) m__law_next k__law_next b__law_next v__law_next pass0 (pa_cons (pv 0) (pa_cons (pe_ix (ix_listK (K := K) rfl) (pe_lst (pa_cons pe_int (pa_cons pe_int pa_nil))) (pe_call G__law_next hr (by rfl) m__law_next k__law_next b__law_next v__law_next pass0 (pa_cons (pv 0) (pa_cons pe_int pa_nil))) (fun _ _ => rfl)) pa_nil))) pa_nil)) (pg_name (i := 4) sc__law_tick.nd rfl (.inl rfl))
        (pss_one (ps_set (i := 3) sc__law_tick.nd rfl (.inl rfl) (pe_op op_mulA (pv 3) (pv 1)))))
      (pss_cons (ps_set (i := 3) sc__law_tick.nd rfl (.inl rfl) (pe_op op_mod (pv 3) (pe_op op_pow pe_int pe_int)))
      (pss_cons (ps_if (pt_cmpR op_eq (pv 2) pe_int (nomark _))
        (pss_one (ps_ret (pe_callB (call_max2 rfl) (by rfl) T.b_max (by decide +kernel) (pa_cons pe_int (pa_cons (pe_op op_sub (pe_op op_add (pv 3) (pe_call G__law_next hr (by rfl) m__law_next k__law_next b__law_next v__law_next pass0 (pa_cons (pv 0) (pa_cons pe_int pa_nil)))) pe_int) pa_nil)))))
        pss_nil)
      (pss_cons (ps_if (pt_cmpR op_eq (pv 2) pe_int (nomark _))
        (pss_one (ps_ret (pe_op op_add (pe_op op_mulA (pv 3) (pe_op op_add pe_int (pe_call G__law_next hr (by rfl) m__law_next k__law_next b__law_next v__law_next pass0 (pa_cons (pv 0) (pa_cons (pv 1) pa_nil))))) (pe_call G__law_next hr (by rfl) m__law_next k__law_next b__law_next v__law_next pass0 (pa_cons (pv 0) (pa_cons (pv 1) pa_nil))))))
        pss_nil)
      (pss_one (ps_ret (pe_op op_add (pe_op op_mulA (pe_call G__law_next hr (by rfl) m__law_next k__law_next b__law_next v__law_next pass0 (pa_cons (pv 0) (pa_cons (pe_op op_pow pe_int pe_int) pa_nil))) (pe_op op_pow pe_int pe_int)) (pe_call G__law_next hr (by rfl) m__law_next k__law_next b__law_next v__law_next pass0 (pa_cons (pv 0) (pa_cons (pe_op op_pow pe_int pe_int) pa_nil))))))))))))), ?_⟩
    -- sort = next(source, 5)
    refine ⟨_, rfl, p, 5, rfl, by decide, by decide, hs, fun r0 H1 hr0 s1 => ?_⟩
    refine ⟨_, rfl, _, 2, rfl, rfl, _, rfl, ite2 (fun e => ?_) (fun e0 => ?_)⟩
    · -- near ones
      have hr2 : r0 < 2 := by
        have z := of_decide_eq_true e
        omega
      refine ⟨_, rfl, by simp [sizeLine_eq], fun l hl => ?_⟩
      obtain ⟨s2, nl⟩ := two (o := .lst [.int 6, .int 400]) s1.src hl
      refine ⟨_, rfl, l, _, r0, _, rfl, rfl, SqL.of upd_same, atI_nat (pick2 hr2), p, if r0 = 0 then 6 else 400, ?_, ?_, ?_, s2.src, fun r H2 hr s3 => ?_⟩
      · show [V.ref p, if r0 = 0 then V.int 6 else V.int 400] = _
        split <;> rfl
      · split <;> decide
      · split <;> decide
      · refine q r H2 ?_ ((s1.trans s2).trans s3)
        have z : r < 400 := by
          split at hr <;> omega
        exact Nat.lt_trans z (by decide)
    · -- size = 1; for at in range(next(..)): size = size * base
      refine ⟨_, rfl, by simp [sizeLine_eq], fun l hl => ?_⟩
      obtain ⟨s2, nl⟩ := two (o := .lst [.int 4, .int 30]) s1.src hl
      refine ⟨_, rfl, p, 2, rfl, by decide, by decide, s2.src, fun r1 H2 hr1 s3 => ?_⟩
      have eL : H2 l = some (.lst [.int 4, .int 30]) := s3.keep _ _ nl upd_same
      refine ⟨l, _, r1, _, rfl, rfl, SqL.of eL, atI_nat (pick2 (by omega)), p, if r1 = 0 then 4 else 30, ?_, ?_, ?_, s3.src, fun r2 H3 hr2 s4 => ?_⟩
      · show [V.ref p, if r1 = 0 then V.int 4 else V.int 30] = _
        split <;> rfl
      · split <;> decide
      · split <;> decide
      have hr30 : r2 < 30 := by
        split at hr2 <;> omega
      have s14 := ((s1.trans s2).trans s3).trans s4
      refine ⟨_, rfl, by omega, by omega, for_range (Pv := fun i σ H' => H' = H3 ∧ ∃ y, σ = [some (.ref p), some (.int (b : Nat)), some (.int (r0 : Nat)), some (.int ((b ^ i : Nat) : Int)), y]) ⟨rfl, none, rfl⟩ ?_ ?_⟩
      · rintro i σ H' hi ⟨rfl, y, rfl⟩
        have hi30 : i < 30 := by omega
        have hb : b ^ i < 2 ^ 181 := pow64_le hb64 (by omega)
        refine ⟨_, rfl, _, rfl, _, _, rfl, rfl, mul_r (by omega) (by omega), ?_⟩
        refine ⟨rfl, some (.int (0 + (i : Int))), ?_⟩
        rw [Nat.pow_succ, Int.natCast_mul]
        rfl
      · rintro σ H' ⟨rfl, y, rfl⟩
        have h58 : (0 : Int) < (10 : Int) ^ (58 : Int).toNat := by decide
        refine ⟨_, rfl, 10, 58, rfl, rfl, ⟨by decide, by decide, by decide⟩, _, _, rfl, rfl, h58, ?_⟩
        generalize hz : (((b ^ ((r2 : Nat) : Int).toNat : Nat) : Int) % (10 : Int) ^ (58 : Int).toNat) = z
        have z0 : 0 ≤ z := by
          rw [← hz]
          exact Int.emod_nonneg _ (by decide)
        have z1 : z < 2 ^ 181 := by
          rw [← hz]
          refine Int.lt_of_le_of_lt (emod_le_self (by omega) (by decide)) ?_
          have := pow64_le (j := ((r2 : Nat) : Int).toNat) hb64 (by omega)
          omega
        -- sort == 2
        refine ⟨_, rfl, rfl, _, rfl, ite2 (fun _ => ?_) (fun _ => ?_)⟩
        · refine ⟨_, rfl, _, rfl, p, 3, rfl, by decide, by decide, s14.src, fun r3 H4 hr3 s5 => ?_⟩
          refine ⟨z, r3, congrArg V.int hz, rfl, _, 1, rfl, rfl, 0, _, rfl, ?_⟩
          have e3 : (if z + (r3 : Int) - 1 > 0 then z + (r3 : Int) - 1 else 0) = (((if z + (r3 : Int) - 1 > 0 then z + (r3 : Int) - 1 else 0).toNat : Nat) : Int) := by
            split <;> omega
          show Q (.int (if z + (r3 : Int) - 1 > 0 then z + (r3 : Int) - 1 else 0)) H4
          rw [e3]
          refine q _ H4 ?_ (s14.trans s5)
          split <;> omega
        · refine ⟨_, rfl, rfl, _, rfl, ite2 (fun _ => ?_) (fun _ => ?_)⟩
          · refine ⟨_, rfl, _, rfl, _, rfl, p, b, rfl, by omega, by omega, s14.src, fun r3 H4 hr3 s5 => ?_⟩
            refine ⟨1, r3, rfl, rfl, z, _, congrArg V.int hz, rfl, mul_r (by omega) (by omega), _, rfl, _, rfl, p, b, rfl, by omega, by omega, s5.src, fun r4 H5 hr4 s6 => ?_⟩
            refine ⟨_, _, rfl, rfl, ?_⟩
            have zr : z * (1 + (r3 : Int)) ≤ z * 65 := Int.mul_le_mul_of_nonneg_left (by omega) z0
            have zr0 : 0 ≤ z * (1 + (r3 : Int)) := Int.mul_nonneg z0 (by omega)
            have e3 : z * (1 + (r3 : Int)) + (r4 : Int) = (((z * (1 + (r3 : Int)) + (r4 : Int)).toNat : Nat) : Int) := by omega
            show Q (.int (z * (1 + (r3 : Int)) + (r4 : Int))) H5
            rw [e3]
            exact q _ H5 (by omega) ((s14.trans s5).trans s6)
          · refine ⟨_, rfl, 10, 9, rfl, rfl, ⟨by decide, by decide, by decide⟩, p, _, rfl, by decide, by decide, s14.src, fun r3 H4 hr3 s5 => ?_⟩
            have hr3' : r3 < 10 ^ 9 := by
              have q : (r3 : Int) < 10 ^ (9 : Int).toNat := hr3
              have e : (10 : Int) ^ (9 : Int).toNat = 1000000000 := by decide
              omega
            have e20 : (10 : Int) ^ (20 : Int).toNat = 100000000000000000000 := by decide
            refine ⟨10, 20, rfl, rfl, ⟨by decide, by decide, by decide⟩, _, _, rfl, rfl, mul_l (by omega) (by omega), _, rfl, 10, 6, rfl, rfl, ⟨by decide, by decide, by decide⟩, p, _, rfl, by decide, by decide, s5.src, fun r4 H5 hr4 s6 => ?_⟩
            have hr4' : r4 < 10 ^ 6 := by
              have q : (r4 : Int) < 10 ^ (6 : Int).toNat := hr4
              have e : (10 : Int) ^ (6 : Int).toNat = 1000000 := by decide
              omega
            refine ⟨_, _, rfl, rfl, ?_⟩
            show Q (.int ((r3 : Int) * (10 : Int) ^ (20 : Int).toNat + (r4 : Int))) H5
            rw [e20]
            have e3 : (r3 : Int) * 100000000000000000000 + (r4 : Int) = ((r3 * 100000000000000000000 + r4 : Nat) : Int) := by omega
            rw [e3]
            exact q _ H5 (by omega) ((s14.trans s5).trans s6)
end
section
variable {P : Program} {w : World} {K : PySem.W.Frag} {mg : Str → Option Value} {base : Heap}
theorem flat_rep {α : Type} (x : α) : ∀ n : Nat, (List.replicate n [x]).flatten = List.replicate n x
  | 0 => rfl
  | n + 1 => by
    rw [List.replicate_succ, List.flatten_cons, flat_rep x n, List.replicate_succ]
    rfl
theorem pick_lv {r : Nat} (h : r < 2) : ([.str "stack", .str "queue"] : List V)[r]? = some (lvV (decide (r = 0))) := by
  match r, h with
  | 0, _ => rfl
  | 1, _ => rfl
  | r + 2, h => omega
theorem pick_vl {r : Nat} (h : r < 2) : ([.str "queue", .str "stack"] : List V)[r]? = some (lvV (decide (r = 1))) := by
  match r, h with
  | 0, _ => rfl
  | 1, _ => rfl
  | r + 2, h => omega
def spLevels : Sp := fun vs H Q _ => ∃ (p : Addr), vs = [.ref p] ∧ SrcAt H p ∧ ∀ H' q (ws : List Bool), Stp p H H' → H q = none → H' q = some (.lst (ws.map lvV)) → ws ≠ [] → ws.length ≤ 60 → Q (.ref q) H'
theorem ok_levels {f : Addr} {fd : FuncData} (F : Fun K "_law_levels" "_law_levels" s__law_levels f fd) (T : Tx K mg) (h1 : Has P w K mg base 2 "_law_next" ["_law_source_here", "_law_many"] [] spNext) : FnOk P w K mg base CX0 3 f fd ["_law_source_here"] spLevels := by
  obtain ⟨f__law_next, fd__law_next, ds__law_next, G__law_next, m__law_next, k__law_next, b__law_next, v__law_next⟩ := h1
  refine F.ok sc__law_levels (fun vs H Q E h => ?_) (fun cdv A outer s H vs Q E hr h => ?_)
  · obtain ⟨p, rfl, _⟩ := h
    rfl
  · obtain ⟨p, rfl, hs, c⟩ := h
    refine ⟨_, (pss_cons (ps_set (i := 1) sc__law_levels.nd rfl (.inl rfl) (pe_ix (ix_listK (K := K) rfl) (pe_lst (pa_cons (pe_op op_add pe_int (pe_call G__law_next hr (by rfl) m__law_next k__law_next b__law_next v__law_next pass0 (pa_cons (pv 0) (pa_cons pe_int pa_nil)))) (pa_cons (pe_op op_add pe_int (pe_call G__law_next hr (by rfl) m__law_next k__law_next b__law_next v__law_next pass0 (pa_cons (pv 0) (pa_cons pe_int pa_nil)))) pa_nil))) (pe_callTy call_int1 (by rfl) T.b_int (by decide +kernel) (pa_cons (pe_cmpR op_eq (pe_call G__law_next hr (by rfl) m__law_next k__law_next b__law_next v__law_next pass0 (pa_cons (pv 0) (pa_cons pe_int pa_nil))) pe_int (nomark _)) pa_nil)) (fun _ _ => rfl)))
      (pss_cons (ps_set (i := 2) sc__law_levels.nd rfl (.inl rfl) (pe_call G__law_next hr (by rfl) m__law_next k__law_next b__law_next v__law_next pass0 (pa_cons (pv 0) (pa_cons pe_int pa_nil))))
      (pss_cons (ps_if (pt_cmpR op_lt (pv 2) pe_int (nomark _))
        (pss_one (ps_ret (pe_op op_rep (pe_lst (pa_cons (pe_ix (ix_listK (K := K) rfl) (pe_lst (pa_cons pe_str (pa_cons pe_str pa_nil))) (pv 2) (fun _ _ => rfl)) pa_nil)) (pv 1))))
        pss_nil)
      (pss_cons (ps_setLc (i := 3) (own := [("_law_at", 4)]) (g := gName 4) (tt := tYes) rfl sc__law_levels.nd rfl rfl (sw_true rfl rfl rfl (by decide +kernel)) (pi_range1 (by rfl) T.b_range (pa_cons (pv 1) pa_nil)) (blkOk_by (own := [("_law_at", 4)]) (N := N__law_levels) (sc := defScope s__law_levels) (by decide +kernel)) (fun _ _ _ _ _ => (pg_name (i := 4) sc__law_levels.nd rfl (.inl rfl))) (fun _ _ _ _ _ => pts_nil) (fun _ _ _ _ _ => (pe_ix (ix_listK (K := K) rfl) (pe_lst (pa_cons pe_str (pa_cons pe_str pa_nil))) (pe_call G__law_next hr (by rfl) m__law_next k__law_next b__law_next v__law_next pass0 (pa_cons (pv 0) (pa_cons pe_int pa_nil))) (fun _ _ => rfl))))
      (pss_cons (ps_if (pt_cmpR op_eq (pv 2) pe_int (nomark _))
        (pss_one (ps_setLc (i := 3) (own := [("_law_at", 4)]) (g := gName 4) (tt := tYes) rfl sc__law_levels.nd rfl rfl (sw_true rfl rfl rfl (by decide +kernel)) (pi_range1 (by rfl) T.b_range (pa_cons (pv 1) pa_nil)) (blkOk_by (own := [("_law_at", 4)]) (N := N__law_levels) (sc := defScope s__law_levels) (by decide +kernel)) (fun _ _ _ _ _ => (pg_name (i := 4) sc__law_levels.nd rfl (.inl rfl))) (fun _ _ _ _ _ => pts_nil) (fun _ _ _ _ _ => (pe_ix (ix_listK (K := K) rfl) (pe_lst (pa_cons pe_str (pa_cons pe_str pa_nil))) (pe_op op_mod (pv 4) pe_int) (fun _ _ => rfl)))))
        pss_nil)
      (pss_one (ps_ret (pv 3)))))))), ?_⟩
    -- many
    refine ⟨_, rfl, p, 6, rfl, by decide, by decide, hs, fun r1 H1 hr1 s1 => ⟨1, r1, rfl, rfl, _, rfl, p, 60, rfl, by decide, by decide, s1.src, fun r2 H2 hr2 s2 => ⟨1, r2, rfl, rfl, by simp [sizeLine_eq], fun l hl => ?_⟩⟩⟩
    have s3 : Stp p H2 (upd H2 l (.lst [.int (1 + (r1 : Int)), .int (1 + (r2 : Int))])) := s2.src.stp_same (same_upd hl)
    refine ⟨_, rfl, p, 5, rfl, by decide, by decide, s3.src, fun r3 H4 hr3 s4 => ⟨rfl, .inr ⟨_, rfl, ?_⟩⟩⟩
    have eL := s4.keep _ _ (s2.src.ne hl) upd_same
    obtain ⟨m, em, hm0, hm⟩ : ∃ m : Nat, ([.int (1 + (r1 : Int)), .int (1 + (r2 : Int))] : List V)[if decide (V.int (r3 : Nat) = V.int 4) = true then 1 else 0]? = some (.int (m : Nat)) ∧ 1 ≤ m ∧ m ≤ 60 := by
      split
      · exact ⟨1 + r2, rfl, by omega, by omega⟩
      · exact ⟨1 + r1, rfl, by omega, by omega⟩
    refine ⟨l, _, ((if decide (V.int (r3 : Nat) = V.int 4) = true then 1 else 0 : Nat) : Int), _, rfl, ?_, SqL.of eL, atI_nat em, ?_⟩
    · split <;> rfl
    have s04 := ((s1.trans s2).trans s3).trans s4
    -- sort
    refine ⟨_, rfl, p, 5, rfl, by decide, by decide, s4.src, fun r5 H5 hr5 s5 => ?_⟩
    have s05 := s04.trans s5
    refine ⟨_, rfl, _, 2, rfl, rfl, _, rfl, ite2 (fun e => ?_) (fun e0 => ?_)⟩
    · have hr2' : r5 < 2 := by
        have z := of_decide_eq_true e
        omega
      refine ⟨by simp [sizeLine_eq], fun l6 hl6 => ?_⟩
      refine ⟨_, rfl, l6, _, r5, _, rfl, rfl, SqL.of upd_same, atI_nat (pick_lv hr2'), by simp [sizeLine_eq], fun l7 hl7 => ?_⟩
      refine ⟨_, rfl, l7, (m : Nat), _, rfl, rfl, upd_same, by omega, by omega, ?_, fun q hq => ?_⟩
      · exact sizeLine_le (by show 1 * m ≤ 1000000; omega)
      · have s8 := ((s05.same (same_upd hl6)).same (same_upd hl7)).same (same_upd (o := .lst (List.replicate ((m : Nat) : Int).toNat [lvV (decide (r5 = 0))]).flatten) hq)
        refine c _ q (List.replicate m (decide (r5 = 0))) s8 ?_ ?_ ?_ ?_
        · exact ((s05.same (same_upd hl6)).same (same_upd hl7)).free hq
        · rw [upd_same, flat_rep, List.map_replicate]
          rfl
        · intro e
          have z := congrArg List.length e
          rw [List.length_replicate] at z
          exact absurd z (by show ¬ m = 0; omega)
        · rw [List.length_replicate]
          exact hm
    · -- drawn words
      refine ⟨_, rfl, m, rfl, by omega, by omega, fun D hD => lc_range (lo := 0) (n := ((m : Nat) : Int).toNat) (fun i H' => Stp p H5 H' ∧ ∃ ws : List Bool, ws.length = i ∧ H' D = some (.lst (ws.map lvV)))
        ⟨s5.src.stp_same (same_upd hD), [], rfl, upd_same⟩ ?_ ?_⟩
      · rintro i H' hi ⟨st, ws, hw, eD⟩
        have nDp : D ≠ p := s5.src.ne hD
        refine ⟨rfl, yesT (iteT ?_)⟩
        refine ⟨by simp [sizeLine_eq], fun l8 hl8 => ?_⟩
        have s8 : Stp p H' (upd H' l8 (.lst [.str "queue", .str "stack"])) := st.src.stp_same (same_upd hl8)
        refine ⟨_, rfl, p, 2, rfl, by decide, by decide, s8.src, fun r9 H9 hr9 s9 => ?_⟩
        have eL8 := s9.keep _ _ (st.src.ne hl8) upd_same
        have eD9 := s9.keep _ _ nDp (s8.keep _ _ nDp eD)
        refine ⟨l8, _, r9, _, rfl, rfl, SqL.of eL8, atI_nat (pick_vl (by omega)), _, eD9, ?_, ⟨fun b o n e => ?_, ?_⟩, ws ++ [decide (r9 = 1)], ?_, ?_⟩
        · rw [List.length_map, hw]
          exact sizeLine_ge (by omega)
        · rw [upd_ne (ne_of_none e hD)]
          exact s9.keep _ _ n (s8.keep _ _ n (st.keep _ _ n e))
        · obtain ⟨x, y, z, h⟩ := s9.src
          exact ⟨x, y, z, by rw [upd_ne nDp.symm]; exact h⟩
        · rw [List.length_append, hw]
          rfl
        · rw [upd_same, List.map_append]
          rfl
      rintro H6 ⟨s6, ws, hw, eD⟩
      have hw' : ws.length = m := by rw [hw]; exact Int.toNat_natCast m
      have s06 := s05.trans s6
      have last : ∀ H7 q (vs : List Bool), Stp p H H7 → H q = none → H7 q = some (.lst (vs.map lvV)) → vs.length = m → Q (.ref q) H7 := fun H7 q vs st hq eq hv =>
        c H7 q vs st hq eq (fun e => by
          rw [e] at hv
          exact absurd hv (by show ¬ 0 = m; omega)) (by omega)
      have hD0 : H D = none := s05.free hD
      refine ⟨_, rfl, rfl, _, rfl, ite2 (fun e => ?_) (fun e => ?_)⟩
      · refine ⟨_, rfl, m, rfl, by omega, by omega, fun D2 hD2 => lc_range (lo := 0) (n := ((m : Nat) : Int).toNat) (fun i H' => Same H6 H' ∧ ∃ ws : List Bool, ws.length = i ∧ H' D2 = some (.lst (ws.map lvV)))
          ⟨same_upd hD2, [], rfl, upd_same⟩ ?_ ?_⟩
        · rintro i H' hi ⟨st, ws2, hw2, eD2⟩
          refine ⟨rfl, yesT (iteT ?_)⟩
          refine ⟨by simp [sizeLine_eq], fun l8 hl8 => ?_⟩
          have s8 := same_upd (o := .lst [.str "queue", .str "stack"]) hl8
          have ei : (0 + (i : Int)) % 2 = ((i % 2 : Nat) : Int) := by omega
          refine ⟨_, rfl, _, 2, rfl, rfl, (by decide : (0 : Int) < 2), l8, _, ((i % 2 : Nat) : Int), _, rfl, congrArg V.int ei, SqL.of upd_same, atI_nat (pick_vl (Nat.mod_lt i (by decide))), _, s8 _ _ eD2, ?_, fun b o e => ?_, ws2 ++ [decide (i % 2 = 1)], ?_, ?_⟩
          · rw [List.length_map, hw2]
            exact sizeLine_ge (by omega)
          · rw [upd_ne (ne_of_none e hD2)]
            exact s8 _ _ (st _ _ e)
          · rw [List.length_append, hw2]
            rfl
          · rw [upd_same, List.map_append]
            rfl
        rintro H7 ⟨s7, ws2, hw2, eD2⟩
        refine ⟨_, rfl, last H7 D2 ws2 (s06.same s7) (s06.free hD2) eD2 ?_⟩
        rw [hw2]
        exact Int.toNat_natCast m
      · exact ⟨_, rfl, last H6 D ws s06 hD0 eD hw'⟩
end
/-! ### the law's loop over its numbers -/
theorem seq_new {K : PySem.W.Frag} {a p : Addr} {xs : List V} {H H1 H2 : Hp} (h : SqL K H a xs) (hp : H p = none) (s1 : Same H H1) (s2 : Stp p H1 H2) : SqL K H2 a xs := by
  rcases h with (h | ⟨o, h⟩) | h
  · exact .inl (.inl (s2.keep _ _ (ne_of_none h hp) (s1 _ _ h)))
  · exact .inl (.inr ⟨o, s2.keep _ _ (ne_of_none h hp) (s1 _ _ h)⟩)
  · exact .inr h
/-! ### where a changed heap has nothing -/
theorem upd_none {H : Hp} {a c : Addr} {o : HO} (h : upd H a o c = none) : H c = none := by
  by_cases e : c = a
  · subst e
    rw [upd_same] at h
    cases h
  · rw [upd_ne e] at h
    exact h
/-! ### a tuple at its place -/
theorem PrAt.get {H : Hp} {k : Nat} {r : Nat × Nat} : ∀ {ts : List Addr} {rs : List (Nat × Nat)}, PrAt H ts rs → rs[k]? = some r → ∀ j, j = k → ∃ t, ts[j]? = some t ∧ H t = some (.tup [.int (r.1 : Nat), .int (r.2 : Nat)]) := by
  intro ts
  induction ts generalizing k with
  | nil =>
    intro rs h e
    cases rs with
    | nil => cases e
    | cons _ _ => exact h.elim
  | cons t ts ih =>
    intro rs h e j hj
    cases rs with
    | nil => exact h.elim
    | cons q rs =>
      subst hj
      cases j with
      | zero =>
        cases e
        exact ⟨t, rfl, h.1⟩
      | succ k => exact ih h.2 e k rfl
/-! ### the law's periodic timers -/
theorem PrAt.tups {H H' : Hp} {ts : List Addr} {rs : List (Nat × Nat)} {p : Addr} (h : PrAt H ts rs) (s : Stp p H H') (hp : SrcAt H p) : PrAt H' ts rs := h.frame fun t xs e => s.keep _ _ (fun z => by
  obtain ⟨x, y, u, k⟩ := hp
  rw [z, k] at e
  cases e) e
section
variable {P : Program} {w : World} {K : PySem.W.Frag} {mg : Str → Option Value} {base : Heap}
def spPairs32 : Sp := fun vs H Q _ => ∃ (p : Addr) (b n m : Nat), vs = [.ref p, .int (b : Nat), .int (n : Nat), .int (m : Nat)] ∧ 2 ≤ b ∧ b ≤ 64 ∧ m ≤ 12 ∧ SrcAt H p ∧
  ∀ H' S ss prs, Stp p H H' → S ≠ p → H S = none → H' S = some (.lst (ss.map V.ref)) → PrAt H' ss prs → prs.length = m → (∀ r ∈ prs, n < r.1 ∧ r.1 ≤ n + 90 ∧ 1 ≤ r.2 ∧ r.2 ≤ 4112) → (prs.map (·.2)).Nodup → Q (.ref S) H'
theorem ok_pairs32 {f : Addr} {fd : FuncData} (F : Fun K "_law_pairs" "_law_pairs" s__law_pairs f fd) (T : Tx K mg) (h1 : Has P w K mg base 2 "_law_next" ["_law_source_here", "_law_many"] [] spNext) :
    FnOk P w K mg base CX0 3 f fd ["_law_source_here", "_law_base_here", "_law_begin", "_law_many"] spPairs32 := by
  obtain ⟨f__law_next, fd__law_next, ds__law_next, G__law_next, m__law_next, k__law_next, b__law_next, v__law_next⟩ := h1
  refine F.ok sc__law_pairs (fun vs H Q E h => ?_) (fun cdv A outer s H vs Q E hr h => ?_)
  · obtain ⟨p, b, n, m, rfl, _⟩ := h
    rfl
  · obtain ⟨p, b, n, m, rfl, hb, hb64, hm12, hs, c⟩ := h
    refine ⟨_, (pss_cons (ps_set (i := 4) sc__law_pairs.nd rfl (.inl rfl) (pe_lst pa_nil))
      (pss_cons (ps_set (i := 5) sc__law_pairs.nd rfl (.inl rfl) (pe_lst pa_nil))
      (pss_cons (ps_for PassesOwn.never rfl (pi_range1 (by rfl) T.b_range (pa_cons (pv 3) pa_nil)) (pg_name (i := 6) sc__law_pairs.nd rfl (.inl rfl))
        (pss_cons (ps_set (i := 7) sc__law_pairs.nd rfl (.inl rfl) (pe_ix (ix_listK (K := K) rfl) (pe_lst (pa_cons (pe_op op_addN pe_int (pe_call G__law_next hr (by rfl) m__law_next k__law_next b__law_next v__law_next pass0 (pa_cons (pv 0) (pa_cons pe_int pa_nil)))) (pa_cons (pv 1) (pa_cons (pe_op op_mulN (pv 1) (pv 1)) (pa_cons (pe_op op_addN pe_int (pe_call G__law_next hr (by rfl) m__law_next k__law_next b__law_next v__law_next pass0 (pa_cons (pv 0) (pa_cons pe_int pa_nil)))) pa_nil))))) (pe_call G__law_next hr (by rfl) m__law_next k__law_next b__law_next v__law_next pass0 (pa_cons (pv 0) (pa_cons pe_int pa_nil))) (fun _ _ => rfl)))
        (pss_cons (ps_while PassesOwn.never (pt_cmpR op_in_seq (pv 7) (pv 5) (by rfl))
          (pss_one (ps_set (i := 7) sc__law_pairs.nd rfl (.inl rfl) (pe_op op_addN (pv 7) pe_int))))
        (pss_cons (ps_expr (pe_bm PySem.F.plainAttrs_list PySem.F.slot_list_append PySem.F.type_list_append mt_append (pv 5) (pa_cons (pv 7) pa_nil)))
        (pss_one (ps_expr (pe_bm PySem.F.plainAttrs_list PySem.F.slot_list_append PySem.F.type_list_append mt_append (pv 4) (pa_cons (pe_tup (pa_cons (pe_op op_addN (pe_op op_addN (pv 2) pe_int) (pe_call G__law_next hr (by rfl) m__law_next k__law_next b__law_next v__law_next pass0 (pa_cons (pv 0) (pa_cons (pe_ix (ix_listK (K := K) rfl) (pe_lst (pa_cons pe_int (pa_cons pe_int (pa_cons pe_int pa_nil)))) (pe_call G__law_next hr (by rfl) m__law_next k__law_next b__law_next v__law_next pass0 (pa_cons (pv 0) (pa_cons pe_int pa_nil))) (fun _ _ => rfl)) pa_nil)))) (pa_cons (pv 7) pa_nil))) pa_nil))))))))
      (pss_one (ps_ret (pv 4)))))), ?_⟩
    refine ⟨by simp [sizeLine_eq], fun S hS => ⟨by simp [sizeLine_eq], fun D hD => ?_⟩⟩
    have nS : S ≠ p := hs.ne hS
    have s0 : Stp p H (upd H S (.lst [])) := hs.stp_same (same_upd hS)
    have nD : D ≠ p := s0.src.ne hD
    have nSD : S ≠ D := fun e => by
      rw [← e, upd_same] at hD
      cases hD
    have eS0 : (upd (upd H S (.lst [])) D (.lst [])) S = some (.lst []) := by
      rw [upd_ne nSD]
      exact upd_same
    have eD0 : (upd (upd H S (.lst [])) D (.lst [])) D = some (.lst []) := upd_same
    have hHD : H D = none := upd_none hD
    have s1 : Stp p H (upd (upd H S (.lst [])) D (.lst [])) := s0.same (same_upd hD)
    generalize upd (upd H S (.lst [])) D (.lst []) = H0 at s1 eS0 eD0 ⊢
    refine ⟨_, rfl, _, rfl, by omega, by omega, for_range (Pv := fun i σ H' => Stp p H H' ∧ ∃ (ss : List Addr) (prs : List (Nat × Nat)) (y6 y7 : Option V), σ = [some (.ref p), some (.int (b : Nat)), some (.int (n : Nat)), some (.int (m : Nat)), some (.ref S), some (.ref D), y6, y7] ∧ H' S = some (.lst (ss.map V.ref)) ∧ H' D = some (.lst ((prs.map (·.2)).map fun y => V.int (y : Nat))) ∧ PrAt H' ss prs ∧ prs.length = i ∧ (∀ r ∈ prs, n < r.1 ∧ r.1 ≤ n + 90 ∧ 1 ≤ r.2 ∧ r.2 ≤ 4100 + i) ∧ (prs.map (·.2)).Nodup)
      ⟨s1, [], [], none, none, rfl, eS0, eD0, trivial, rfl, (fun r hr => by cases hr), List.nodup_nil⟩ ?_ ?_⟩
    · rintro i σ H' hi ⟨st, ss, prs, y6, y7, rfl, eS, eD, hP, hlen, hpr, hnd⟩
      have hi12 : i < 12 := by
        rw [Int.toNat_natCast] at hi
        omega
      refine ⟨_, rfl, p, 12, rfl, by decide, by decide, st.src, fun r1 H1 hr1 s1 => ⟨1, r1, rfl, rfl, trivial, _, rfl, _, rfl, _, rfl, b, b, rfl, rfl, nmul_l (by omega), _, rfl, p, 90, rfl, by decide, by decide, s1.src, fun r2 H2 hr2 s2 => ⟨2, r2, rfl, rfl, trivial, by simp [sizeLine_eq], fun l hl => ?_⟩⟩⟩
      have nl : l ≠ p := s2.src.ne hl
      have s3 : Stp p H2 (upd H2 l (.lst [.int ((1 + r1 : Nat) : Int), .int (b : Nat), .int ((b * b : Nat) : Int), .int ((2 + r2 : Nat) : Int)])) := s2.src.stp_same (same_upd hl)
      refine ⟨_, rfl, p, 4, rfl, by decide, by decide, s3.src, fun r4 H5 hr4 s5 => ?_⟩
      have hbb : b * b ≤ 4096 := Nat.mul_le_mul hb64 hb64
      have hbb0 : 1 * 1 ≤ b * b := Nat.mul_le_mul (by omega) (by omega)
      obtain ⟨z0, hz0, hz0', em⟩ : ∃ m : Nat, 1 ≤ m ∧ m ≤ 4100 ∧ ([.int ((1 + r1 : Nat) : Int), .int (b : Nat), .int ((b * b : Nat) : Int), .int ((2 + r2 : Nat) : Int)] : List V)[r4]? = some (.int (m : Nat)) := by
        have z : r4 = 0 ∨ r4 = 1 ∨ r4 = 2 ∨ r4 = 3 := by omega
        rcases z with rfl | rfl | rfl | rfl
        · exact ⟨1 + r1, by omega, by omega, rfl⟩
        · exact ⟨b, by omega, by omega, rfl⟩
        · exact ⟨b * b, by omega, by omega, rfl⟩
        · exact ⟨2 + r2, by omega, by omega, rfl⟩
      refine ⟨l, _, r4, _, rfl, rfl, SqL.of (s5.keep _ _ nl upd_same), atI_nat em, ?_⟩
      have s05 := ((s1.trans s2).trans s3).trans s5
      have st5 := st.trans s05
      have eS5 := s05.keep _ _ nS eS
      have eD5 := s05.keep _ _ nD eD
      have hP5 := hP.tups s05 st.src
      refine while_by (fun σ H' => ∃ z : Nat, σ = [some (.ref p), some (.int (b : Nat)), some (.int (n : Nat)), some (.int (m : Nat)), some (.ref S), some (.ref D), some (.int (0 + (i : Int))), some (.int (z : Nat))] ∧ H' = H5 ∧ 1 ≤ z ∧ z ≤ 4100 + i + 1) (fun σ _ => 4100 + i + 1 - slotInt σ 7) ⟨z0, rfl, rfl, hz0, by omega⟩ ?_ ?_
      · rintro σ H6 ⟨z, rfl, rfl, hz1, hz2⟩
        refine ⟨_, rfl, _, rfl, D, _, rfl, .inl (SqL.of eD5), rfl, flat_nats _, decide (z ∈ prs.map (·.2)), ?_, ?_⟩
        · rw [inV_nat]
          rfl
        by_cases hin : z ∈ prs.map (·.2)
        · rw [decide_eq_true hin]
          obtain ⟨r, hr, er⟩ := List.mem_map.mp hin
          have h2 := (hpr r hr).2.2.2
          refine iteT ⟨_, rfl, z, 1, rfl, rfl, trivial, ⟨z + 1, rfl, rfl, by omega, by omega⟩, ?_⟩
          show 4100 + i + 1 - ((z + 1 : Nat) : Int).toNat < 4100 + i + 1 - ((z : Nat) : Int).toNat
          rw [Int.toNat_natCast, Int.toNat_natCast]
          omega
        · rw [decide_eq_false hin]
          refine iteF ?_
          refine ⟨_, rfl, .inl ⟨rfl, _, SqL.of eD5⟩, _, rfl, D, _, _, rfl, rfl, eD5, ?_, ?_⟩
          · rw [List.length_map, List.length_map, hlen]
            exact sizeLine_ge (by omega)
          have eDn : (upd H6 D (.lst ((prs.map (·.2)).map (fun y => V.int (y : Nat)) ++ [V.int (z : Nat)]))) D = some (.lst (((prs ++ [((0 : Nat), z)]).map (fun r : Nat × Nat => r.2)).map fun y : Nat => V.int (y : Nat))) := by
            rw [upd_same, List.map_append, List.map_append]
            rfl
          have eSn : (upd H6 D (.lst ((prs.map (·.2)).map (fun y => V.int (y : Nat)) ++ [V.int (z : Nat)]))) S = some (.lst (ss.map V.ref)) := by
            rw [upd_ne nSD]
            exact eS5
          have hPn : PrAt (upd H6 D (.lst ((prs.map (·.2)).map (fun y => V.int (y : Nat)) ++ [V.int (z : Nat)]))) ss prs := hP5.frame fun t xs e => by
            rw [upd_ne (ne_of e eD5 (by intro z; cases z))]
            exact e
          have stn : Stp p H (upd H6 D (.lst ((prs.map (·.2)).map (fun y => V.int (y : Nat)) ++ [V.int (z : Nat)]))) := ⟨fun c o n1 e => by
            rw [upd_ne (fun z => by rw [z, hHD] at e; cases e)]
            exact st5.keep c o n1 e, by
            obtain ⟨x, y, v, h⟩ := st5.src
            exact ⟨x, y, v, by rw [upd_ne (Ne.symm nD)]; exact h⟩⟩
          generalize upd H6 D (.lst ((prs.map (·.2)).map (fun y => V.int (y : Nat)) ++ [V.int (z : Nat)])) = H7 at eDn eSn hPn stn ⊢
          refine ⟨_, rfl, .inl ⟨rfl, _, SqL.of eSn⟩, ?_⟩
          refine ⟨_, rfl, n, 1, rfl, rfl, trivial, _, rfl, by simp [sizeLine_eq], fun l8 hl8 => ?_⟩
          have nl8 : l8 ≠ p := stn.src.ne hl8
          have s8 : Stp p H7 (upd H7 l8 (.lst [.int 2, .int 30, .int 90])) := stn.src.stp_same (same_upd hl8)
          refine ⟨_, rfl, p, 3, rfl, by decide, by decide, s8.src, fun r9 H9 hr9 s9 => ?_⟩
          obtain ⟨q9, hq9, hq9', eq9⟩ : ∃ m : Nat, 0 < m ∧ m ≤ 90 ∧ ([.int 2, .int 30, .int 90] : List V)[r9]? = some (.int (m : Nat)) := by
            have z : r9 = 0 ∨ r9 = 1 ∨ r9 = 2 := by omega
            rcases z with rfl | rfl | rfl
            · exact ⟨2, by decide, by decide, rfl⟩
            · exact ⟨30, by decide, by decide, rfl⟩
            · exact ⟨90, by decide, by decide, rfl⟩
          refine ⟨l8, _, r9, _, rfl, rfl, SqL.of (s9.keep _ _ nl8 upd_same), atI_nat eq9, p, q9, rfl, by omega, by omega, s9.src, fun r10 H10 hr10 s10 => ⟨n + 1, r10, rfl, rfl, trivial, _, rfl, by simp [sizeLine_eq], fun u hu => ?_⟩⟩
          have s710 := (s8.trans s9).trans s10
          have st10 := stn.trans s710
          have eS10 := s710.keep _ _ nS eSn
          have eD10 := s710.keep _ _ nD eDn
          have hP10 := hPn.tups s710 stn.src
          have su := same_upd (o := .tup [.int ((n + 1 + r10 : Nat) : Int), .int (z : Nat)]) hu
          have eSu := su _ _ eS10
          refine ⟨S, _, _, rfl, rfl, eSu, ?_, ⟨fun c o n1 e => ?_, ?_⟩, ss ++ [u], prs ++ [(n + 1 + r10, z)], _, _, rfl, ?_, ?_, ?_, ?_, fun r hr => ?_, ?_⟩
          · rw [List.length_map, hP10.len, hlen]
            exact sizeLine_ge (by omega)
          · rw [upd_ne (fun z => by rw [z, hS] at e; cases e)]
            exact su _ _ (st10.keep _ _ n1 e)
          · obtain ⟨x, y, v, h⟩ := st10.src
            exact ⟨x, y, v, by rw [upd_ne (Ne.symm nS)]; exact su _ _ h⟩
          · rw [upd_same, List.map_append]
            rfl
          · rw [upd_ne (Ne.symm nSD), su _ _ eD10, List.map_append, List.map_append, List.map_append, List.map_append]
            rfl
          · have hk : ∀ t' xs, H10 t' = some (.tup xs) → (upd (upd H10 u (.tup [.int ((n + 1 + r10 : Nat) : Int), .int (z : Nat)])) S (.lst (ss.map V.ref ++ [.ref u]))) t' = some (.tup xs) := fun t' xs e => by
              rw [upd_ne (ne_of (su _ _ e) eSu (by intro z; cases z))]
              exact su _ _ e
            refine (hP10.frame hk).app (r := (n + 1 + r10, z)) ?_
            rw [upd_ne (ne_of upd_same eSu (by intro z; cases z))]
            exact upd_same
          · rw [List.length_append, hlen]
            rfl
          · rcases List.mem_append.mp hr with h | h
            · have y := hpr r h
              exact ⟨y.1, y.2.1, y.2.2.1, by omega⟩
            · rw [List.mem_singleton.mp h]
              have : r10 < q9 := by omega
              exact ⟨by show n < n + 1 + r10; omega, by show n + 1 + r10 ≤ n + 90; omega, hz1, by show z ≤ 4100 + (i + 1); omega⟩
          · rw [List.map_append]
            refine List.nodup_append.mpr ⟨hnd, by simp, fun x hx y hy => ?_⟩
            rw [List.map_cons, List.map_nil, List.mem_singleton] at hy
            intro e
            have hy' : y = z := hy
            rw [e, hy'] at hx
            exact hin hx
      · rintro σ H' Q1 Q2 h ⟨x, hx, y, hy, D', zs, e1, e2, e3, e4, c, ec, q⟩
        exact ⟨x, hx, y, hy, D', zs, e1, e2, e3, e4, c, ec, h _ _ q⟩
    · rintro σ H' ⟨st, ss, prs, y6, y7, rfl, eS, eD, hP, hlen, hpr, hnd⟩
      rw [Int.toNat_natCast] at hlen
      exact ⟨_, rfl, c H' S ss prs st nS hS eS hP hlen (fun r hr => by
        have y := hpr r hr
        rw [Int.toNat_natCast] at y
        exact ⟨y.1, y.2.1, y.2.2.1, by omega⟩) hnd⟩
end
/-! ### data equal to itself -/
theorem neq_refl {d : PyData} (h : d.canLay0 = true) : V.bl (!PyData.eqv d d) = V.bl false := by
  rw [SeqAt.eqv_refl d h]
  rfl
theorem eq_refl {d : PyData} (h : d.canLay0 = true) : V.bl (PyData.eqv d d) = V.bl true := by
  rw [SeqAt.eqv_refl d h]
/-! ### rows as data, walks with numbers -/
def rowD (r : Row3) : PyData := .tuple [.int (r.1 : Nat), .int (r.2.1 : Nat), .int (r.2.2 : Nat)]
theorem rows_dp {K : PySem.W.Frag} {H : Hp} : ∀ {ts : List Addr} {rs : List Row3}, RowsAt H ts rs → DpAll K H (ts.map V.ref) (rs.map rowD)
  | [], [], _ => .nil
  | _ :: _, _ :: _, h => .cons (.tup (.inl (.inl h.1)) (.cons (.int _) (.cons (.int _) (.cons (.int _) .nil)))) (rows_dp h.2)
  | [], _ :: _, h => h.elim
  | _ :: _, [], h => h.elim
theorem rowD_lay (r : Row3) : (rowD r).canLay0 = true := rfl
theorem rows_lay : ∀ rs : List Row3, PyData.canLayAll0 (rs.map rowD) = true
  | [] => rfl
  | r :: rs => by
    show ((rowD r).canLay0 && PyData.canLayAll0 (rs.map rowD)) = true
    rw [rowD_lay, rows_lay rs]
    rfl
theorem rows_depth : ∀ rs : List Row3, PyData.depthAll (rs.map rowD) ≤ 1
  | [] => Nat.zero_le _
  | r :: rs => by
    have ih := rows_depth rs
    show max (rowD r).depth (PyData.depthAll (rs.map rowD)) ≤ 1
    have e : (rowD r).depth = 1 := rfl
    rw [e]
    omega
theorem rows_shaped (rs : List Row3) : SeqAt.shaped (.list (rs.map rowD)) = true := by
  have h1 : (PyData.list (rs.map rowD)).canLay0 = true := by
    show PyData.canLayAll0 (rs.map rowD) = true
    exact rows_lay rs
  have h2 : (PyData.list (rs.map rowD)).depth ≤ 64 := by
    show PyData.depthAll (rs.map rowD) + 1 ≤ 64
    have := rows_depth rs
    omega
  unfold SeqAt.shaped
  rw [h1, decide_eq_true h2]
  rfl
theorem dp_nats {K : PySem.W.Frag} {H : Hp} : ∀ ns : List Nat, DpAll K H (ns.map fun x => V.int (x : Nat)) (ns.map fun x => PyData.int (x : Nat))
  | [] => .nil
  | _ :: r => .cons (.int _) (dp_nats r)
theorem nats_lay : ∀ ns : List Nat, PyData.canLayAll0 (ns.map fun x => PyData.int (x : Nat)) = true
  | [] => rfl
  | _ :: r => by
    show (PyData.canLay0 _ && PyData.canLayAll0 (r.map fun x => PyData.int (x : Nat))) = true
    rw [nats_lay r]
    rfl
theorem nats_depth : ∀ ns : List Nat, PyData.depthAll (ns.map fun x => PyData.int (x : Nat)) = 0
  | [] => rfl
  | _ :: r => by
    show max (PyData.depth _) (PyData.depthAll (r.map fun x => PyData.int (x : Nat))) = 0
    rw [nats_depth r]
    rfl
theorem nats_shaped (ns : List Nat) : SeqAt.shaped (.list (ns.map fun x => PyData.int (x : Nat))) = true := by
  have h1 : (PyData.list (ns.map fun x => PyData.int (x : Nat))).canLay0 = true := by
    show PyData.canLayAll0 _ = true
    exact nats_lay ns
  have h2 : (PyData.list (ns.map fun x => PyData.int (x : Nat))).depth ≤ 64 := by
    show PyData.depthAll _ + 1 ≤ 64
    rw [nats_depth ns]
    decide
  unfold SeqAt.shaped
  rw [h1, decide_eq_true h2]
  rfl
theorem cut1 (xs : List V) : cutV xs (some 1) none = xs.drop 1 := by
  unfold cutV
  rw [show HT.sIx xs.length 0 (some 1) = min 1 xs.length from HT.sIx_nat xs.length 0 1, HT.sIx_none]
  cases xs with
  | nil => rfl
  | cons x r =>
    rw [show min 1 (x :: r).length = 1 by
      rw [List.length_cons]
      omega]
    show (List.take ((x :: r).length - 1) r) = r
    rw [List.length_cons, Nat.add_sub_cancel]
    exact List.take_length
theorem cutTo {xs : List V} {k : Nat} : cutV xs none (some (k : Int)) = xs.take k := by
  unfold cutV
  rw [HT.sIx_none, HT.sIx_nat, List.drop_zero, Nat.sub_zero]
  by_cases h : k ≤ xs.length
  · rw [Nat.min_eq_left h]
  · rw [Nat.min_eq_right (by omega), List.take_length, List.take_of_length_le (by omega)]
theorem cutFrom {xs : List V} {k : Nat} : cutV xs (some (k : Int)) none = xs.drop k := by
  unfold cutV
  rw [HT.sIx_none, HT.sIx_nat]
  by_cases h : k ≤ xs.length
  · rw [Nat.min_eq_left h]
    exact List.take_of_length_le (by rw [List.length_drop]; exact Nat.le_refl _)
  · rw [Nat.min_eq_right (by omega), List.drop_length, List.drop_of_length_le (by omega)]
    simp
theorem cutLast {xs : List V} (h : xs ≠ []) : cutV xs (some (-1)) none = [xs.getLast h] := by
  have hp : 0 < xs.length := List.length_pos_iff.mpr h
  have e : HT.sIx xs.length 0 (some (-1)) = xs.length - 1 := by
    show (if (-1 : Int) < 0 then ((-1 : Int) + (xs.length : Int)).toNat else min (-1 : Int).toNat xs.length) = _
    rw [if_pos (by decide)]
    omega
  unfold cutV
  rw [e, HT.sIx_none, List.drop_eq_getElem_cons (show xs.length - 1 < xs.length by omega), List.getLast_eq_getElem]
  rw [show xs.length - 1 + 1 = xs.length by omega, List.drop_length]
  rw [show xs.length - (xs.length - 1) = 1 by omega]
  rfl
theorem RowsAt.frame {H H' : Hp} : ∀ {ts : List Addr} {rs : List Row3}, RowsAt H ts rs → (∀ t r, H t = some (.tup (rowV r)) → H' t = some (.tup (rowV r))) → RowsAt H' ts rs
  | [], [], _, _ => trivial
  | _ :: _, _ :: _, h, s => ⟨s _ _ h.1, h.2.frame s⟩
  | [], _ :: _, h, _ => h.elim
  | _ :: _, [], h, _ => h.elim
/-- the tick behind the first station -/
theorem behind_first (b d : Nat) : ∀ k, ((tailOf b d k).map (fun r => r.2.2) ++ [d])[0]? = some (d / b ^ k * b ^ k)
  | 0 => by
    show some d = some (d / b ^ 0 * b ^ 0)
    rw [Nat.pow_zero, Nat.div_one, Nat.mul_one]
  | k + 1 => by
    have e := cut_step b d k
    unfold tailOf
    split
    · rfl
    · rename_i h
      have h0 : d / b ^ k % b = 0 := Classical.byContradiction h
      rw [h0, Nat.zero_mul, Nat.add_zero] at e
      rw [behind_first b d k, e]
/-- a loop over enumerate(a list) -/
theorem for_enum {K : PySem.W.Frag} {a : Addr} {xs : List V} {g : TG} {tb : TS} {D : Ends} {σ : L2.St} {H : Hp} (Pv : Nat → L2.St → Hp → Prop) (h0 : Pv 0 σ H) (hq : ∀ i σ H, Pv i σ H → SqL K H a xs)
    (hs : ∀ (i : Nat) (x : V) (T : Addr) (σ : L2.St) (H : Hp), xs[i]? = some x → Pv i σ H → H T = none → g (.ref T) σ (upd H T (.tup [.int (i : Nat), x])) fun σ2 H2 => tb { D with nx := Pv (i + 1), ct := Pv (i + 1), bk := D.nx } σ2 H2) (hd : ∀ σ H, Pv xs.length σ H → D.nx σ H) :
    ∃ W : Nat → Nat → L2.St → Hp → Prop, (∃ m, W 0 m σ H) ∧ ∀ i m σ H, W i m σ H →
      ((Ite K a).stop i H ∧ D.nx σ H) ∨ ((Ite K a).go i H ∧ ∃ N : L2.St → Hp → Prop, (∀ σ' H', N σ' H' → ∃ m', m' < m ∧ W (i + 1) m' σ' H') ∧ ∀ v H', (Ite K a).yld i H v H' → g v σ H' fun σ2 H2 => tb { D with nx := N, ct := N, bk := D.nx } σ2 H2) := by
  refine ⟨fun i m σ H => m = xs.length - i ∧ i ≤ xs.length ∧ Pv i σ H, ⟨xs.length, rfl, Nat.zero_le _, h0⟩, ?_⟩
  rintro i m σ H ⟨rfl, hi, p⟩
  have qx := hq i σ H p
  by_cases hlt : i < xs.length
  · have hx : xs[i]? = some xs[i] := List.getElem?_eq_getElem hlt
    refine .inr ⟨⟨xs, xs[i], qx, hx⟩, Pv (i + 1), fun σ' H' p' => ⟨xs.length - (i + 1), by omega, rfl, hlt, p'⟩, fun v H' y => ?_⟩
    obtain ⟨T, x, rfl, nT, rfl, f⟩ := y
    have ex : x = xs[i] := Option.some.inj ((f xs qx).symm.trans hx)
    subst ex
    exact hs i _ T σ H hx p nT
  · have e : i = xs.length := by omega
    subst e
    exact .inl ⟨⟨xs, qx, Nat.le_refl _⟩, hd σ H p⟩
/-- a loop over zip(a list, a list), of any two lengths -/
theorem for_zip2 {K : PySem.W.Frag} {a b : Addr} {xs ys : List V} {g : TG} {tb : TS} {D : Ends} {σ : L2.St} {H : Hp} (Pv : Nat → L2.St → Hp → Prop) (h0 : Pv 0 σ H) (hq : ∀ i σ H, Pv i σ H → SqL K H a xs ∧ SqL K H b ys)
    (hs : ∀ (i : Nat) (x y : V) (T : Addr) (σ : L2.St) (H : Hp), xs[i]? = some x → ys[i]? = some y → Pv i σ H → H T = none → g (.ref T) σ (upd H T (.tup [x, y])) fun σ2 H2 => tb { D with nx := Pv (i + 1), ct := Pv (i + 1), bk := D.nx } σ2 H2) (hd : ∀ i σ H, Pv i σ H → D.nx σ H) :
    ∃ W : Nat → Nat → L2.St → Hp → Prop, (∃ m, W 0 m σ H) ∧ ∀ i m σ H, W i m σ H →
      ((Itz K a b).stop i H ∧ D.nx σ H) ∨ ((Itz K a b).go i H ∧ ∃ N : L2.St → Hp → Prop, (∀ σ' H', N σ' H' → ∃ m', m' < m ∧ W (i + 1) m' σ' H') ∧ ∀ v H', (Itz K a b).yld i H v H' → g v σ H' fun σ2 H2 => tb { D with nx := N, ct := N, bk := D.nx } σ2 H2) := by
  refine ⟨fun i m σ H => m = xs.length - i ∧ i ≤ xs.length ∧ Pv i σ H, ⟨xs.length, rfl, Nat.zero_le _, h0⟩, ?_⟩
  rintro i m σ H ⟨rfl, hi, p⟩
  obtain ⟨qx, qy⟩ := hq i σ H p
  by_cases hlt : i < xs.length ∧ i < ys.length
  · have hx : xs[i]? = some xs[i] := List.getElem?_eq_getElem hlt.1
    have hy : ys[i]? = some ys[i] := List.getElem?_eq_getElem hlt.2
    refine .inr ⟨⟨xs, ys, _, _, qx, qy, hx, hy⟩, Pv (i + 1), fun σ' H' p' => ⟨xs.length - (i + 1), by omega, rfl, hlt.1, p'⟩, fun v H' e => ?_⟩
    obtain ⟨T, x, y, rfl, nT, rfl, f, f2⟩ := e
    have ex : x = xs[i] := Option.some.inj ((f xs qx).symm.trans hx)
    have ey : y = ys[i] := Option.some.inj ((f2 ys qy).symm.trans hy)
    subst ex
    subst ey
    exact hs i _ _ T σ H hx hy p nT
  · refine .inl ⟨⟨xs, ys, qx, qy, ?_⟩, hd i σ H p⟩
    by_cases h1 : i < xs.length
    · right
      by_cases h2 : i < ys.length
      · exact absurd ⟨h1, h2⟩ hlt
      · omega
    · left
      omega
/-- the last item of a list that has one -/
theorem atI_neg1 {xs : List V} {x : V} (h : xs[xs.length - 1]? = some x) : atI xs (-1) = some x := by
  have hne : xs ≠ [] := fun e => by
    rw [e] at h
    simp at h
  have e : xs = xs.dropLast ++ [xs.getLast hne] := (List.dropLast_concat_getLast hne).symm
  have ex : x = xs.getLast hne := by
    have z := List.getLast?_eq_getElem? (l := xs)
    rw [h, List.getLast?_eq_some_getLast hne] at z
    exact (Option.some.inj z).symm
  rw [e, ex]
  exact atI_last _ _
/-! ### law k37: orders told or refused, counts -/
theorem idx_before {i : Nat} : ∀ {l : List Nat} {m : Nat}, m < l.idxOf i → l[m]? ≠ some i
  | [], m, h => absurd h (Nat.not_lt_zero m)
  | a :: l, m, h => fun e => by
    by_cases c : a = i
    · rw [c, List.idxOf_cons_self] at h
      exact absurd h (Nat.not_lt_zero m)
    · have q : (a :: l).idxOf i = l.idxOf i + 1 := by
        rw [List.idxOf_cons, beq_false_of_ne c]
        rfl
      rw [q] at h
      cases m with
      | zero => exact c (Option.some.inj e)
      | succ m => exact idx_before (l := l) (m := m) (by omega) e
theorem idx_mem {o : List Nat} {i : Nat} (h : i ∈ o) : (o.map fun x => V.int (x : Nat))[o.idxOf i]? = some (.int (i : Nat)) ∧ ∀ (m : Nat) (z' : V), m < o.idxOf i → (o.map fun x => V.int (x : Nat))[m]? = some z' → eqV z' (.int (i : Nat)) = false := by
  have hl := List.idxOf_lt_length_of_mem h
  have e : o[o.idxOf i]? = some i := by
    rw [List.getElem?_eq_getElem hl, List.getElem_idxOf]
  refine ⟨by rw [List.getElem?_map, e]; rfl, fun m z' hm hz => ?_⟩
  rw [List.getElem?_map] at hz
  obtain ⟨y, hy, rfl⟩ := Option.map_eq_some_iff.mp hz
  have hne : y ≠ i := fun e2 => idx_before hm (by rw [hy, e2])
  show (((y : Nat) : Int) == ((i : Nat) : Int)) = false
  exact beq_false_of_ne fun e2 => hne (Int.ofNat.inj e2)
theorem again_snoc {D P : Nat → Nat} {x k : Nat} {l : List Nat} : againK D P x (l ++ [k]) = againK D P x l ++ if D k + P k ≤ x then [k] else [] := by
  unfold againK
  rw [List.filter_append]
  by_cases c : D k + P k ≤ x
  · rw [if_pos c, List.filter_cons_of_pos (by exact decide_eq_true c)]
    rfl
  · rw [if_neg c, List.filter_cons_of_neg (by rw [decide_eq_true_eq]; exact c)]
    rfl
section
variable {P : Program} {w : World} {K : PySem.W.Frag} {mg : Str → Option Value} {base : Heap}
def spOrder37 (K : PySem.W.Frag) : Sp := fun vs H Q _ => ∃ (b x : Nat) (q S : Addr) (ws : List Bool) (ss : List Addr) (prs : List (Nat × Nat)), vs = [.int (b : Nat), .ref q, .ref S, .int (x : Nat)] ∧ 2 ≤ b ∧ b ≤ 64 ∧ SqL K H q (ws.map lvV) ∧ ws ≠ [] ∧ ws.length ≤ 60 ∧ x < 2 ^ 250 ∧
  H S = some (.lst (ss.map V.ref)) ∧ PrAt H ss prs ∧ prs ≠ [] ∧ prs.length ≤ 60 ∧ (∀ r ∈ prs, 1 ≤ r.2) ∧ (prs.map (·.2)).Nodup ∧
  ((∃ r ∈ prs, r.1 = x) → ∀ H', Same H H' → Q .non H') ∧ ((∀ r ∈ prs, r.1 ≠ x) → ∀ H' p (zs : List (Nat × Nat)), Same H H' → H p = none → zs.Perm (rowsF prs x) → zs.Pairwise (fun a c => c.1 < a.1) → H' p = some (.lst ((orderP b ws x (zs.map fun z => (z.2, x - z.1))).map fun y => V.int (y : Nat))) → Q (.ref p) H')
theorem ok_order37 {f CT : Addr} {fd : FuncData} (F : Fun K "_law_order" "_law_order" s__law_order f fd) (X_NoTick : EG mg "NoTick" CT) (te : PySem.W.exmOne K (.ref CT) (.ref CT) = some true) (h1 : HasX P w K mg base 6 "order_at" ["base", "levels", "some", "tick"] [] (spOrderAtX K CT)) :
    FnOk P w K mg base CX0 7 f fd ["_law_base_here", "_law_levels_here", "_law_pairs_here", "_law_moment"] (spOrder37 K) := by
  obtain ⟨f_order_at, fd_order_at, ds_order_at, G_order_at, m_order_at, k_order_at, b_order_at, v_order_at⟩ := h1
  cases v_order_at
  refine F.ok sc__law_order (fun vs H Q E h => ?_) (fun cdv A outer s H vs Q E hr h => ?_)
  · obtain ⟨b, x, q, S, ws, ss, prs, rfl, _⟩ := h
    rfl
  · obtain ⟨b, x, q, S, ws, ss, prs, rfl, hb, hb64, hL, hne, h60, hx, hS, hP, hpne, hp60, hpr, hnd, cx, c⟩ := h
    refine ⟨_, (pss_one (ps_try_only rfl rfl ⟨rfl, by decide, .inl X_NoTick.g⟩ takes0 (fun W pn xe tk _ => 
        (pss_one (ps_ret (pe_callS G_order_at hr (by rfl) m_order_at k_order_at b_order_at (fun σ => passAt tk σ) (pa_cons (pv 0) (pa_cons (pv 1) (pa_cons (pv 2) (pa_cons (pv 3) pa_nil)))))))) (fun a oe cls d pn hz hf => 
        (pss_one (ps_ret pe_non))))), ?_⟩
    refine ⟨_, rfl, _, rfl, _, rfl, _, rfl, b, x, q, S, ws, ss, prs, rfl, hb, hb64, hL, hne, h60, hx, hS, hP, hpne, hp60, hpr, hnd, fun hin H' s' => ?_, fun hno H' p zs s' hp hz hzs ep => c hno H' p zs s' hp hz hzs ep⟩
    exact ⟨true, te, fun _ a ha => cx hin H' s', fun z => nomatch z⟩
def spAhead37 : Sp := fun vs H Q _ => ∃ (S R s : Addr) (ss ts : List Addr) (prs : List (Nat × Nat)) (rows : List (Nat × List Nat)) (j k : Nat), vs = [.ref S, .ref R, .int (j : Nat), .int (k : Nat)] ∧ H S = some (.lst (ss.map V.ref)) ∧ PrAt H ss prs ∧ H R = some (.lst (ts.map V.ref)) ∧ FiredAt s H ts rows ∧ rows.length ≤ 100000 ∧ (∀ f ∈ rows, f.2.length ≤ 100 ∧ ∀ i ∈ f.2, i < prs.length) ∧
  ∀ H', Same H H' → Q (.int (rows.countP (befK (dOf prs) (pOf prs) j k) : Nat)) H'
theorem ok_ahead37 {f : Addr} {fd : FuncData} (F : Fun K "_law_ahead" "_law_ahead" s__law_ahead f fd) (T : Tx K mg) : FnOk P w K mg base CX0 1 f fd ["_law_pairs_here", "_law_rows", "_law_j", "_law_k"] spAhead37 := by
  refine F.ok sc__law_ahead (fun vs H Q E h => ?_) (fun cdv A outer s0 H vs Q E hr h => ?_)
  · obtain ⟨S, R, s, ss, ts, prs, rows, j, k, rfl, _⟩ := h
    rfl
  · obtain ⟨S, R, s, ss, ts, prs, rows, j, k, rfl, hS, hP, hR, hF, hlen, hin, c⟩ := h
    refine ⟨_, (pss_cons (ps_set (i := 4) sc__law_ahead.nd rfl (.inl rfl) pe_int)
      (pss_cons (ps_for PassesOwn.never rfl (pi_list (pv 1)) (pg_tupK (K := K) (n := 2) rfl rfl (pgs_cons (pg_name (i := 5) sc__law_ahead.nd rfl (.inr rfl)) (pgs_cons (pg_name (i := 6) sc__law_ahead.nd rfl (.inl rfl)) pgs_nil)))
        (pss_cons (ps_setLc (i := 7) (own := [("_law_one", 8)]) (g := gName 8)  rfl sc__law_ahead.nd rfl rfl (sw_true rfl rfl rfl (by decide +kernel)) (pi_list (pv 6)) (blkOk_by (own := [("_law_one", 8)]) (N := N__law_ahead) (sc := defScope s__law_ahead) (by decide +kernel)) (fun _ _ _ _ _ => (pg_name (i := 8) sc__law_ahead.nd rfl (.inl rfl))) (fun _ _ _ _ _ => (pts_one (pt_cmpR op_ge (pe_op op_sub (pv 5) (pe_ix (ix_tupK (K := K) rfl) (pe_ix (ix_listK (K := K) rfl) (pv 0) (pv 8) (fun _ _ => rfl)) pe_int (fun _ _ => rfl))) (pe_ix (ix_tupK (K := K) rfl) (pe_ix (ix_listK (K := K) rfl) (pv 0) (pv 8) (fun _ _ => rfl)) pe_int (fun _ _ => rfl)) (nomark _)))) (fun _ _ _ _ _ => (pv 8)))
        (pss_one (ps_if (PW.pt (pw_and (pt_cmpR op_in_seq (pv 2) (pv 7) (by rfl)) (pw_and (pt_cmpR op_in_seq (pv 3) (pv 7) (by rfl)) (pw_and1 (pt_cmpR op_lt (pe_bm PySem.F.plainAttrs_list PySem.F.slot_list_index PySem.F.type_list_index mt_index (pv 7) (pa_cons (pv 2) pa_nil)) (pe_bm PySem.F.plainAttrs_list PySem.F.slot_list_index PySem.F.type_list_index mt_index (pv 7) (pa_cons (pv 3) pa_nil)) (nomark _))))))
          (pss_one (ps_set (i := 4) sc__law_ahead.nd rfl (.inl rfl) (pe_op op_add (pv 4) pe_int)))
          pss_nil))))
      (pss_one (ps_ret (pv 4))))), ?_⟩
    refine ⟨_, rfl, R, rfl, ⟨_, SqL.of hR⟩, for_list (K := K) (a := R) (xs := ts.map V.ref) (fun i σ H' => ∃ (y5 y6 y7 : Option V), σ = [some (.ref S), some (.ref R), some (.int (j : Nat)), some (.int (k : Nat)), some (.int ((rows.take i).countP (befK (dOf prs) (pOf prs) j k) : Nat)), y5, y6, y7, none] ∧ Same H H') ⟨none, none, none, rfl, fun _ _ e => e⟩ (fun i σ H' _ ⟨_, _, _, _, sm⟩ => SqL.of (sm _ _ hR)) ?_ ?_⟩
    · rintro i x σ H' hx ⟨y5, y6, y7, rfl, sm⟩
      obtain ⟨t, g, u, rfl, hg, ht, nu, hu⟩ := hF.item hx
      have hgm := List.mem_of_getElem? hg
      obtain ⟨hg100, hgin⟩ := hin g hgm
      refine ⟨t, _, rfl, .inl (.inl (sm _ _ ht)), rfl, _, _, rfl, _, _, rfl, rfl, ?_⟩
      have etk : (rows.take (i + 1)).countP (befK (dOf prs) (pOf prs) j k) = (rows.take i).countP (befK (dOf prs) (pOf prs) j k) + if befK (dOf prs) (pOf prs) j k g = true then 1 else 0 := by
        rw [List.take_add_one, hg, Option.toList_some, List.countP_append, List.countP_singleton]
      have hu1 := sm _ _ hu
      refine ⟨_, rfl, u, rfl, ⟨_, SqL.of hu1⟩, fun D hD => lc_list (K := K) (a := u) (xs := g.2.map fun x => V.int (x : Nat)) (fun m H4 => Same H' H4 ∧ ∃ ms : List Nat, H4 D = some (.lst (ms.map fun x : Nat => V.int (x : Nat))) ∧ ms = againK (dOf prs) (pOf prs) g.1 (g.2.take m))
        ⟨same_upd hD, [], upd_same, rfl⟩ (fun m H4 _ ⟨s4, _⟩ => SqL.of (s4 _ _ hu1)) ?_ ?_⟩
      · rintro m x H4 hx ⟨s4, ms, eD, ems⟩
        have hm : m < g.2.length := by
          have z := (List.getElem?_eq_some_iff.mp hx).1
          rw [List.length_map] at z
          exact z
        rw [List.getElem?_map, List.getElem?_eq_getElem hm] at hx
        obtain rfl := (Option.some.inj hx).symm
        have hil := hgin _ (List.getElem_mem hm)
        have hr := List.getElem?_eq_getElem hil
        obtain ⟨t1, g1, ht1⟩ := hP.get hr _ rfl
        have ge : (ss.map V.ref)[g.2[m]]? = some (V.ref t1) := by
          rw [List.getElem?_map, g1]
          rfl
        have s04 := sm.trans s4
        have hS4 := s04 _ _ hS
        have ht4 := s04 _ _ ht1
        have etm : againK (dOf prs) (pOf prs) g.1 (g.2.take (m + 1)) = againK (dOf prs) (pOf prs) g.1 (g.2.take m) ++ if dOf prs g.2[m] + pOf prs g.2[m] ≤ g.1 then [g.2[m]] else [] := by rw [List.take_succ_eq_append_getElem hm, again_snoc]
        have ed := dOf_get hr
        have ep := pOf_get hr
        have hml : ms.length ≤ 100 := by
          rw [ems]
          unfold againK
          refine Nat.le_trans (List.length_filter_le _ _) ?_
          rw [List.length_take]
          omega
        refine ⟨rfl, _, rfl, _, rfl, _, rfl, S, _, g.2[m], _, rfl, rfl, SqL.of hS4, atI_nat ge, t1, _, 1, _, rfl, rfl, SqT.of ht4, rfl, _, _, rfl, rfl, _, rfl, _, rfl, S, _, g.2[m], _, rfl, rfl, SqL.of hS4, atI_nat ge, t1, _, 0, _, rfl, rfl, SqT.of ht4, rfl, _, _, rfl, rfl, _, rfl, ite2 (fun e => ?_) (fun e => ?_)⟩
        · have hge : dOf prs g.2[m] + pOf prs g.2[m] ≤ g.1 := by
            have z := of_decide_eq_true e
            rw [ed, ep]
            omega
          refine ⟨_, rfl, _, eD, ?_, fun c o z => ?_, ms ++ [g.2[m]], ?_, ?_⟩
          · rw [List.length_map]
            exact sizeLine_ge (by omega)
          · rw [upd_ne (ne_of_none z hD)]
            exact s4 _ _ z
          · rw [upd_same, List.map_append]
            rfl
          · rw [etm, if_pos hge, ← ems]
        · have hlt : ¬ dOf prs g.2[m] + pOf prs g.2[m] ≤ g.1 := by
            have z := of_decide_eq_false (eq_false_of_ne_true e)
            rw [ed, ep]
            omega
          refine ⟨s4, ms, eD, ?_⟩
          rw [etm, if_neg hlt, List.append_nil, ← ems]
      · rintro H4 ⟨s4, ms, eD, ems⟩
        rw [List.length_map, List.take_length] at ems
        have ebef : befK (dOf prs) (pOf prs) j k g = decide (j ∈ ms ∧ k ∈ ms ∧ ms.idxOf j < ms.idxOf k) := by rw [ems]; rfl
        have no : ¬ (j ∈ ms ∧ k ∈ ms ∧ ms.idxOf j < ms.idxOf k) → ∃ y5' y6' y7' : Option V, ([some (V.ref S), some (V.ref R), some (V.int (j : Nat)), some (V.int (k : Nat)), some (V.int ((rows.take i).countP (befK (dOf prs) (pOf prs) j k) : Nat)), some (V.int (g.1 : Nat)), some (V.ref u), some (V.ref D), none] : List (Option V)) = [some (.ref S), some (.ref R), some (.int (j : Nat)), some (.int (k : Nat)), some (.int ((rows.take (i + 1)).countP (befK (dOf prs) (pOf prs) j k) : Nat)), y5', y6', y7', none] ∧ Same H H4 := fun z => by
          refine ⟨some (.int (g.1 : Nat)), some (.ref u), some (.ref D), ?_, sm.trans s4⟩
          rw [etk, ebef, decide_eq_false z, if_neg Bool.false_ne_true, Nat.add_zero]
        refine ⟨_, rfl, _, rfl, D, _, rfl, .inl (SqL.of eD), rfl, flat_nats _, decide (j ∈ ms), ?_, ite2 (fun e1 => ?_) (fun e1 => ?_)⟩
        · show V.bl (inV (.int (j : Nat)) (ms.map fun y => V.int (y : Nat))) = _
          rw [inV_nat]
        · have h1 := of_decide_eq_true e1
          refine ⟨_, rfl, _, rfl, D, _, rfl, .inl (SqL.of eD), rfl, flat_nats _, decide (k ∈ ms), ?_, ite2 (fun e2 => ?_) (fun e2 => ?_)⟩
          · show V.bl (inV (.int (k : Nat)) (ms.map fun y => V.int (y : Nat))) = _
            rw [inV_nat]
          · have h2 := of_decide_eq_true e2
            obtain ⟨x1, x2⟩ := idx_mem h1
            obtain ⟨z1, z2⟩ := idx_mem h2
            refine ⟨_, rfl, .inl ⟨rfl, _, .inl (.inl eD)⟩, _, rfl, D, _, _, ms.idxOf j, _, rfl, rfl, SqL.of eD, rfl, flat_nats _, x1, beq_self_eq_true ((j : Nat) : Int), x2, ?_⟩
            refine ⟨_, rfl, .inl ⟨rfl, _, .inl (.inl eD)⟩, _, rfl, D, _, _, ms.idxOf k, _, rfl, rfl, SqL.of eD, rfl, flat_nats _, z1, beq_self_eq_true ((k : Nat) : Int), z2, _, _, rfl, rfl, _, rfl, ite2 (fun e3 => ?_) (fun e3 => ?_)⟩
            · have h3 : ms.idxOf j < ms.idxOf k := by
                have z := of_decide_eq_true e3
                omega
              refine ⟨_, rfl, _, 1, rfl, rfl, some (.int (g.1 : Nat)), some (.ref u), some (.ref D), ?_, sm.trans s4⟩
              rw [etk, ebef, decide_eq_true ⟨h1, h2, h3⟩, if_pos rfl]
              rfl
            · have h3 : ¬ ms.idxOf j < ms.idxOf k := by
                have z := of_decide_eq_false (eq_false_of_ne_true e3)
                omega
              exact no fun z => h3 z.2.2
          · have h2 := of_decide_eq_false (eq_false_of_ne_true e2)
            exact no fun z => h2 z.2.1
        · have h1 := of_decide_eq_false (eq_false_of_ne_true e1)
          exact iteF (no fun z => h1 z.1)
    · rintro σ H' ⟨y5, y6, y7, rfl, sm⟩
      refine ⟨_, rfl, ?_⟩
      have z := c H' sm
      rw [List.length_map, hF.len, List.take_length]
      exact z
end
/-! ### law k37: whether each tick's order is told, whether each two are counted -/
section
variable {P : Program} {w : World} {K : PySem.W.Frag} {mg : Str → Option Value} {base : Heap}
/-- the numbers of a row that fire for the first time -/
def badK (D P : Nat → Nat) (x : Nat) (ks : List Nat) : List Nat := ks.filter fun k => decide (¬ D k + P k ≤ x)
theorem bad_snoc {D P : Nat → Nat} {x k : Nat} {l : List Nat} : badK D P x (l ++ [k]) = badK D P x l ++ if D k + P k ≤ x then [] else [k] := by
  unfold badK
  rw [List.filter_append]
  by_cases c : D k + P k ≤ x
  · rw [if_pos c, List.filter_cons_of_neg (by rw [decide_eq_true_eq]; exact fun z => z c)]
    rfl
  · rw [if_neg c, List.filter_cons_of_pos (by exact decide_eq_true c)]
    rfl
theorem bad_iff {prs : List (Nat × Nat)} {b x : Nat} {ws : List Bool} {ks : List Nat} (hP : ∀ i, i < prs.length → 1 ≤ pOf prs i) (h : RowK (dOf prs) (pOf prs) prs.length b ws x ks) : badK (dOf prs) (pOf prs) x ks ≠ [] ↔ ∃ r ∈ prs, r.1 = x := by
  constructor
  · intro hne
    obtain ⟨i, hi⟩ := List.exists_mem_of_ne_nil _ hne
    obtain ⟨h1, h2⟩ := List.mem_filter.mp hi
    have h3 : ¬ dOf prs i + pOf prs i ≤ x := of_decide_eq_true h2
    obtain ⟨h4, h5, h6⟩ := (h.mem hP).mp h1
    have hg := List.getElem?_eq_getElem h4
    refine ⟨_, List.getElem_mem h4, ?_⟩
    rw [← dOf_get hg]
    have z : x - dOf prs i < pOf prs i := by omega
    rw [Nat.mod_eq_of_lt z] at h6
    omega
  · rintro ⟨r, hr, e⟩
    obtain ⟨i, hi⟩ := List.getElem?_of_mem hr
    have hl := (List.getElem?_eq_some_iff.mp hi).1
    have ed := dOf_get hi
    have hp := hP i hl
    have hm : i ∈ badK (dOf prs) (pOf prs) x ks := List.mem_filter.mpr ⟨(h.mem hP).mpr ⟨hl, by omega, by rw [ed, e, Nat.sub_self, Nat.zero_mod]⟩, decide_eq_true (by omega)⟩
    exact List.ne_nil_of_mem hm
def spOrders37 (K : PySem.W.Frag) : Sp := fun vs H Q _ => ∃ (b lo hi : Nat) (q S R s : Addr) (ws : List Bool) (ss ts : List Addr) (prs : List (Nat × Nat)) (rows : List (Nat × List Nat)), vs = [.int (b : Nat), .ref q, .ref S, .ref R] ∧ 2 ≤ b ∧ b ≤ 64 ∧ SqL K H q (ws.map lvV) ∧ ws ≠ [] ∧ ws.length ≤ 60 ∧ hi < 2 ^ 250 ∧
  H S = some (.lst (ss.map V.ref)) ∧ PrAt H ss prs ∧ prs ≠ [] ∧ prs.length ≤ 60 ∧ (∀ r ∈ prs, 1 ≤ r.2) ∧ (prs.map (·.2)).Nodup ∧ H R = some (.lst (ts.map V.ref)) ∧ FiredAt s H ts rows ∧ RowsK (dOf prs) (pOf prs) prs.length b ws lo hi rows ∧ ∀ H', Same H H' → Q (.bl true) H'
theorem ok_orders37 {f : Addr} {fd : FuncData} (F : Fun K "_law_orders_right" "_law_orders_right" s__law_orders_right f fd) (h1 : Has P w K mg base 7 "_law_order" ["_law_base_here", "_law_levels_here", "_law_pairs_here", "_law_moment"] [] (spOrder37 K)) :
    FnOk P w K mg base CX0 8 f fd ["_law_base_here", "_law_levels_here", "_law_pairs_here", "_law_rows"] (spOrders37 K) := by
  obtain ⟨f__law_order, fd__law_order, ds__law_order, G__law_order, m__law_order, k__law_order, b__law_order, v__law_order⟩ := h1
  refine F.ok sc__law_orders_right (fun vs H Q E h => ?_) (fun cdv A outer s0 H vs Q E hr h => ?_)
  · obtain ⟨b, lo, hi, q, S, R, s, ws, ss, ts, prs, rows, rfl, _⟩ := h
    rfl
  · obtain ⟨b, lo, hi, q, S, R, s, ws, ss, ts, prs, rows, rfl, hb, hb64, hL, hne, h60, hhi, hS, hP, hpne, hp60, hpr, hnd, hR, hF, hrows, c⟩ := h
    have hP1 : ∀ i, i < prs.length → 1 ≤ pOf prs i := fun i hi => by
      rw [pOf_get (List.getElem?_eq_getElem hi)]
      exact hpr _ (List.getElem_mem hi)
    refine ⟨_, (pss_cons (ps_for PassesOwn.never rfl (pi_list (pv 3)) (pg_tupK (K := K) (n := 2) rfl rfl (pgs_cons (pg_name (i := 4) sc__law_orders_right.nd rfl (.inr rfl)) (pgs_cons (pg_name (i := 5) sc__law_orders_right.nd rfl (.inl rfl)) pgs_nil)))
        (pss_cons (ps_set (i := 6) sc__law_orders_right.nd rfl (.inl rfl) (pv 5))
        (pss_cons (ps_if (pt_cmpR (op_neK (K := K) rfl hr.units) (pe_lc (own := [("_law_k", 7)]) (g := gName 7)  rfl sc__law_orders_right.nd (pi_list (pv 5)) (blkOk_by (own := [("_law_k", 7)]) (N := N__law_orders_right) (sc := defScope s__law_orders_right) (by decide +kernel)) (fun _ _ _ _ _ => (pg_name (i := 7) sc__law_orders_right.nd rfl (.inl rfl))) (fun _ _ _ _ _ => (pts_one (pt_cmpR op_lt (pe_op op_sub (pv 4) (pe_ix (ix_tupK (K := K) rfl) (pe_ix (ix_listK (K := K) rfl) (pv 2) (pv 7) (fun _ _ => rfl)) pe_int (fun _ _ => rfl))) (pe_ix (ix_tupK (K := K) rfl) (pe_ix (ix_listK (K := K) rfl) (pv 2) (pv 7) (fun _ _ => rfl)) pe_int (fun _ _ => rfl)) (nomark _)))) (fun _ _ _ _ _ => (pv 7))) (pe_lst pa_nil) (nomark _))
          (pss_one (ps_set (i := 6) sc__law_orders_right.nd rfl (.inl rfl) pe_non))
          pss_nil)
        (pss_one (ps_if (pt_cmpR (op_neK (K := K) rfl hr.units) (pe_call G__law_order hr (by rfl) m__law_order k__law_order b__law_order v__law_order pass0 (pa_cons (pv 0) (pa_cons (pv 1) (pa_cons (pv 2) (pa_cons (pv 4) pa_nil))))) (pv 6) (nomark _))
          (pss_one (ps_ret pe_bl))
          pss_nil)))))
      (pss_one (ps_ret pe_bl))), ?_⟩
    refine ⟨_, rfl, R, rfl, ⟨_, SqL.of hR⟩, for_list (K := K) (a := R) (xs := ts.map V.ref) (fun i σ H' => ∃ (y4 y5 y6 : Option V), σ = [some (.int (b : Nat)), some (.ref q), some (.ref S), some (.ref R), y4, y5, y6, none] ∧ Same H H') ⟨none, none, none, rfl, fun _ _ e => e⟩ (fun i σ H' _ ⟨_, _, _, _, sm⟩ => SqL.of (sm _ _ hR)) ?_ ?_⟩
    · rintro i x σ H' hx ⟨y4, y5, y6, rfl, sm⟩
      obtain ⟨t, g, u, rfl, hg, ht, nu, hu⟩ := hF.item hx
      have hgm := List.mem_of_getElem? hg
      obtain ⟨hlo, hhi2, hrow⟩ := hrows.row g hgm
      have hlen : g.2.length ≤ 60 := by
        have z := nodup_le g.2 (List.range prs.length) hrow.nd fun i hi => List.mem_range.mpr ((hrow.mem hP1).mp hi).1
        rw [List.length_range] at z
        omega
      refine ⟨t, _, rfl, .inl (.inl (sm _ _ ht)), rfl, _, _, rfl, _, _, rfl, rfl, ?_⟩
      have hu1 := sm _ _ hu
      refine ⟨_, rfl, ?_⟩
      refine ⟨_, rfl, u, rfl, ⟨_, SqL.of hu1⟩, fun D hD => lc_list (K := K) (a := u) (xs := g.2.map fun x => V.int (x : Nat)) (fun m H4 => Same H' H4 ∧ ∃ ms : List Nat, H4 D = some (.lst (ms.map fun x : Nat => V.int (x : Nat))) ∧ ms = badK (dOf prs) (pOf prs) g.1 (g.2.take m))
        ⟨same_upd hD, [], upd_same, rfl⟩ (fun m H4 _ ⟨s4, _⟩ => SqL.of (s4 _ _ hu1)) ?_ ?_⟩
      · rintro m x H4 hx ⟨s4, ms, eD, ems⟩
        have hm : m < g.2.length := by
          have z := (List.getElem?_eq_some_iff.mp hx).1
          rw [List.length_map] at z
          exact z
        rw [List.getElem?_map, List.getElem?_eq_getElem hm] at hx
        obtain rfl := (Option.some.inj hx).symm
        have hil := ((hrow.mem hP1).mp (List.getElem_mem hm)).1
        have hr := List.getElem?_eq_getElem hil
        obtain ⟨t1, g1, ht1⟩ := hP.get hr _ rfl
        have ge : (ss.map V.ref)[g.2[m]]? = some (V.ref t1) := by
          rw [List.getElem?_map, g1]
          rfl
        have s04 := sm.trans s4
        have hS4 := s04 _ _ hS
        have ht4 := s04 _ _ ht1
        have etm : badK (dOf prs) (pOf prs) g.1 (g.2.take (m + 1)) = badK (dOf prs) (pOf prs) g.1 (g.2.take m) ++ if dOf prs g.2[m] + pOf prs g.2[m] ≤ g.1 then [] else [g.2[m]] := by rw [List.take_succ_eq_append_getElem hm, bad_snoc]
        have ed := dOf_get hr
        have ep := pOf_get hr
        have hml : ms.length ≤ 100 := by
          rw [ems]
          unfold badK
          refine Nat.le_trans (List.length_filter_le _ _) ?_
          rw [List.length_take]
          omega
        refine ⟨rfl, _, rfl, _, rfl, _, rfl, S, _, g.2[m], _, rfl, rfl, SqL.of hS4, atI_nat ge, t1, _, 1, _, rfl, rfl, SqT.of ht4, rfl, _, _, rfl, rfl, _, rfl, _, rfl, S, _, g.2[m], _, rfl, rfl, SqL.of hS4, atI_nat ge, t1, _, 0, _, rfl, rfl, SqT.of ht4, rfl, _, _, rfl, rfl, _, rfl, ite2 (fun e => ?_) (fun e => ?_)⟩
        · have hlt : ¬ dOf prs g.2[m] + pOf prs g.2[m] ≤ g.1 := by
            have z := of_decide_eq_true e
            rw [ed, ep]
            omega
          refine ⟨_, rfl, _, eD, ?_, fun c o z => ?_, ms ++ [g.2[m]], ?_, ?_⟩
          · rw [List.length_map]
            exact sizeLine_ge (by omega)
          · rw [upd_ne (ne_of_none z hD)]
            exact s4 _ _ z
          · rw [upd_same, List.map_append]
            rfl
          · rw [etm, if_neg hlt, ← ems]
        · have hge : dOf prs g.2[m] + pOf prs g.2[m] ≤ g.1 := by
            have z := of_decide_eq_false (eq_false_of_ne_true e)
            rw [ed, ep]
            omega
          refine ⟨s4, ms, eD, ?_⟩
          rw [etm, if_pos hge, List.append_nil, ← ems]
      · rintro H4 ⟨s4, ms, eD, ems⟩
        rw [List.length_map, List.take_length] at ems
        refine ⟨by simp [sizeLine_eq], fun z hz => ?_⟩
        have s5 := same_upd (o := .lst []) hz
        have s05 := (sm.trans s4).trans s5
        have hP5 := hP.frame (H' := upd H4 z (.lst [])) fun t xs e => s05 _ _ e
        have hiff := bad_iff hP1 hrow
        rw [← ems] at hiff
        refine ⟨.list (ms.map fun x => PyData.int (x : Nat)), .list [], .lst (SqL.of (s5 _ _ eD)) (dp_nats _), .lst (SqL.of upd_same) .nil, nats_shaped ms, rfl, ?_⟩
        cases hms : ms with
        | nil =>
          refine ⟨false, rfl, iteF ?_⟩
          have hno : ∀ r ∈ prs, r.1 ≠ g.1 := fun r hr e => hiff.mpr ⟨r, hr, e⟩ hms
          refine ⟨_, rfl, _, rfl, _, rfl, _, rfl, b, g.1, q, S, ws, ss, prs, rfl, hb, hb64, s05.seq hL, hne, h60, by omega, s05 _ _ hS, hP5, hpne, hp60, hpr, hnd, fun ⟨r, hr, e⟩ => absurd e (hno r hr), fun _ H6 p zs s6 hp hz2 hzs ep => ?_⟩
          have hag : ∀ k ∈ g.2, dOf prs k + pOf prs k ≤ g.1 := fun k hk => by
            refine Decidable.byContradiction fun no => ?_
            have z : k ∈ ms := by
              rw [ems]
              exact List.mem_filter.mpr ⟨hk, decide_eq_true no⟩
            rw [hms] at z
            exact absurd z List.not_mem_nil
          obtain ⟨t0, u0, msi, hI, hu0, hge0, ek⟩ := hrow
          have eo := per_many (b := b) (ws := ws) hnd hP1 hI hu0 hge0 (fun j hj => hag j (by rw [ek]; exact hj)) hz2 hzs
          rw [← eo, ← ek] at ep
          have hu6 := s6 _ _ (s5 _ _ (s4 _ _ hu1))
          refine ⟨_, rfl, .list (g.2.map fun x => PyData.int (x : Nat)), .list (g.2.map fun x => PyData.int (x : Nat)), .lst (SqL.of ep) (dp_nats _), .lst (SqL.of hu6) (dp_nats _), nats_shaped _, nats_shaped _, false, neq_refl (nats_lay _), iteF ⟨_, _, _, rfl, s05.trans s6⟩⟩
        | cons y ys =>
          refine ⟨true, rfl, iteT ?_⟩
          have hyes := hiff.mp (by rw [hms]; exact List.cons_ne_nil _ _)
          refine ⟨_, rfl, _, rfl, _, rfl, _, rfl, b, g.1, q, S, ws, ss, prs, rfl, hb, hb64, s05.seq hL, hne, h60, by omega, s05 _ _ hS, hP5, hpne, hp60, hpr, hnd, fun _ H6 s6 => ?_, fun no => ?_⟩
          · exact ⟨_, rfl, .none, .none, .non, .non, rfl, rfl, false, rfl, iteF ⟨_, _, _, rfl, s05.trans s6⟩⟩
          · obtain ⟨r, hr, e⟩ := hyes
            exact absurd e (no r hr)
    · rintro σ H' ⟨y4, y5, y6, rfl, sm⟩
      exact c H' sm
end
/-! ### law k37: whether each two are counted -/
theorem ceil_le {z e : Nat} (he : 1 ≤ e) : (z + (e - 1)) / e ≤ z := by
  cases z with
  | zero => rw [Nat.zero_add, Nat.div_eq_of_lt (show e - 1 < e by omega)]; exact Nat.le_refl _
  | succ z =>
    refine Nat.div_le_of_le_mul ?_
    rw [Nat.mul_add, Nat.mul_one]
    have : z ≤ e * z := Nat.le_mul_of_pos_left z he
    omega
section
variable {P : Program} {w : World} {K : PySem.W.Frag} {mg : Str → Option Value} {base : Heap}
def spCounts37 (K : PySem.W.Frag) : Sp := fun vs H Q _ => ∃ (b lo hi : Nat) (q S R s : Addr) (ws : List Bool) (ss ts : List Addr) (prs : List (Nat × Nat)) (rows : List (Nat × List Nat)), vs = [.int (b : Nat), .ref q, .ref S, .ref R, .int (lo : Nat), .int (hi : Nat)] ∧ 2 ≤ b ∧ b ≤ 64 ∧ SqL K H q (ws.map lvV) ∧ ws ≠ [] ∧ ws.length ≤ 60 ∧ hi < 2 ^ 210 ∧ lo ≤ hi ∧ hi ≤ lo + 1000 ∧
  H S = some (.lst (ss.map V.ref)) ∧ PrAt H ss prs ∧ prs.length ≤ 60 ∧ (∀ r ∈ prs, r.1 < 2 ^ 199 ∧ 1 ≤ r.2 ∧ r.2 ≤ 4112) ∧ (prs.map (·.2)).Nodup ∧ H R = some (.lst (ts.map V.ref)) ∧ FiredAt s H ts rows ∧ rows.length ≤ 100000 ∧ RowsK (dOf prs) (pOf prs) prs.length b ws lo hi rows ∧ ∀ H', Same H H' → Q (.bl true) H'
theorem ok_counts37 {f : Addr} {fd : FuncData} (F : Fun K "_law_counts_right" "_law_counts_right" s__law_counts_right f fd) (T : Tx K mg) (h1 : Has P w K mg base 6 "times_first" ["base", "levels", "one", "other", "first", "behind"] [] (spTimes K))
    (h2 : Has P w K mg base 1 "_law_ahead" ["_law_pairs_here", "_law_rows", "_law_j", "_law_k"] [] spAhead37) : FnOk P w K mg base CX0 7 f fd ["_law_base_here", "_law_levels_here", "_law_pairs_here", "_law_rows", "_law_begin", "_law_end"] (spCounts37 K) := by
  obtain ⟨f_times_first, fd_times_first, ds_times_first, G_times_first, m_times_first, k_times_first, b_times_first, v_times_first⟩ := h1
  obtain ⟨f__law_ahead, fd__law_ahead, ds__law_ahead, G__law_ahead, m__law_ahead, k__law_ahead, b__law_ahead, v__law_ahead⟩ := h2
  refine F.ok sc__law_counts_right (fun vs H Q E h => ?_) (fun cdv A outer s0 H vs Q E hr h => ?_)
  · obtain ⟨b, lo, hi, q, S, R, s, ws, ss, ts, prs, rows, rfl, _⟩ := h
    rfl
  · obtain ⟨b, lo, hi, q, S, R, s, ws, ss, ts, prs, rows, rfl, hb, hb64, hL, hne, h60, hhi, hlh, hspan, hS, hP, hp60, hpr, hnd, hR, hF, hrl, hrows, c⟩ := h
    have hP1 : ∀ i, i < prs.length → 1 ≤ pOf prs i := fun i hi => by
      rw [pOf_get (List.getElem?_eq_getElem hi)]
      exact (hpr _ (List.getElem_mem hi)).2.1
    have hsl := hP.len
    refine ⟨_, (pss_cons (ps_for PassesOwn.never rfl (pi_range1 (by rfl) T.b_range (pa_cons (pe_callB (lenK (K := K) rfl) (by rfl) T.b_len PySem.boot_len (pa_cons (pv 2) pa_nil)) pa_nil)) (pg_name (i := 6) sc__law_counts_right.nd rfl (.inl rfl))
        (pss_one (ps_for PassesOwn.never rfl (pi_range1 (by rfl) T.b_range (pa_cons (pe_callB (lenK (K := K) rfl) (by rfl) T.b_len PySem.boot_len (pa_cons (pv 2) pa_nil)) pa_nil)) (pg_name (i := 7) sc__law_counts_right.nd rfl (.inl rfl))
          (pss_one (ps_if (pt_cmpR op_ne (pv 6) (pv 7) (nomark _))
            (pss_cons (ps_set (i := 8) sc__law_counts_right.nd rfl (.inl rfl) (pe_call G_times_first hr (by rfl) m_times_first k_times_first b_times_first v_times_first pass0 (pa_cons (pv 0) (pa_cons (pv 1) (pa_cons (pe_ix (ix_listK (K := K) rfl) (pv 2) (pv 6) (fun _ _ => rfl)) (pa_cons (pe_ix (ix_listK (K := K) rfl) (pv 2) (pv 7) (fun _ _ => rfl)) (pa_cons (pe_op op_add (pv 4) pe_int) (pa_cons (pe_op op_add (pv 5) pe_int) pa_nil))))))))
            (pss_one (ps_if (pt_cmpR op_ne (pv 8) (pe_call G__law_ahead (hr.mono (by decide)) (by rfl) m__law_ahead k__law_ahead b__law_ahead v__law_ahead pass0 (pa_cons (pv 2) (pa_cons (pv 3) (pa_cons (pv 6) (pa_cons (pv 7) pa_nil))))) (nomark _))
              (pss_one (ps_ret pe_bl))
              pss_nil)))
            pss_nil)))))
      (pss_one (ps_ret pe_bl))), ?_⟩
    refine ⟨.ref S, rfl, S, _, rfl, .inl (SqL.of hS), _, rfl, by rw [List.length_map]; omega, by rw [List.length_map]; omega, for_range (Pv := fun i σ H' => Same H H' ∧ ∃ y6 y7 y8 : Option V, σ = [some (.int (b : Nat)), some (.ref q), some (.ref S), some (.ref R), some (.int (lo : Nat)), some (.int (hi : Nat)), y6, y7, y8]) ⟨fun _ _ e => e, none, none, none, rfl⟩ ?_ ?_⟩
    · rintro j σ H1 hj ⟨s1, y6, y7, y8, rfl⟩
      have hj' : j < prs.length := by
        rw [List.length_map] at hj
        omega
      rw [Int.zero_add]
      refine ⟨.ref S, rfl, S, _, rfl, .inl (SqL.of (s1 _ _ hS)), _, rfl, by rw [List.length_map]; omega, by rw [List.length_map]; omega, for_range (Pv := fun i σ H' => Same H H' ∧ ∃ y7 y8 : Option V, σ = [some (.int (b : Nat)), some (.ref q), some (.ref S), some (.ref R), some (.int (lo : Nat)), some (.int (hi : Nat)), some (.int (j : Int)), y7, y8]) ⟨s1, _, _, rfl⟩ ?_ ?_⟩
      · rintro k σ H2 hk ⟨s2, y7, y8, rfl⟩
        have hk' : k < prs.length := by
          rw [List.length_map] at hk
          omega
        rw [Int.zero_add]
        by_cases hjk : j = k
        · refine ⟨_, rfl, _, rfl, rfl, false, nF (by rw [hjk]), iteF ⟨s2, _, _, rfl⟩⟩
        refine ⟨_, rfl, _, rfl, rfl, true, nT (vN hjk), iteT ?_⟩
        have g1 := List.getElem?_eq_getElem hj'
        have g2 := List.getElem?_eq_getElem hk'
        have hP2 := hP.frame (H' := H2) fun t xs e => s2 _ _ e
        obtain ⟨t1, et1, ht1⟩ := hP2.get g1 _ rfl
        obtain ⟨t2, et2, ht2⟩ := hP2.get g2 _ rfl
        have ge : ∀ {i : Nat} {t : Addr}, ss[i]? = some t → (ss.map V.ref)[i]? = some (V.ref t) := fun {i t} e => by
          rw [List.getElem?_map, e]
          rfl
        have b1 := hpr _ (List.getElem_mem hj')
        have b2 := hpr _ (List.getElem_mem hk')
        have hpq : prs[j].2 ≠ prs[k].2 := fun e => hjk (per_uniq hnd hj' hk' (by rw [pOf_get g1, pOf_get g2]; exact e))
        have hS2 := s2 _ _ hS
        refine ⟨_, rfl, _, rfl, _, rfl, _, rfl, S, _, j, _, rfl, rfl, SqL.of hS2, atI_nat (ge et1), _, rfl, _, rfl, S, _, k, _, rfl, rfl, SqL.of hS2, atI_nat (ge et2), _, rfl, (lo : Nat), 1, rfl, rfl, _, rfl, (hi : Nat), 1, rfl, rfl, b, prs[j].1, prs[j].2, prs[k].1, prs[k].2, lo + 1, hi + 1, q, t1, t2, ws, rfl, hb, hb64, s2.seq hL, hne, h60, ht1, ht2, ⟨b1.2.1, by omega⟩, ⟨b2.2.1, by omega⟩, hpq, by omega, by omega, by omega, by omega, fun f e hm => ?_, fun H3 s3 => ?_⟩
        · have he : 1 ≤ e := by
            rw [hm.1]
            exact lcm_pos b1.2.1 b2.2.1
          have z1 := meetM_ge (f := f) (x := lo + 1) he
          have z2 : meetN (meetM f e (lo + 1)) e (hi + 1) ≤ hi + 1 - meetM f e (lo + 1) := ceil_le he
          omega
        have s03 := s2.trans s3
        refine ⟨_, rfl, _, rfl, _, rfl, _, rfl, _, rfl, S, R, s, ss, ts, prs, rows, j, k, rfl, s03 _ _ hS, hP.frame (H' := H3) (fun t xs e => s03 _ _ e), s03 _ _ hR, hF.same s03, hrl, fun f hf => ⟨?_, fun i hi => ?_⟩, fun H4 s4 => ?_⟩
        · have z := nodup_le f.2 (List.range prs.length) (hrows.row f hf).2.2.nd fun i hi => List.mem_range.mpr (((hrows.row f hf).2.2.mem hP1).mp hi).1
          rw [List.length_range] at z
          omega
        · exact (((hrows.row f hf).2.2.mem hP1).mp hi).1
        have ne : ∀ i k, i < prs.length → k < prs.length → pOf prs i = pOf prs k → i = k := fun i k hi hk e => per_uniq hnd hi hk e
        have ec := hrows.count hlh hb hP1 ne hj' hk' hjk
        refine ⟨rfl, false, nF ?_, iteF ⟨s03.trans s4, _, _, rfl⟩⟩
        rw [ec, dOf_get g1, dOf_get g2, pOf_get g1, pOf_get g2]
        have e9 : hi + 1 - (lo + 1) = hi - lo := by omega
        rw [e9]
      · rintro σ H2 ⟨s2, y7, y8, rfl⟩
        exact ⟨s2, _, _, _, rfl⟩
    · rintro σ H1 ⟨s1, y6, y7, y8, rfl⟩
      exact c H1 s1
end
/-! ### a wheel in the heap -/
def wfl (b : Nat) (q : Addr) (t f : Nat) (l : Addr) : List (Str × V) := [("base", .int (b : Nat)), ("words", .ref q), ("tick", .int (t : Nat)), ("following", .int (f : Nat)), ("live", .ref l)]
theorem ne_bw : ¬ (("base" : Str) = "words") := by decide +kernel
theorem ne_bt : ¬ (("base" : Str) = "tick") := by decide +kernel
theorem ne_bf : ¬ (("base" : Str) = "following") := by decide +kernel
theorem ne_bl : ¬ (("base" : Str) = "live") := by decide +kernel
theorem ne_wt : ¬ (("words" : Str) = "tick") := by decide +kernel
theorem ne_wf : ¬ (("words" : Str) = "following") := by decide +kernel
theorem ne_wl : ¬ (("words" : Str) = "live") := by decide +kernel
theorem ne_tf : ¬ (("tick" : Str) = "following") := by decide +kernel
theorem ne_tl : ¬ (("tick" : Str) = "live") := by decide +kernel
theorem ne_fl : ¬ (("following" : Str) = "live") := by decide +kernel
theorem lk_hit {k : Str} {v : V} {r : List (Str × V)} : List.lookup k ((k, v) :: r) = some v := by simp [List.lookup]
theorem lk_miss {k g : Str} {v : V} {r : List (Str × V)} (h : ¬ g = k) : List.lookup k ((g, v) :: r) = List.lookup k r := by
  have e : (k == g) = false := by simpa using fun z : k = g => h z.symm
  rw [List.lookup, e]
theorem pt_hit {k : Str} {v x : V} {r : List (Str × V)} : putF k v ((k, x) :: r) = (k, v) :: r := if_pos rfl
theorem pt_miss {k g : Str} {v x : V} {r : List (Str × V)} (h : ¬ g = k) : putF k v ((g, x) :: r) = (g, x) :: putF k v r := if_neg h
theorem pt_nil {k : Str} {v : V} : putF k v [] = [(k, v)] := rfl
section
variable {b : Nat} {q : Addr} {t f : Nat} {l : Addr}
theorem wf_b : (wfl b q t f l).lookup ("base" : Str) = some (.int (b : Nat)) := lk_hit
theorem wf_w : (wfl b q t f l).lookup ("words" : Str) = some (.ref q) := (lk_miss ne_bw).trans lk_hit
theorem wf_t : (wfl b q t f l).lookup ("tick" : Str) = some (.int (t : Nat)) := (lk_miss ne_bt).trans ((lk_miss ne_wt).trans lk_hit)
theorem wf_f : (wfl b q t f l).lookup ("following" : Str) = some (.int (f : Nat)) := (lk_miss ne_bf).trans ((lk_miss ne_wf).trans ((lk_miss ne_tf).trans lk_hit))
theorem wf_l : (wfl b q t f l).lookup ("live" : Str) = some (.ref l) := (lk_miss ne_bl).trans ((lk_miss ne_wl).trans ((lk_miss ne_tl).trans ((lk_miss ne_fl).trans lk_hit)))
theorem wf_no {m : Str} (h1 : ¬ ("base" : Str) = m) (h2 : ¬ ("words" : Str) = m) (h3 : ¬ ("tick" : Str) = m) (h4 : ¬ ("following" : Str) = m) (h5 : ¬ ("live" : Str) = m) : (wfl b q t f l).lookup m = none :=
  (lk_miss h1).trans ((lk_miss h2).trans ((lk_miss h3).trans ((lk_miss h4).trans ((lk_miss h5).trans rfl))))
theorem wf_pt {t' : Nat} : putF "tick" (.int (t' : Nat)) (wfl b q t f l) = wfl b q t' f l := by
  unfold wfl
  rw [pt_miss ne_bt, pt_miss ne_wt, pt_hit]
theorem wf_pf {f' : Nat} : putF "following" (.int (f' : Nat)) (wfl b q t f l) = wfl b q t f' l := by
  unfold wfl
  rw [pt_miss ne_bf, pt_miss ne_wf, pt_miss ne_tf, pt_hit]
theorem wf_pl {l' : Addr} : putF "live" (.ref l') (wfl b q t f l) = wfl b q t f l' := by
  unfold wfl
  rw [pt_miss ne_bl, pt_miss ne_wl, pt_miss ne_tl, pt_miss ne_fl, pt_hit]
end
structure WheelAt (C : Addr) (H : Hp) (p q l : Addr) (W : WS) : Prop where
  ins : ∃ dx, H p = some (.ins C dx (wfl W.b q W.tick W.fol l))
  words : H q = some (.lst (W.ws.map lvV))
  live : ∃ kvs, H l = some (.dK kvs) ∧ LiveK H kvs W.live
/-- all but the wheel (its object p, its dict l) stands as it was; its dict is the old one or a new one -/
structure Wk (p l : Addr) (H H' : Hp) (l' : Addr) : Prop where
  keep : ∀ c o, c ≠ p → c ≠ l → H c = some o → H' c = some o
  new : l' = l ∨ H l' = none
theorem WheelAt.same {C : Addr} {H H' : Hp} {p q l : Addr} {W : WS} (s : Same H H') (w : WheelAt C H p q l W) : WheelAt C H' p q l W := by
  obtain ⟨dx, h⟩ := w.ins
  obtain ⟨kvs, h2, L⟩ := w.live
  exact ⟨⟨dx, s _ _ h⟩, s _ _ w.words, ⟨kvs, s _ _ h2, L.same s⟩⟩
theorem WheelAt.frame {C : Addr} {H H' : Hp} {p q l a : Addr} {W : WS} {xs : List V} (w : WheelAt C H p q l W) (ha : H a = some (.lst xs)) (hq : a ≠ q) (s : ∀ c o, c ≠ a → H c = some o → H' c = some o) : WheelAt C H' p q l W := by
  obtain ⟨dx, h⟩ := w.ins
  obtain ⟨kvs, h2, L⟩ := w.live
  refine ⟨⟨dx, s _ _ (ne_of h ha (by intro z; cases z)) h⟩, s _ _ (Ne.symm hq) w.words, ⟨kvs, s _ _ (ne_of h2 ha (by intro z; cases z)) h2, L.frame fun t m e => s _ _ (ne_of e ha (by intro z; cases z)) e⟩⟩
structure TxW (K : PySem.W.Frag) (mg : Str → Option Value) (C : Addr) : Prop where
  cl : Cls K C
  nB : NoAttr K C "base"
  nW : NoAttr K C "words"
  nT : NoAttr K C "tick"
  nF : NoAttr K C "following"
  nL : NoAttr K C "live"
  mgC : mg "Wheel" = some (.ref C)
section
variable {P : Program} {w : World} {K : PySem.W.Frag} {mg : Str → Option Value} {base : Heap}
/-- a method that keeps its promise -/
def HasM (P : Program) (w : World) (K : PySem.W.Frag) (mg : Str → Option Value) (base : Heap) (k : Nat) (C : Addr) (m : Str) (ps : List Str) (dvs : List V) (sp : Sp) : Prop :=
  ∃ (f : Addr) (fd : FuncData) (ds : List Value), FnOk P w K mg base CX0 k f fd ps sp ∧ Meth K C m f ∧ Binds K fd ps ds ∧ Vals dvs ds
end
section
variable {P : Program} {w : World} {K : PySem.W.Frag} {mg : Str → Option Value} {base : Heap}
def trimN (ws : List Bool) : Nat → Nat
  | 0 => 0
  | n + 1 => if 1 ≤ n ∧ ws[n]? = ws[n - 1]? then trimN ws n else n + 1
def trimW (ws : List Bool) : List Bool := ws.take (trimN ws ws.length)
theorem trimN_le (ws : List Bool) : ∀ n, trimN ws n ≤ n
  | 0 => Nat.le_refl _
  | n + 1 => by
    unfold trimN
    split
    · exact Nat.le_succ_of_le (trimN_le ws n)
    · exact Nat.le_refl _
theorem trimN_pos (ws : List Bool) : ∀ n, 1 ≤ n → 1 ≤ trimN ws n
  | 0, h => h
  | n + 1, _ => by
    unfold trimN
    split
    · rename_i h
      exact trimN_pos ws n h.1
    · omega
theorem trim_ne {ws : List Bool} (h : ws ≠ []) : trimW ws ≠ [] := by
  have hp : 0 < ws.length := List.length_pos_iff.mpr h
  have z := trimN_pos ws ws.length hp
  intro e
  have e2 := congrArg List.length e
  unfold trimW at e2
  rw [List.length_take] at e2
  have e3 : ([] : List Bool).length = 0 := rfl
  omega
theorem trim_len (ws : List Bool) : (trimW ws).length ≤ ws.length := by
  unfold trimW
  rw [List.length_take]
  omega
def spRepeats (K : PySem.W.Frag) : Sp := fun vs H Q _ => ∃ (q : Addr) (ws : List Bool), vs = [.ref q] ∧ SqL K H q (ws.map lvV) ∧ ws ≠ [] ∧ ws.length ≤ 60 ∧ ∀ H' p, Same H H' → H p = none → H' p = some (.lst ((trimW ws).map lvV)) → Q (.ref p) H'
theorem lv_inj {a b : Bool} : lvV a = lvV b ↔ a = b := by
  cases a <;> cases b <;> decide
theorem ok_repeats {f : Addr} {fd : FuncData} (F : Fun K "without_repeats" "without_repeats" s_without_repeats f fd) (T : Tx K mg) : FnOk P w K mg base CX0 1 f fd ["levels"] (spRepeats K) := by
  refine F.ok sc_without_repeats (fun vs H Q E h => ?_) (fun cdv A outer s H vs Q E hr h => ?_)
  · obtain ⟨q, ws, rfl, _⟩ := h
    rfl
  · obtain ⟨q, ws, rfl, hL, hne, h60, c⟩ := h
    refine ⟨_, (pss_cons (ps_set (i := 1) sc_without_repeats.nd rfl (.inl rfl) (pe_callB (lenK (K := K) rfl) (by rfl) T.b_len PySem.boot_len (pa_cons (pv 0) pa_nil)))
      (pss_cons (ps_while PassesOwn.never (PW.pt (pw_and (pt_cmpR op_gt (pv 1) pe_int (nomark _)) (pw_and1 (pt_cmpR op_eq (pe_ix (ix_listK (K := K) rfl) (pv 0) (pe_op op_subN (pv 1) pe_int) (fun _ _ => rfl)) (pe_ix (ix_listK (K := K) rfl) (pv 0) (pe_op op_subN (pv 1) pe_int) (fun _ _ => rfl)) (nomark _)))))
        (pss_one (ps_aug (i := 1) sc_without_repeats.nd rfl (.inl rfl) pe_int ip_sub)))
      (pss_one (ps_ret (pe_slice (sl_listK (K := K) rfl) (pv 0) po_none (po_some (pv 1))))))), ?_⟩
    refine ⟨.ref q, rfl, q, _, rfl, .inl hL, ?_⟩
    refine while_by (fun σ H' => ∃ n : Nat, σ = [some (.ref q), some (.int (n : Nat))] ∧ H' = H ∧ 1 ≤ n ∧ n ≤ ws.length ∧ trimN ws ws.length = trimN ws n) (fun σ _ => slotInt σ 1) ⟨ws.length, by rw [List.length_map]; rfl, rfl, List.length_pos_iff.mpr hne, Nat.le_refl _, rfl⟩ ?_ ?_
    · rintro σ H' ⟨n, rfl, rfl, h1, hn, et⟩
      have fin : n = trimN ws n → tRet (tSl (rSlL K) (tVar 0) tNoPart (tPart (tVar 1))) { nx := fun _ H' => Q .non H', rt := Q } [some (.ref q), some (.int (n : Nat))] H' := fun e => by
        refine ⟨_, rfl, _, rfl, _, rfl, q, _, rfl, hL, fun p hp => ?_⟩
        refine c _ p (same_upd hp) hp ?_
        rw [upd_same]
        have ec : cutV (ws.map lvV) none (some ((n : Nat) : Int)) = (trimW ws).map lvV := by
          unfold trimW cutV
          rw [HT.sIx_none, HT.sIx_nat, List.drop_zero, Nat.sub_zero, List.length_map, Nat.min_eq_left hn, List.map_take, et, ← e]
        rw [ec]
      obtain ⟨n, rfl⟩ : ∃ n', n = n' + 1 := ⟨n - 1, by omega⟩
      by_cases h2 : 1 < n + 1
      · have g1 : (ws.map lvV)[n]? = some (lvV (ws[n]'(by omega))) := by
          rw [List.getElem?_map, List.getElem?_eq_getElem]
          rfl
        have g2 : (ws.map lvV)[n - 1]? = some (lvV (ws[n - 1]'(by omega))) := by
          rw [List.getElem?_map, List.getElem?_eq_getElem]
          rfl
        refine ⟨_, rfl, _, _, rfl, rfl, true, dT (by omega), iteT ?_⟩
        refine ⟨_, rfl, _, rfl, n + 1, 1, rfl, rfl, Nat.le_add_left 1 n, q, _, _, _, rfl, rfl, hL, atI_nat (j := n) g1, _, rfl, _, rfl, n + 1, 2, rfl, rfl, (by show 2 ≤ n + 1; omega), q, _, _, _, rfl, rfl, hL, atI_nat (j := n - 1) g2, ?_, ?_⟩
        · cases ws[n]'(by omega) <;> cases ws[n - 1]'(by omega) <;> rfl
        · by_cases e : ws[n]'(by omega) = ws[n - 1]'(by omega)
          · have et2 : trimN ws (n + 1) = trimN ws n := by
              rw [trimN, if_pos]
              refine ⟨by omega, ?_⟩
              rw [List.getElem?_eq_getElem (by omega : n < ws.length), List.getElem?_eq_getElem (by omega : n - 1 < ws.length), e]
            refine ⟨true, dT (lv_inj.mpr e), iteT ⟨_, rfl, _, _, rfl, rfl, ⟨n, ?_, rfl, by omega, by omega, by rw [et, et2]⟩, ?_⟩⟩
            · show [some (V.ref q), some (V.int (((n + 1 : Nat) : Int) - 1))] = _
              rw [show ((n + 1 : Nat) : Int) - 1 = (n : Int) by omega]
            · show (((n + 1 : Nat) : Int) - 1).toNat < (((n + 1 : Nat) : Int)).toNat
              omega
          · refine ⟨false, dF (fun z => e (lv_inj.mp z)), iteF ?_⟩
            refine fin ?_
            rw [trimN, if_neg]
            rintro ⟨_, z⟩
            rw [List.getElem?_eq_getElem (by omega : n < ws.length), List.getElem?_eq_getElem (by omega : n - 1 < ws.length)] at z
            exact e (Option.some.inj z)
      · refine ⟨_, rfl, _, _, rfl, rfl, false, dF (by omega), iteF (iteF ?_)⟩
        refine fin ?_
        rw [trimN, if_neg]
        rintro ⟨z, _⟩
        omega
    · rintro σ H' Q1 Q2 h ⟨x, hx, i, j, e1, e2, k, e, z⟩
      refine ⟨x, hx, i, j, e1, e2, k, e, ?_⟩
      cases k with
      | false => exact iteF (h _ _ (by rw [if_neg Bool.false_ne_true] at z; exact z))
      | true =>
        rw [if_pos rfl] at z
        refine iteT ?_
        obtain ⟨x1, hx1, x2, hx2, a1, b1, e3, e4, c1, p1, i1, j1, v1, e5, e6, hs1, g1, y1, hy1, y2, hy2, a2, b2, e7, e8, c2, p2, i2, j2, v2, e9, e10, hs2, g2, hsc, k', ek, zz⟩ := z
        exact ⟨x1, hx1, x2, hx2, a1, b1, e3, e4, c1, p1, i1, j1, v1, e5, e6, hs1, g1, y1, hy1, y2, hy2, a2, b2, e7, e8, c2, p2, i2, j2, v2, e9, e10, hs2, g2, hsc, k', ek, h _ _ zz⟩
def spCheckPeriod : Sp := fun vs H Q _ => ∃ o : Option Nat, vs = [perV o] ∧ (∀ k, o = some k → 1 ≤ k) ∧ Q .non H
theorem ok_check_period {f : Addr} {fd : FuncData} (F : Fun K "check_period" "check_period" s_check_period f fd) (h1 : Has P w K mg base 2 "is_period" ["given"] [] spIsPeriod) : FnOk P w K mg base CX0 3 f fd ["period"] spCheckPeriod := by
  obtain ⟨f_is_period, fd_is_period, ds_is_period, G_is_period, m_is_period, k_is_period, b_is_period, v_is_period⟩ := h1
  refine F.ok sc_check_period (fun vs H Q E h => ?_) (fun cdv A outer s H vs Q E hr h => ?_)
  · obtain ⟨o, rfl, _⟩ := h
    rfl
  · obtain ⟨o, rfl, hp, q⟩ := h
    refine ⟨_, (pss_one (ps_if (PW.pt (pw_and (pt_cmpR op_notN (pv 0) pe_non (nomark _)) (pw_and1 (pt_not (pt_val (pe_call G_is_period hr (by rfl) m_is_period k_is_period b_is_period v_is_period pass0 (pa_cons (pv 0) pa_nil)))))))
        (pss_one ps_never)
        pss_nil)), ?_⟩
    cases o with
    | none => exact ⟨_, rfl, rfl, false, rfl, iteF (iteF q)⟩
    | some k =>
      have hk := hp k rfl
      refine ⟨_, rfl, rfl, true, rfl, iteT ?_⟩
      exact ⟨.int (k : Nat), rfl, (k : Nat), rfl, by omega, true, rfl, iteF q⟩
def spInit (C : Addr) (K : PySem.W.Frag) : Sp := fun vs H Q _ => ∃ (p dx q0 : Addr) (b t : Nat) (ws : List Bool), vs = [.ref p, .int (b : Nat), .ref q0, .int (t : Nat)] ∧ H p = some (.ins C dx []) ∧ SqL K H q0 (ws.map lvV) ∧ 2 ≤ b ∧ b ≤ 64 ∧ ws ≠ [] ∧ ws.length ≤ 60 ∧
  ∀ H' q l, (∀ c o, c ≠ p → H c = some o → H' c = some o) → H q = none → H l = none → WheelAt C H' p q l ⟨b, trimW ws, t, 0, []⟩ → Q .non H'
theorem ok_init {f C : Addr} {fd : FuncData} (F : FunD K "__init__" "Wheel.__init__" (defArgs s_Wheel___init__) (defBody s_Wheel___init__) (defScope s_Wheel___init__) [] [("start", .int 0)] f fd) (TW : TxW K mg C) (h1 : Has P w K mg base 3 "check_base" ["base"] [] spCheckBase)
    (h2 : Has P w K mg base 3 "check_tick" ["tick", "least"] [.int 0] spCheckTick) (h4 : Has P w K mg base 4 "check_levels" ["levels"] [] (spCheckLevels K)) (h5 : Has P w K mg base 1 "without_repeats" ["levels"] [] (spRepeats K)) :
    FnOk P w K mg base CX0 5 f fd ["self", "base", "levels", "start"] (spInit C K) := by
  obtain ⟨f_check_base, fd_check_base, ds_check_base, G_check_base, m_check_base, k_check_base, b_check_base, v_check_base⟩ := h1
  obtain ⟨f_check_tick1, fd_check_tick1, ds_check_tick1, G_check_tick1, m_check_tick1, k_check_tick1, b_check_tick1, v_check_tick1⟩ := h2
  obtain ⟨f_check_levels, fd_check_levels, ds_check_levels, G_check_levels, m_check_levels, k_check_levels, b_check_levels, v_check_levels⟩ := h4
  obtain ⟨f_without_repeats, fd_without_repeats, ds_without_repeats, G_without_repeats, m_without_repeats, k_without_repeats, b_without_repeats, v_without_repeats⟩ := h5
  refine F.ok sc_Wheel___init__ (fun vs H Q E h => ?_) (fun cdv A outer s H vs Q E hr h => ?_)
  · obtain ⟨p, dx, q0, b, t, ws, rfl, _⟩ := h
    rfl
  · obtain ⟨p, dx, q0, b, t, ws, rfl, hp, hL, hb, hb64, hne, h60, c⟩ := h
    refine ⟨_, PSs.nox (pss_cons (ps_expr (pe_call G_check_base (hr.mono (by decide)) (by rfl) m_check_base k_check_base b_check_base v_check_base pass0 (pa_cons (pv 1) pa_nil)))
      (pss_cons (ps_expr (pe_call G_check_levels hr (by rfl) m_check_levels k_check_levels b_check_levels v_check_levels pass0 (pa_cons (pv 2) pa_nil)))
      (pss_cons (ps_expr (pe_call G_check_tick1 (hr.mono (by decide)) (by rfl) m_check_tick1 k_check_tick1 b_check_tick1 v_check_tick1 pass0 (pa_cons (pv 3) pa_nil)))
      (pss_cons (ps_fld (pv 0) (pv 1) rfl)
      (pss_cons (ps_fld (pv 0) (pe_call G_without_repeats (hr.mono (by decide)) (by rfl) m_without_repeats k_without_repeats b_without_repeats v_without_repeats pass0 (pa_cons (pv 2) pa_nil)) rfl)
      (pss_cons (ps_fld (pv 0) (pv 3) rfl)
      (pss_cons (ps_fld (pv 0) pe_int rfl)
      (pss_one (ps_fld (pv 0) pe_dnewK rfl))))))))), ?_⟩
    refine ⟨_, rfl, b, rfl, by omega, by omega, ?_⟩
    refine ⟨_, rfl, q0, ws, rfl, hL, hne, h60, fun H1 s1 => ?_⟩
    refine ⟨_, rfl, t, 0, rfl, by omega, ?_⟩
    have hp1 := s1 _ _ hp
    refine ⟨_, rfl, _, rfl, p, C, dx, [], rfl, hp1, TW.cl, TW.nB, by simp, ?_⟩
    have k2 : ∀ c o, c ≠ p → H c = some o → (upd H1 p (.ins C dx (putF "base" (.int (b : Nat)) []))) c = some o := fun c o n e => by
      rw [upd_ne n]
      exact s1 _ _ e
    have hL2 : SqL K (upd H1 p (.ins C dx (putF "base" (.int (b : Nat)) []))) q0 (ws.map lvV) := by
      rcases s1.seq hL with (e | ⟨o, e⟩) | e
      · exact .inl (.inl (by rw [upd_ne (ne_of e hp1 (by intro z; cases z))]; exact e))
      · exact .inl (.inr ⟨o, by rw [upd_ne (ne_of e hp1 (by intro z; cases z))]; exact e⟩)
      · exact .inr e
    refine ⟨_, rfl, q0, ws, rfl, hL2, hne, h60, fun H3 q s3 hq0 hq3 => ?_⟩
    have hp3 := s3 _ _ (upd_same (H := H1) (a := p))
    have nqp : q ≠ p := fun e => by
      rw [e, upd_same] at hq0
      cases hq0
    have k3 : ∀ c o, c ≠ p → H c = some o → H3 c = some o := fun c o n e => s3 _ _ (k2 c o n e)
    have hqn : H q = none := by
      cases e : H q with
      | none => rfl
      | some o =>
        rw [k2 q o nqp e] at hq0
        cases hq0
    refine ⟨_, rfl, p, C, dx, _, rfl, hp3, TW.cl, TW.nW, by rw [pt_nil]; simp, ?_⟩
    refine ⟨_, rfl, _, rfl, p, C, dx, _, rfl, upd_same, TW.cl, TW.nT, by rw [pt_nil, pt_miss ne_bw, pt_nil]; simp, ?_⟩
    refine ⟨_, rfl, p, C, dx, _, rfl, upd_same, TW.cl, TW.nF, by rw [pt_nil, pt_miss ne_bw, pt_nil, pt_miss ne_bt, pt_miss ne_wt, pt_nil]; simp, ?_⟩
    refine fun l hl => ⟨_, rfl, p, C, dx, putF "following" (.int 0) (putF "tick" (.int (t : Nat)) (putF "words" (.ref q) (putF "base" (.int (b : Nat)) []))), rfl, ?_, TW.cl, TW.nL, by rw [pt_nil, pt_miss ne_bw, pt_nil, pt_miss ne_bt, pt_miss ne_wt, pt_nil, pt_miss ne_bf, pt_miss ne_wf, pt_miss ne_tf, pt_nil]; simp, ?_⟩
    · have nlp : p ≠ l := fun e => by
        rw [← e, upd_same] at hl
        cases hl
      rw [upd_ne nlp, upd_same]
    have nlp : l ≠ p := fun e => by
      rw [e, upd_same] at hl
      cases hl
    rw [upd_ne nlp, upd_ne nlp, upd_ne nlp] at hl
    have nlq : l ≠ q := fun e => by
      rw [e, hq3] at hl
      cases hl
    have hln : H l = none := by
      cases e : H l with
      | none => rfl
      | some o =>
        rw [k3 l o nlp e] at hl
        cases hl
    refine c _ q l (fun c o n e => ?_) hqn hln ⟨⟨dx, ?_⟩, ?_, ⟨[], ?_, trivial⟩⟩
    · rw [upd_ne n, upd_ne (fun z => by rw [z, hln] at e; cases e), upd_ne n, upd_ne n, upd_ne n]
      exact k3 c o n e
    · rw [upd_same, pt_nil, pt_miss ne_bw, pt_nil, pt_miss ne_bt, pt_miss ne_wt, pt_nil, pt_miss ne_bf, pt_miss ne_wf, pt_miss ne_tf, pt_nil, pt_miss ne_bl, pt_miss ne_wl, pt_miss ne_tl, pt_miss ne_fl, pt_nil]
      rfl
    · rw [upd_ne nqp, upd_ne (Ne.symm nlq), upd_ne nqp, upd_ne nqp, upd_ne nqp]
      exact hq3
    · rw [upd_ne nlp, upd_same]
end
section
variable {P : Program} {w : World} {K : PySem.W.Frag} {mg : Str → Option Value} {base : Heap}
theorem no_ct {b : Nat} {q : Addr} {t f : Nat} {l : Addr} : (wfl b q t f l).lookup ("check_timer" : Str) = none := wf_no (by decide +kernel) (by decide +kernel) (by decide +kernel) (by decide +kernel) (by decide +kernel)
def spCheckTimer (C : Addr) : Sp := fun vs H Q _ => ∃ (p q l : Addr) (W : WS) (n : Nat), vs = [.ref p, .int (n : Nat)] ∧ WheelAt C H p q l W ∧ (W.live.map (·.num)).Nodup ∧ (∃ m ∈ W.live, m.num = n) ∧ Q .non H
theorem ok_check_timer {f C : Addr} {fd : FuncData} (F : Fun K "check_timer" "Wheel.check_timer" s_Wheel_check_timer f fd) (TW : TxW K mg C) (h1 : Has P w K mg base 1 "is_integer" ["given"] [] spIsInt) : FnOk P w K mg base CX0 2 f fd ["self", "timer"] (spCheckTimer C) := by
  obtain ⟨f_is_integer, fd_is_integer, ds_is_integer, G_is_integer, m_is_integer, k_is_integer, b_is_integer, v_is_integer⟩ := h1
  refine F.ok sc_Wheel_check_timer (fun vs H Q E h => ?_) (fun cdv A outer s H vs Q E hr h => ?_)
  · obtain ⟨p, q, l, W, n, rfl, _⟩ := h
    rfl
  · obtain ⟨p, q, l, W, n, rfl, hw, nd, ⟨m, hm, en⟩, c⟩ := h
    have hu := hu_of hr
    obtain ⟨dx, hp⟩ := hw.ins
    obtain ⟨kvs, hl, L⟩ := hw.live
    obtain ⟨tt, hv, ht⟩ := L.val_of nd hm
    rw [en] at hv
    refine ⟨_, (pss_one (ps_if (PW.pt (pw_or (pt_not (pt_val (pe_call G_is_integer hr (by rfl) m_is_integer k_is_integer b_is_integer v_is_integer pass0 (pa_cons (pv 1) pa_nil)))) (pw_or1 (pt_cmp (pc_dnotin hu (pv 1) (pe_fld (pv 0) rfl))))))
        (pss_one ps_never)
        pss_nil)), ?_⟩
    refine ⟨_, rfl, (n : Nat), rfl, true, rfl, iteF ?_⟩
    refine ⟨_, rfl, _, rfl, p, C, dx, _, _, rfl, hp, TW.cl, TW.nL, wf_l, l, some (.ref tt), rfl, ?_, false, rfl, iteF c⟩
    rw [← hv]
    exact DGet.k (k := Sum.inl (n : Int)) hl
def spNow (C : Addr) : Sp := fun vs H Q _ => ∃ (p q l : Addr) (W : WS), vs = [.ref p] ∧ WheelAt C H p q l W ∧ Q (.int (W.tick : Nat)) H
theorem ok_now {f C : Addr} {fd : FuncData} (F : Fun K "now" "Wheel.now" s_Wheel_now f fd) (TW : TxW K mg C) : FnOk P w K mg base CX0 1 f fd ["self"] (spNow C) := by
  refine F.ok sc_Wheel_now (fun vs H Q E h => ?_) (fun cdv A outer s H vs Q E hr h => ?_)
  · obtain ⟨p, q, l, W, rfl, _⟩ := h
    rfl
  · obtain ⟨p, q, l, W, rfl, hw, c⟩ := h
    obtain ⟨dx, hp⟩ := hw.ins
    refine ⟨_, (pss_one (ps_ret (pe_fld (pv 0) rfl))), ?_⟩
    exact ⟨_, rfl, p, C, dx, _, _, rfl, hp, TW.cl, TW.nT, wf_t, c⟩
def spPut (C : Addr) : Sp := fun vs H Q _ => ∃ (p q l : Addr) (W : WS) (d : Nat) (o : Option Nat), vs = [.ref p, .int (d : Nat), perV o] ∧ WheelAt C H p q l W ∧ WOk W ∧ W.live.length < 1000 ∧ W.tick < d ∧ (∀ k, o = some k → 1 ≤ k) ∧
  ∀ H', Wk p l H H' l → WheelAt C H' p q l { W with fol := W.fol + 1, live := W.live ++ [⟨W.fol, d, o, W.tick⟩] } → Q (.int (W.fol : Nat)) H'
theorem ok_put {f C : Addr} {fd : FuncData} (F : FunD K "put" "Wheel.put" (defArgs s_Wheel_put) (defBody s_Wheel_put) (defScope s_Wheel_put) [] [("period", .non)] f fd) (TW : TxW K mg C) (h1 : Has P w K mg base 3 "check_tick" ["tick", "least"] [] spCheckTick)
    (h2 : Has P w K mg base 3 "check_period" ["period"] [] spCheckPeriod) : FnOk P w K mg base CX0 4 f fd ["self", "due", "period"] (spPut C) := by
  obtain ⟨f_check_tick, fd_check_tick, ds_check_tick, G_check_tick, m_check_tick, k_check_tick, b_check_tick, v_check_tick⟩ := h1
  obtain ⟨f_check_period, fd_check_period, ds_check_period, G_check_period, m_check_period, k_check_period, b_check_period, v_check_period⟩ := h2
  refine F.ok sc_Wheel_put (fun vs H Q E h => ?_) (fun cdv A outer s H vs Q E hr h => ?_)
  · obtain ⟨p, q, l, W, d, o, rfl, _⟩ := h
    rfl
  · obtain ⟨p, q, l, W, d, o, rfl, hw, ok, few, htd, hper, c⟩ := h
    have hu := hu_of hr
    obtain ⟨dx, hp⟩ := hw.ins
    obtain ⟨kvs, hl, L⟩ := hw.live
    refine ⟨_, PSs.nox (pss_cons (ps_expr (pe_call G_check_tick hr (by rfl) m_check_tick k_check_tick b_check_tick v_check_tick pass0 (pa_cons (pv 1) (pa_cons (pe_op op_add (pe_fld (pv 0) rfl) pe_int) pa_nil))))
      (pss_cons (ps_expr (pe_call G_check_period hr (by rfl) m_check_period k_check_period b_check_period v_check_period pass0 (pa_cons (pv 2) pa_nil)))
      (pss_cons (ps_set (i := 3) sc_Wheel_put.nd rfl (.inl rfl) (pe_fld (pv 0) rfl))
      (pss_cons (ps_fldaug (pv 0) pe_int in_add)
      (pss_cons (ps_dput hu (pe_fld (pv 0) rfl) (pv 3) (pe_tup (pa_cons (pv 1) (pa_cons (pv 2) (pa_cons (pe_fld (pv 0) rfl) pa_nil)))) rfl)
      (pss_one (ps_ret (pv 3)))))))), ?_⟩
    refine ⟨_, rfl, _, rfl, p, C, dx, _, _, rfl, hp, TW.cl, TW.nT, wf_t, _, 1, rfl, rfl, (d : Nat), _, rfl, by omega, ?_⟩
    refine ⟨_, rfl, o, rfl, hper, ?_⟩
    refine ⟨_, rfl, p, C, dx, _, _, rfl, hp, TW.cl, TW.nF, wf_f, ?_⟩
    refine ⟨_, rfl, p, C, dx, _, _, rfl, hp, TW.cl, TW.nF, wf_f, (W.fol : Nat), 1, rfl, rfl, dx, _, hp, by simp [wfl], ?_⟩
    have e1 : putF "following" (.int ((W.fol : Int) + 1)) (wfl W.b q W.tick W.fol l) = wfl W.b q W.tick (W.fol + 1) l := wf_pf (f' := W.fol + 1)
    have npl : l ≠ p := ne_of hl hp (by intro z; cases z)
    have hp2 : (upd H p (.ins C dx (putF "following" (.int ((W.fol : Int) + 1)) (wfl W.b q W.tick W.fol l)))) p = some (.ins C dx (wfl W.b q W.tick (W.fol + 1) l)) := by rw [upd_same, e1]
    refine ⟨_, rfl, _, rfl, _, rfl, p, C, dx, _, _, rfl, hp2, TW.cl, TW.nT, wf_t, by simp [sizeLine_eq], fun u hu0 => ?_⟩
    have nup : u ≠ p := fun e => by
      rw [e, upd_same] at hu0
      cases hu0
    rw [upd_ne nup] at hu0
    have nul : u ≠ l := fun e => by
      rw [e, hl] at hu0
      cases hu0
    generalize hH2 : upd (upd H p (.ins C dx (putF "following" (.int ((W.fol : Int) + 1)) (wfl W.b q W.tick W.fol l)))) u (.tup [.int (d : Nat), perV o, .int (W.tick : Nat)]) = H2
    have a1 : H2 p = some (.ins C dx (wfl W.b q W.tick (W.fol + 1) l)) := by rw [← hH2, upd_ne (Ne.symm nup)]; exact hp2
    have a2 : H2 u = some (.tup (tmV ⟨W.fol, d, o, W.tick⟩)) := by rw [← hH2, upd_same]; rfl
    have a3 : ∀ c o, c ≠ p → H c = some o → H2 c = some o := fun c o n e => by
      rw [← hH2, upd_ne (ne_of_none e hu0), upd_ne n]
      exact e
    have a4 := a3 _ _ npl hl
    have L2' : LiveK H2 kvs W.live := L.frame fun t m e => a3 _ _ (ne_of e hp (by intro z; cases z)) e
    have hvn := L2'.val_not (n := W.fol) fun m hm => Nat.ne_of_lt (ok.tms m hm).num
    refine ⟨_, rfl, p, C, dx, _, _, rfl, a1, TW.cl, TW.nL, wf_l, _, rfl, l, _, rfl, DPut.k (k := Sum.inl (W.fol : Int)) a4 (by rw [L.len]; exact sizeLine_ge (by omega)), ?_⟩
    rw [putK_new _ hvn]
    refine ⟨_, rfl, c _ ⟨fun c o n1 n2 e => ?_, .inl rfl⟩ ⟨⟨dx, ?_⟩, ?_, ⟨_, upd_same, ?_⟩⟩⟩
    · rw [upd_ne n2]
      exact a3 c o n1 e
    · rw [upd_ne (Ne.symm npl)]
      exact a1
    · rw [upd_ne (ne_of hw.words hl (by intro z; cases z))]
      exact a3 _ _ (ne_of hw.words hp (by intro z; cases z)) hw.words
    · exact LiveK.upd a4 (fun xs z => by cases z) (L2'.snoc (m := ⟨W.fol, d, o, W.tick⟩) rfl a2)
end
/-! ### advance -/
/-- the lists of what fired are new ones -/
def FrT (H0 H : Hp) (ts : List Addr) : Prop := ∀ t ∈ ts, ∃ a u, H t = some (.tup [a, .ref u]) ∧ H0 u = none
theorem FrT.frame {H0 H H' : Hp} {ts : List Addr} (h : FrT H0 H ts) (k : ∀ t xs, H t = some (.tup xs) → H' t = some (.tup xs)) : FrT H0 H' ts := fun t ht => by
  obtain ⟨a, u, h1, h2⟩ := h t ht
  exact ⟨a, u, k _ _ h1, h2⟩
theorem FrT.app {H0 H : Hp} {ts : List Addr} {t u : Addr} {a : V} (h : FrT H0 H ts) (e : H t = some (.tup [a, .ref u])) (hu : H0 u = none) : FrT H0 H (ts ++ [t]) := fun x hx => by
  rcases List.mem_append.mp hx with z | z
  · exact h x z
  · rw [List.mem_singleton.mp z]
    exact ⟨a, u, e, hu⟩
section
variable {P : Program} {w : World} {K : PySem.W.Frag} {mg : Str → Option Value} {base : Heap}
def spAdvance (C : Addr) : Sp := fun vs H Q _ => ∃ (p q l : Addr) (W : WS) (t : Nat) (fired : List (Nat × List Nat)) (ms' : List Tm), vs = [.ref p, .int (t : Nat)] ∧ WheelAt C H p q l W ∧ 2 ≤ W.b ∧ W.b ≤ 64 ∧ W.ws ≠ [] ∧ W.live.length ≤ 1000 ∧ W.tick ≤ t ∧ AdvTo W.b W.ws t W.live fired ms' ∧ total fired ≤ 2000 ∧
  ∀ H' r l' ts, Wk p l H H' l' → H r = none → H' r = some (.lst (ts.map V.ref)) → FiredAt r H' ts fired → FrT H H' ts → WheelAt C H' p q l' { W with tick := t, live := ms' } → Q (.ref r) H'
theorem fire_tick (t : Nat) (ms : List Tm) (ns : List Nat) : (afterF t ms ns).length ≤ ms.length := by
  unfold afterF
  induction ns generalizing ms with
  | nil => exact Nat.le_refl _
  | cons n ns ih => exact Nat.le_trans (ih (fireT t ms n)) fire_len
theorem ok_advance {f C : Addr} {fd : FuncData} (F : Fun K "advance" "Wheel.advance" s_Wheel_advance f fd) (T : Tx K mg) (TW : TxW K mg C) (hM : ∃ t, mg "MOST_FIRINGS" = some (.int 2000 t)) (h1 : Has P w K mg base 3 "check_tick" ["tick", "least"] [] spCheckTick)
    (h2 : Has P w K mg base 1 "least_due" ["live"] [] spLeast) (h3 : Has P w K mg base 5 "order_of_firing" ["base", "levels", "live", "tick"] [] (spOrder K)) (h4 : Has P w K mg base 1 "after_firing" ["live", "numbers", "tick"] [] spAfter) :
    FnOk P w K mg base CX0 6 f fd ["self", "tick"] (spAdvance C) := by
  obtain ⟨f_check_tick, fd_check_tick, ds_check_tick, G_check_tick, m_check_tick, k_check_tick, b_check_tick, v_check_tick⟩ := h1
  obtain ⟨f_least_due, fd_least_due, ds_least_due, G_least_due, m_least_due, k_least_due, b_least_due, v_least_due⟩ := h2
  obtain ⟨f_order_of_firing, fd_order_of_firing, ds_order_of_firing, G_order_of_firing, m_order_of_firing, k_order_of_firing, b_order_of_firing, v_order_of_firing⟩ := h3
  obtain ⟨f_after_firing, fd_after_firing, ds_after_firing, G_after_firing, m_after_firing, k_after_firing, b_after_firing, v_after_firing⟩ := h4
  obtain ⟨tM, g_MOST_FIRINGS⟩ := hM
  refine F.ok sc_Wheel_advance (fun vs H Q E h => ?_) (fun cdv A outer s H vs Q E hr h => ?_)
  · obtain ⟨p, q, l, W, t, fired, ms', rfl, _⟩ := h
    rfl
  · obtain ⟨p, q, l, W, t, fired, ms', rfl, hw, hb, hb64, hne, few, htt, adv, tot, c⟩ := h
    obtain ⟨dx, hp⟩ := hw.ins
    obtain ⟨kvs, hl, L⟩ := hw.live
    refine ⟨_, (pss_cons (ps_expr (pe_call G_check_tick (hr.mono (by decide)) (by rfl) m_check_tick k_check_tick b_check_tick v_check_tick pass0 (pa_cons (pv 1) (pa_cons (pe_fld (pv 0) rfl) pa_nil))))
      (pss_cons (ps_set (i := 2) sc_Wheel_advance.nd rfl (.inl rfl) (pe_lst pa_nil))
      (pss_cons (ps_set (i := 3) sc_Wheel_advance.nd rfl (.inl rfl) pe_int)
      (pss_cons (ps_set (i := 4) sc_Wheel_advance.nd rfl (.inl rfl) (pe_fld (pv 0) rfl))
      (pss_cons (ps_set (i := 5) sc_Wheel_advance.nd rfl (.inl rfl) (pe_call G_least_due (hr.mono (by decide)) (by rfl) m_least_due k_least_due b_least_due v_least_due pass0 (pa_cons (pv 4) pa_nil)))
      (pss_cons (ps_while PassesOwn.never (PW.pt (pw_and (pt_cmpR op_notN (pv 5) pe_non (nomark _)) (pw_and1 (pt_cmpR op_le (pv 5) (pv 1) (nomark _)))))
        (pss_cons (ps_set (i := 6) sc_Wheel_advance.nd rfl (.inl rfl) (pe_call G_order_of_firing hr (by rfl) m_order_of_firing k_order_of_firing b_order_of_firing v_order_of_firing pass0 (pa_cons (pe_fld (pv 0) rfl) (pa_cons (pe_fld (pv 0) rfl) (pa_cons (pv 4) (pa_cons (pv 5) pa_nil))))))
        (pss_cons (ps_aug (i := 3) sc_Wheel_advance.nd rfl (.inl rfl) (pe_callB (lenK (K := K) rfl) (by rfl) T.b_len PySem.boot_len (pa_cons (pv 6) pa_nil)) ip_add)
        (pss_cons (ps_if (pt_cmpR op_gt (pv 3) (pe_glob (v := .int 2000) rfl g_MOST_FIRINGS ⟨_, rfl⟩) (nomark _))
          (pss_one ps_never)
          pss_nil)
        (pss_cons (ps_expr (pe_bm PySem.F.plainAttrs_list PySem.F.slot_list_append PySem.F.type_list_append mt_append (pv 2) (pa_cons (pe_tup (pa_cons (pv 5) (pa_cons (pv 6) pa_nil))) pa_nil)))
        (pss_cons (ps_set (i := 4) sc_Wheel_advance.nd rfl (.inl rfl) (pe_call G_after_firing (hr.mono (by decide)) (by rfl) m_after_firing k_after_firing b_after_firing v_after_firing pass0 (pa_cons (pv 4) (pa_cons (pv 6) (pa_cons (pv 5) pa_nil)))))
        (pss_one (ps_set (i := 5) sc_Wheel_advance.nd rfl (.inl rfl) (pe_call G_least_due (hr.mono (by decide)) (by rfl) m_least_due k_least_due b_least_due v_least_due pass0 (pa_cons (pv 4) pa_nil))))))))))
      (pss_cons (ps_fld (pv 0) (pv 4) rfl)
      (pss_cons (ps_fld (pv 0) (pv 1) rfl)
      (pss_one (ps_ret (pv 2))))))))))), ?_⟩
    refine ⟨_, rfl, _, rfl, p, C, dx, _, _, rfl, hp, TW.cl, TW.nT, wf_t, (t : Nat), _, rfl, by omega, ?_⟩
    refine ⟨by simp [sizeLine_eq], fun r hr0 => ?_⟩
    have s1 := same_upd (o := .lst []) hr0
    refine ⟨_, rfl, p, C, dx, _, _, rfl, s1 _ _ hp, TW.cl, TW.nL, wf_l, ?_⟩
    refine ⟨_, rfl, l, kvs, W.live, rfl, s1 _ _ hl, L.same s1, few, fun H2 s2 => ?_⟩
    have s12 := s1.trans s2
    refine while_by (fun σ H' => ∃ (lc : Addr) (kvc : List (Key × V)) (ms : List Tm) (rest done : List (Nat × List Nat)) (ts : List Addr) (many : Nat) (y6 : Option V), σ = [some (.ref p), some (.int (t : Nat)), some (.ref r), some (.int (many : Nat)), some (.ref lc), some (perV (leastD ms)), y6] ∧ Same H H' ∧ H' lc = some (.dK kvc) ∧ LiveK H' kvc ms ∧ ms.length ≤ 1000 ∧ AdvTo W.b W.ws t ms rest ms' ∧ many + total rest ≤ 2000 ∧ ts.length ≤ many ∧ fired = done ++ rest ∧ H' r = some (.lst (ts.map V.ref)) ∧ (FiredAt r H' ts done ∧ FrT H H' ts) ∧ (lc = l ∨ H lc = none))
      (fun σ _ => 3000 - slotInt σ 3) ⟨l, kvs, W.live, fired, [], [], 0, none, rfl, s12, s12 _ _ hl, L.same s12, few, adv, by omega, Nat.le_refl _, rfl, s2 _ _ upd_same, ⟨trivial, fun t ht => by cases ht⟩, .inl rfl⟩ ?_ ?_
    · rintro σ H' ⟨lc, kvc, ms, rest, done, ts, many, y6, rfl, sm, elc, Lc, fewc, advc, totc, htsm, efd, er, ⟨FA, FR⟩, hlc⟩
      have hp' := sm _ _ hp
      have hw' := sm _ _ hw.words
      -- the end of it
      have fin : rest = [] → ms = ms' → tSeq (sFld K (tVar 0) (tVar 4) "live") (tSeq (sFld K (tVar 0) (tVar 1) "tick") (tRet (tVar 2))) { nx := fun _ H' => Q .non H', rt := Q } [some (.ref p), some (.int (t : Nat)), some (.ref r), some (.int (many : Nat)), some (.ref lc), some (perV (leastD ms)), y6] H' := by
        rintro rfl rfl
        rw [List.append_nil] at efd
        have npr : p ≠ r := fun e => by
          rw [e, hr0] at hp
          cases hp
        have npl : lc ≠ p := ne_of elc hp' (by intro z; cases z)
        have nqp : q ≠ p := ne_of hw' hp' (by intro z; cases z)
        refine ⟨_, rfl, _, rfl, p, C, dx, _, rfl, hp', TW.cl, TW.nL, by simp [wfl], ?_⟩
        rw [wf_pl]
        refine ⟨_, rfl, _, rfl, p, C, dx, _, rfl, upd_same, TW.cl, TW.nT, by simp [wfl], ?_⟩
        rw [wf_pt]
        have k' : ∀ c o, c ≠ p → H' c = some o → (upd (upd H' p (.ins C dx (wfl W.b q W.tick W.fol lc))) p (.ins C dx (wfl W.b q t W.fol lc))) c = some o := fun c o n e => by
          rw [upd_ne n, upd_ne n]
          exact e
        refine ⟨_, rfl, c _ r lc ts ⟨fun c o n1 n2 e => k' c o n1 (sm _ _ e), hlc⟩ hr0 (k' _ _ (Ne.symm npr) er) ?_ (FR.frame fun t xs e => k' _ _ (ne_of e hp' (by intro z; cases z)) e) ⟨⟨dx, upd_same⟩, k' _ _ nqp hw', ⟨kvc, k' _ _ npl elc, ?_⟩⟩⟩
        · rw [efd]
          exact FA.frame (fun t a u e => k' _ _ (ne_of e hp' (by intro z; cases z)) e) fun u xs _ e => k' _ _ (ne_of e hp' (by intro z; cases z)) e
        · exact Lc.frame fun t m e => k' _ _ (ne_of e hp' (by intro z; cases z)) e
      cases advc with
      | done hdone =>
        cases hle : leastD ms' with
        | none => exact ⟨_, rfl, rfl, false, rfl, iteF (iteF (by rw [← hle]; exact fin rfl rfl))⟩
        | some v =>
          obtain ⟨m, hm, em⟩ := List.mem_map.mp (least_some.mp hle).1
          have hmt := hdone m hm
          have hvt : ¬ ((v : Int) ≤ (t : Int)) := by omega
          refine ⟨_, rfl, rfl, true, rfl, iteT ⟨_, rfl, _, rfl, (v : Nat), (t : Nat), rfl, rfl, false, dF hvt, iteF ?_⟩⟩
          rw [show perV (some v) = perV (leastD ms') from by rw [hle]]
          exact fin rfl rfl
      | @step _ _ at_ rest' hle hat okm ndm fewm radv =>
        rw [hle]
        have hat' : ((at_ : Int) ≤ (t : Int)) := by omega
        have etot : total ((at_, orderAt W.b W.ws at_ ms) :: rest') = (orderAt W.b W.ws at_ ms).length + total rest' := by
          unfold total
          rw [List.map_cons, List.sum_cons]
        rw [etot] at totc
        have hpos := order_pos (b := W.b) (ws := W.ws) hle
        refine ⟨_, rfl, rfl, true, rfl, iteT ⟨_, rfl, _, rfl, (at_ : Nat), (t : Nat), rfl, rfl, true, dT hat', iteT ?_⟩⟩
        refine ⟨_, rfl, p, C, dx, _, _, rfl, hp', TW.cl, TW.nB, wf_b, _, rfl, p, C, dx, _, _, rfl, hp', TW.cl, TW.nW, wf_w, _, rfl, _, rfl, W.b, at_, q, lc, W.ws, kvc, ms, rfl, hb, hb64, SqL.of hw', hne, elc, Lc, fewc, okm, fun H3 pn s3 hpn0 epn => ?_⟩
        refine ⟨_, rfl, _, rfl, pn, _, rfl, .inl (SqL.of epn), (many : Nat), ((orderAt W.b W.ws at_ ms).length : Nat), rfl, congrArg (fun k : Nat => V.int (k : Nat)) (List.length_map ..), ?_⟩
        refine ⟨_, rfl, _, _, rfl, rfl, false, dF (by show ¬ ((2000 : Int) < (many : Int) + ((orderAt W.b W.ws at_ ms).length : Nat)); omega), iteF ?_⟩
        have er3 := s3 _ _ er
        have nrp : r ≠ pn := fun e => by
          rw [← e, er] at hpn0
          cases hpn0
        refine ⟨_, rfl, .inl ⟨rfl, _, .inl (.inl er3)⟩, _, rfl, _, rfl, by simp [sizeLine_eq], fun u hu0 => ?_⟩
        have su := same_upd (o := .tup [perV (some at_), .ref pn]) hu0
        have eru := su _ _ er3
        refine ⟨r, _, _, rfl, rfl, eru, by rw [List.length_map]; exact sizeLine_ge (by omega), ?_⟩
        generalize hH4 : upd (upd H3 u (.tup [perV (some at_), .ref pn])) r (.lst (ts.map V.ref ++ [.ref u])) = H4
        have k4 : ∀ c o, c ≠ r → H3 c = some o → H4 c = some o := fun c o n e => by
          rw [← hH4, upd_ne n]
          exact su _ _ e
        have nur : u ≠ r := fun e => by
          rw [e, er3] at hu0
          cases hu0
        have eu4 : H4 u = some (.tup [.int (at_ : Nat), .ref pn]) := by
          rw [← hH4, upd_ne nur]
          exact upd_same
        have er4 : H4 r = some (.lst ((ts ++ [u]).map V.ref)) := by
          rw [← hH4, upd_same, List.map_append]
          rfl
        have epn4 := k4 _ _ (Ne.symm nrp) epn
        have sm4 : Same H H4 := fun c o e => k4 c o (ne_of_none e hr0) (s3 _ _ (sm _ _ e))
        have nlr : lc ≠ r := ne_of elc er (by intro z; cases z)
        have elc4 := k4 _ _ nlr (s3 _ _ elc)
        have Lc4 : LiveK H4 kvc ms := Lc.frame fun t m e => k4 _ _ (ne_of e er (by intro z; cases z)) (s3 _ _ e)
        have FA4 : FiredAt r H4 ts done := by
          exact FA.frame (fun t a u e => k4 _ _ (ne_of e er (by intro z; cases z)) (s3 _ _ e)) fun u xs hn e => k4 _ _ hn (s3 _ _ e)
        have FR4 : FrT H H4 ts := FR.frame fun t xs e => k4 _ _ (ne_of e er (by intro z; cases z)) (s3 _ _ e)
        refine ⟨_, rfl, _, rfl, _, rfl, lc, pn, at_, orderAt W.b W.ws at_ ms, kvc, ms, rfl, elc4, Lc4, fewc, ndm, epn4, ⟨order_nodup ndm, fun n hn => by
          obtain ⟨m, h1, _, h3⟩ := order_mem.mp hn
          exact ⟨m, h1, h3⟩⟩, fun H5 lc5 kvc5 s5 hlc5 elc5 Lc5 => ?_⟩
        have few5 : (afterF at_ ms (orderAt W.b W.ws at_ ms)).length ≤ 1000 := Nat.le_trans (fire_tick _ _ _) fewc
        refine ⟨_, rfl, lc5, kvc5, _, rfl, elc5, Lc5, few5, fun H6 s6 => ?_⟩
        have s56 := s5.trans s6
        refine ⟨⟨lc5, kvc5, afterF at_ ms (orderAt W.b W.ws at_ ms), rest', done ++ [(at_, orderAt W.b W.ws at_ ms)], ts ++ [u], (many + (orderAt W.b W.ws at_ ms).length), _, rfl, sm4.trans s56, s6 _ _ elc5, Lc5.same s6, few5, radv, by omega, ?_, by rw [efd, List.append_assoc]; rfl, s56 _ _ er4, ⟨(FA4.app ⟨pn, eu4, Ne.symm nrp, epn4⟩).same s56, (FR4.app eu4 (sm.free hpn0)).frame fun t xs e => s56 _ _ e⟩, .inr (sm4.free hlc5)⟩, ?_⟩
        · rw [List.length_append, List.length_singleton]
          omega
        · show 3000 - (((many + (orderAt W.b W.ws at_ ms).length) : Int)).toNat < 3000 - ((many : Int)).toNat
          omega
    · rintro σ H' Q1 Q2 h ⟨x, hx, e1, k, e, z⟩
      refine ⟨x, hx, e1, k, e, ?_⟩
      cases k with
      | false => exact iteF (h _ _ (by rw [if_neg Bool.false_ne_true] at z; exact z))
      | true =>
        rw [if_pos rfl] at z
        refine iteT ?_
        obtain ⟨x1, hx1, x2, hx2, i, j, e2, e3, k', e4, zz⟩ := z
        exact ⟨x1, hx1, x2, hx2, i, j, e2, e3, k', e4, h _ _ zz⟩
end
/-! ### o.m(e, .., k = v, ..) -/
def tMethK (C : Addr) (m : Str) (sp : Sp) (n mk : Nat) (gV : List V → List V → List V) (E : XK) (ta : TE) (t tk : TA) : TE := fun σ H Q => ta σ H fun x H1 => ∃ (a dx : Addr) (fs : List (Str × V)), x = .ref a ∧ H1 a = some (.ins C dx fs) ∧ fs.lookup m = none ∧
  t σ H1 fun vs H2 => tk σ H2 fun zs H3 => vs.length + 1 = n ∧ zs.length = mk ∧ sp (gV (.ref a :: vs) zs) H3 Q E
section
variable {X : Cx} {CX : CXT} {k n : Nat} {C f : Addr} {fd : FuncData} {ps ks : List Str} {m : Str} {sp : Sp} {E : XK} {g : List Value → List Value → List Value} {gV : List V → List V → List V} {o e : Expr} {es : List Expr} {kws : List Keyword} {ta : TE} {t tk : TA} {apos pos : Pos}
theorem pe_methK {pl : Sem Bool} (he : PE X o ta) (c : Cls X.K C) (hm : Meth X.K C m f) (F : FnOk X.prog X.w X.K X.mg X.base CX k f fd ps sp) (hr : Room k X.A) (hb : KBn X.K fd ps n ks g gV) (hx : Passes CX X E) (ha : PA X (e :: es) t) (hkw : PK X kws tk)
    (hall : (backToKw pos (keywordEach kws X.env)).all (·.1.isSome) = true := by rfl) (hks : (backToKw pos (keywordEach kws X.env)).filterMap (·.1) = ks := by rfl)
    (hst : starEach (e :: es) X.env = (false, eval e X.env) :: starEach es X.env := by rfl)
    (hpl : ((backTo pos (starEach (e :: es) X.env)).any (·.1) || (backToKw pos (keywordEach kws X.env)).any (·.1.isNone)) = false := by rfl)
    (ht : eval (.Call (.Attribute o m apos) (e :: es) kws pos) X.env = (do
      let ov ← eval o X.env
      standAt apos.atName
      let (f, first) ← holding [ov] (getMethod ov m pl)
      callWith pos f first (backTo pos (starEach (e :: es) X.env)) (backToKw pos (keywordEach kws X.env))) := by rfl) :
    PE X (.Call (.Attribute o m apos) (e :: es) kws pos) (tMethK C m sp n ks.length gV E ta t tk) := by
  refine ⟨fun pins s σ H Q I h => ?_⟩
  refine PySem.W.methodCall_KW (pl := pl) (thn (he.run pins s σ H _ I h) fun u s1 ⟨x, H1, I1, rx, a, dx, fs, ex, ea, l, q⟩ => ?_) ht
  subst ex
  obtain rfl : u = Value.ref a := rx
  refine getmeth_ok I1 ea c hm l ?_
  refine PySem.W.callWith_KW (first := [.ref a]) (h₀ := X.base) I.ok.mod.kin hm.kp hall (thn (ha.run pos pins s1 σ H1 _ I1 q) fun us s2 ⟨vs, H2, I2, r, q2⟩ => ?_) hpl hst
  refine thn (hkw.run pos pins s2 σ H2 _ I2 q2) fun ws s3 ⟨zs, H3, I3, rz, l1, l2, q3⟩ => ⟨I3.kIn, ?_⟩
  rw [hks]
  exact run_fnN (us := .ref a :: us) (vs := .ref a :: vs) F hr hb hx I3 (.cons rfl r) rz (by rw [List.length_cons]; exact l1) l2 q3
end
/-! ### put, with its period told by name -/
section
variable {b : Nat} {q : Addr} {t f : Nat} {l : Addr}
theorem nm_put : (wfl b q t f l).lookup ("put" : Str) = none := wf_no (by decide +kernel) (by decide +kernel) (by decide +kernel) (by decide +kernel) (by decide +kernel)
theorem nm_timers : (wfl b q t f l).lookup ("timers" : Str) = none := wf_no (by decide +kernel) (by decide +kernel) (by decide +kernel) (by decide +kernel) (by decide +kernel)
theorem nm_cancel : (wfl b q t f l).lookup ("cancel" : Str) = none := wf_no (by decide +kernel) (by decide +kernel) (by decide +kernel) (by decide +kernel) (by decide +kernel)
theorem nm_reset : (wfl b q t f l).lookup ("reset" : Str) = none := wf_no (by decide +kernel) (by decide +kernel) (by decide +kernel) (by decide +kernel) (by decide +kernel)
theorem nm_now : (wfl b q t f l).lookup ("now" : Str) = none := wf_no (by decide +kernel) (by decide +kernel) (by decide +kernel) (by decide +kernel) (by decide +kernel)
theorem nm_lists : (wfl b q t f l).lookup ("lists" : Str) = none := wf_no (by decide +kernel) (by decide +kernel) (by decide +kernel) (by decide +kernel) (by decide +kernel)
theorem nm_lists_at : (wfl b q t f l).lookup ("lists_at" : Str) = none := wf_no (by decide +kernel) (by decide +kernel) (by decide +kernel) (by decide +kernel) (by decide +kernel)
theorem nm_advance : (wfl b q t f l).lookup ("advance" : Str) = none := wf_no (by decide +kernel) (by decide +kernel) (by decide +kernel) (by decide +kernel) (by decide +kernel)
theorem nm_next_event : (wfl b q t f l).lookup ("next_event" : Str) = none := wf_no (by decide +kernel) (by decide +kernel) (by decide +kernel) (by decide +kernel) (by decide +kernel)
theorem nm_next_firing : (wfl b q t f l).lookup ("next_firing" : Str) = none := wf_no (by decide +kernel) (by decide +kernel) (by decide +kernel) (by decide +kernel) (by decide +kernel)
end
section
variable {P : Program} {w : World} {K : PySem.W.Frag} {mg : Str → Option Value} {base : Heap}
def HasPut (P : Program) (w : World) (K : PySem.W.Frag) (mg : Str → Option Value) (base : Heap) (k : Nat) (C : Addr) : Prop :=
  ∃ (f : Addr) (fd : FuncData) (ds : List Value), FnOk P w K mg base CX0 k f fd ["self", "due", "period"] (spPut C) ∧ Meth K C "put" f ∧ L2.Binds K fd ["self", "due", "period"] ds ∧ Vals [.non] ds ∧ KBn K fd ["self", "due", "period"] 2 [Str.ofString "period"] (fun us ws => us ++ ws) (fun vs zs => vs ++ zs)
def HasInit (P : Program) (w : World) (K : PySem.W.Frag) (mg : Str → Option Value) (base : Heap) (k : Nat) (C : Addr) : Prop :=
  ∃ (fi : Addr) (fdi : FuncData), Mk K C fi ∧ FnOk P w K mg base CX0 k fi fdi ["self", "base", "levels", "start"] (spInit C K) ∧ KBn K fdi ["self", "base", "levels", "start"] 3 [Str.ofString "start"] (fun us ws => us ++ ws) (fun vs zs => vs ++ zs)
end
theorem okw_put {W : WS} (h : WOk W) (hl : W.live.length < 1000) {d : Nat} {o : Option Nat} (h1 : W.tick < d) (h2 : d < 2 ^ 250) (ho : ∀ k, o = some k → 1 ≤ k) : WOk { W with fol := W.fol + 1, live := W.live ++ [⟨W.fol, d, o, W.tick⟩] } := by
  refine ⟨h.b2, h.b64, h.ne, h.l60, fun m hm => ?_, ?_, ?_⟩
  · rcases List.mem_append.mp hm with z | z
    · have y := h.tms m z
      exact ⟨y.since, y.due, y.big, Nat.lt_succ_of_lt y.num, y.per⟩
    · rw [List.mem_singleton.mp z]
      exact ⟨Nat.le_refl _, h1, h2, Nat.lt_succ_self _, ho⟩
  · rw [List.map_append]
    refine L2.nd_snoc h.nd fun hm => ?_
    obtain ⟨m, hm, e⟩ := List.mem_map.mp hm
    have := (h.tms m hm).num
    have e' : m.num = W.fol := e
    omega
  · show (W.live ++ [_]).length ≤ 1000
    rw [List.length_append]
    show W.live.length + 1 ≤ 1000
    omega
/-! ### what a changed wheel leaves as it stands -/
theorem Wk.pre {p l l' : Addr} {H H1 H' : Hp} (s : Same H H1) (k : Wk p l H1 H' l') : Wk p l H H' l' := ⟨fun c o n1 n2 e => k.keep c o n1 n2 (s _ _ e), k.new.imp id s.free⟩
theorem Wk.post {p l l' : Addr} {H H1 H' : Hp} (k : Wk p l H H1 l') (s : Same H1 H') : Wk p l H H' l' := ⟨fun c o n1 n2 e => s _ _ (k.keep c o n1 n2 e), k.new⟩
/-- what stands in a heap beside wheels: lists and tuples stay -/
theorem Wk.lst {C p q l l' : Addr} {H H' : Hp} {W : WS} (k : Wk p l H H' l') (w : WheelAt C H p q l W) {c : Addr} {xs : List V} (e : H c = some (.lst xs)) : H' c = some (.lst xs) := by
  obtain ⟨dx, hp⟩ := w.ins
  obtain ⟨kvs, hl, _⟩ := w.live
  exact k.keep _ _ (ne_of e hp (by intro z; cases z)) (ne_of e hl (by intro z; cases z)) e
theorem Wk.tup {C p q l l' : Addr} {H H' : Hp} {W : WS} (k : Wk p l H H' l') (w : WheelAt C H p q l W) {c : Addr} {xs : List V} (e : H c = some (.tup xs)) : H' c = some (.tup xs) := by
  obtain ⟨dx, hp⟩ := w.ins
  obtain ⟨kvs, hl, _⟩ := w.live
  exact k.keep _ _ (ne_of e hp (by intro z; cases z)) (ne_of e hl (by intro z; cases z)) e
/-! ### law k37: the timers put in a drawn order, others beside them -/
theorem erase_perm {l : List Nat} {i j : Nat} (h : l[i]? = some j) : (j :: l.eraseIdx i).Perm l := by
  induction l generalizing i with
  | nil => cases h
  | cons x l ih =>
    cases i with
    | zero =>
      cases h
      exact List.Perm.refl _
    | succ i =>
      rw [List.eraseIdx_cons_succ]
      exact (List.Perm.swap x j _).trans ((ih h).cons x)
theorem seq_at {r n : Nat} (h : r < n) : seqIndex? ((r : Nat) : Int) n = some r := by
  unfold seqIndex?
  have h1 : ¬ (((r : Nat) : Int) < 0) := by omega
  simp [h1]
  omega
theorem rg_range (n : Nat) : rgV 0 (n : Nat) = (List.range n).map fun y => V.int (y : Nat) := by
  unfold rgV
  rw [Int.sub_zero, Int.toNat_natCast]
  refine List.map_congr_left fun i _ => ?_
  rw [Int.zero_add]
def leftLen (l : Addr) (H : Hp) : Nat := match H l with
  | some (.lst xs) => xs.length
  | _ => 0

/-- of m periodic timers those in ls are left, the others are set; g numbers those set -/
structure LedOk (D P : Nat → Nat) (m n : Nat) (ms : List Tm) (g : Nat → Option Nat) (ls : List Nat) : Prop where
  tms : ∀ t ∈ ms, t.since = n ∧ n < t.due ∧ t.due ≤ n + 150 ∧ ((∃ k, g t.num = some k ∧ k < m ∧ t.due = D k ∧ t.per = some (P k)) ∨ (g t.num = none ∧ t.per = none))
  on : ∀ x k, g x = some k → ∃ t ∈ ms, t.num = x
  inj : ∀ x y k, g x = some k → g y = some k → x = y
  all : ∀ k, k < m → k ∈ ls ∨ ∃ x, g x = some k
  left : ∀ k ∈ ls, k < m ∧ ∀ x, g x ≠ some k
theorem LedOk.start (D P : Nat → Nat) (m n : Nat) : LedOk D P m n [] (fun _ => none) (List.range m) where
  tms t h := absurd h List.not_mem_nil
  on x k h := by cases h
  inj x y k h := by cases h
  all k hk := .inl (List.mem_range.mpr hk)
  left k hk := ⟨List.mem_range.mp hk, fun x h => by cases h⟩
theorem LedOk.other {D P : Nat → Nat} {m n x d : Nat} {ms : List Tm} {g : Nat → Option Nat} {ls : List Nat} (h : LedOk D P m n ms g ls) (hx : ∀ t ∈ ms, t.num ≠ x) (h1 : n < d) (h2 : d ≤ n + 150) : LedOk D P m n (ms ++ [⟨x, d, none, n⟩]) g ls := by
  have gx : g x = none := by
    cases e : g x with
    | none => rfl
    | some k =>
      obtain ⟨t, ht, e2⟩ := h.on x k e
      exact absurd e2 (hx t ht)
  refine ⟨fun t ht => ?_, fun y k hy => ?_, h.inj, h.all, h.left⟩
  · rcases List.mem_append.mp ht with ht | ht
    · exact h.tms t ht
    · rw [List.mem_singleton.mp ht]
      exact ⟨rfl, h1, h2, .inr ⟨gx, rfl⟩⟩
  · obtain ⟨t, ht, e⟩ := h.on y k hy
    exact ⟨t, List.mem_append_left _ ht, e⟩
theorem LedOk.mine {D P : Nat → Nat} {m n x k : Nat} {ms : List Tm} {g : Nat → Option Nat} {ls ls' : List Nat} (h : LedOk D P m n ms g ls) (hx : ∀ t ∈ ms, t.num ≠ x) (hp : (k :: ls').Perm ls) (nd : ls.Nodup) (h1 : n < D k) (h2 : D k ≤ n + 150) : LedOk D P m n (ms ++ [⟨x, D k, some (P k), n⟩]) (fun y => if y = x then some k else g y) ls' := by
  have hk : k ∈ ls := hp.mem_iff.mp (List.mem_cons_self ..)
  have nd2 := List.nodup_cons.mp (hp.nodup_iff.mpr nd)
  obtain ⟨hkm, hkg⟩ := h.left k hk
  refine ⟨fun t ht => ?_, fun y j hy => ?_, fun y z j hy hz => ?_, fun j hj => ?_, fun j hj => ?_⟩
  · rcases List.mem_append.mp ht with ht | ht
    · have e : (if t.num = x then some k else g t.num) = g t.num := if_neg (hx t ht)
      show _ ∧ _ ∧ _ ∧ ((∃ k', (if t.num = x then some k else g t.num) = some k' ∧ _) ∨ ((if t.num = x then some k else g t.num) = none ∧ _))
      rw [e]
      exact h.tms t ht
    · rw [List.mem_singleton.mp ht]
      exact ⟨rfl, h1, h2, .inl ⟨k, if_pos rfl, hkm, rfl, rfl⟩⟩
  · by_cases c : y = x
    · exact ⟨_, List.mem_append_right _ (List.mem_singleton.mpr rfl), c.symm⟩
    · have hy2 : (if y = x then some k else g y) = some j := hy
      rw [if_neg c] at hy2
      obtain ⟨t, ht, e⟩ := h.on y j hy2
      exact ⟨t, List.mem_append_left _ ht, e⟩
  · have hy2 : (if y = x then some k else g y) = some j := hy
    have hz2 : (if z = x then some k else g z) = some j := hz
    by_cases c : y = x
    · by_cases c2 : z = x
      · rw [c, c2]
      · rw [if_pos c] at hy2
        rw [if_neg c2] at hz2
        rw [← Option.some.inj hy2] at hz2
        exact absurd hz2 (hkg z)
    · by_cases c2 : z = x
      · rw [if_neg c] at hy2
        rw [if_pos c2] at hz2
        rw [← Option.some.inj hz2] at hy2
        exact absurd hy2 (hkg y)
      · rw [if_neg c] at hy2
        rw [if_neg c2] at hz2
        exact h.inj y z j hy2 hz2
  · rcases h.all j hj with z | ⟨y, hy⟩
    · rcases List.mem_cons.mp (hp.mem_iff.mpr z) with e | z
      · exact .inr ⟨x, by rw [e]; exact if_pos rfl⟩
      · exact .inl z
    · refine .inr ⟨y, ?_⟩
      have c : y ≠ x := fun c => by
        obtain ⟨t, ht, e⟩ := h.on y j hy
        exact hx t ht (e.trans c)
      show (if y = x then some k else g y) = some j
      rw [if_neg c]
      exact hy
  · obtain ⟨z1, z2⟩ := h.left j (hp.mem_iff.mp (List.mem_cons_of_mem _ hj))
    refine ⟨z1, fun y hy => ?_⟩
    have hy2 : (if y = x then some k else g y) = some j := hy
    by_cases c : y = x
    · rw [if_pos c] at hy2
      rw [Option.some.inj hy2] at nd2
      exact nd2.1 hj
    · rw [if_neg c] at hy2
      exact z2 y hy2
/-- all set: the wheel's timers that are told by the table are those periodic ones -/
theorem LedOk.pinv {D P : Nat → Nat} {m n : Nat} {ms : List Tm} {g : Nat → Option Nat} (h : LedOk D P m n ms g []) (nd : (ms.map (·.num)).Nodup) : PInv D P m n n (projT g ms) := by
  refine ⟨fun t ht => ?_, fun i hi => ?_, ?_, ?_⟩
  · obtain ⟨t0, ht0, k, hk, rfl⟩ := proj_mem.mp ht
    obtain ⟨h1, h2, h3, h4⟩ := h.tms t0 ht0
    rcases h4 with ⟨j, hj, hjm, hd, hp⟩ | ⟨hn, _⟩
    · rw [hk] at hj
      obtain rfl := Option.some.inj hj
      refine ⟨hjm, hp, h2, Nat.le_of_eq h1, ⟨Nat.le_of_eq hd.symm, ?_⟩, .inl ⟨hd, h1⟩⟩
      show (t0.due - D k) % P k = 0
      rw [hd, Nat.sub_self, Nat.zero_mod]
    · rw [hk] at hn
      cases hn
  · rcases h.all i hi with z | ⟨x, hx⟩
    · exact absurd z List.not_mem_nil
    · obtain ⟨t, ht, e⟩ := h.on x i hx
      exact ⟨_, proj_mem.mpr ⟨t, ht, i, by rw [e]; exact hx, rfl⟩, rfl⟩
  · rw [proj_num]
    have H : ∀ l : List Nat, l.Nodup → (l.filterMap g).Nodup := by
      intro l
      induction l with
      | nil => exact fun _ => List.nodup_nil
      | cons x l ih =>
        intro nd
        obtain ⟨n1, n2⟩ := List.nodup_cons.mp nd
        cases e : g x with
        | none =>
          rw [List.filterMap_cons_none e]
          exact ih n2
        | some k =>
          rw [List.filterMap_cons_some e, List.nodup_cons]
          refine ⟨fun hk => ?_, ih n2⟩
          obtain ⟨y, hy, ey⟩ := List.mem_filterMap.mp hk
          rw [h.inj x y k e ey] at n1
          exact n1 hy
    exact H _ nd
  · refine List.Pairwise.imp_of_mem (R := fun _ _ => True) (fun {a c} ha hc _ => ?_) (List.pairwise_of_forall fun _ _ => trivial)
    obtain ⟨a0, ha0, k, _, rfl⟩ := proj_mem.mp ha
    obtain ⟨c0, hc0, j, _, rfl⟩ := proj_mem.mp hc
    show a0.since ≤ c0.since
    rw [(h.tms a0 ha0).1, (h.tms c0 hc0).1]
    exact Nat.le_refl _
/-- all but some places stay -/
def KX (xs : List Addr) (H H' : Hp) : Prop := ∀ c o, c ∉ xs → H c = some o → H' c = some o
theorem WheelAt.dict {C : Addr} {H H' : Hp} {p q l a : Addr} {W : WS} {kvs : List (Key × V)} (w : WheelAt C H p q l W) (ha : H a = some (.dK kvs)) (hl : a ≠ l) (s : ∀ c o, c ≠ a → H c = some o → H' c = some o) : WheelAt C H' p q l W := by
  obtain ⟨dx, h⟩ := w.ins
  obtain ⟨kvs, h2, L⟩ := w.live
  refine ⟨⟨dx, s _ _ (ne_of h ha (by intro z; cases z)) h⟩, s _ _ (ne_of w.words ha (by intro z; cases z)) w.words, ⟨kvs, s _ _ (Ne.symm hl) h2, L.frame fun t m e => s _ _ (ne_of e ha (by intro z; cases z)) e⟩⟩
/-- a dict tells a table -/
def TabG (kvs : List (Key × V)) (g : Nat → Option Nat) : Prop := ∀ x : Nat, valV kvs (Sum.inl ((x : Nat) : Int)) = (g x).map fun k => V.int (k : Nat)
theorem TabG.nil : TabG [] fun _ => none := fun _ => rfl
theorem TabG.put {kvs : List (Key × V)} {g : Nat → Option Nat} {x k : Nat} (h : TabG kvs g) : TabG (putK kvs (Sum.inl ((x : Nat) : Int)) (.int (k : Nat))) (fun y => if y = x then some k else g y) := fun y => by
  rw [valV_put]
  show _ = (if y = x then some k else g y).map fun k => V.int (k : Nat)
  by_cases c : y = x
  · have e : (Sum.inl ((y : Nat) : Int) : Key) = Sum.inl ((x : Nat) : Int) := by rw [c]
    rw [if_pos e, if_pos c]
    rfl
  · have e : ¬ (Sum.inl ((y : Nat) : Int) : Key) = Sum.inl ((x : Nat) : Int) := fun e => c (Int.ofNat.inj (Sum.inl.inj e))
    rw [if_neg e, if_neg c]
    exact h y
theorem putK_len (kvs : List (Key × V)) (k : Key) (v : V) : (putK kvs k v).length ≤ kvs.length + 1 := by
  unfold putK
  split
  · rw [List.length_map]
    exact Nat.le_succ _
  · rw [List.length_append]
    exact Nat.le_refl _
section
variable {P : Program} {w : World} {K : PySem.W.Frag} {mg : Str → Option Value} {base : Heap}
def spLed37 (C : Addr) : Sp := fun vs H Q _ => ∃ (s p q l S : Addr) (b n : Nat) (ws : List Bool) (ss : List Addr) (prs : List (Nat × Nat)), vs = [.ref s, .ref p, .ref S, .int (n : Nat)] ∧ SrcAt H s ∧ WheelAt C H p q l ⟨b, ws, n, 0, []⟩ ∧ WOk ⟨b, ws, n, 0, []⟩ ∧ q ≠ s ∧ S ≠ s ∧ H S = some (.lst (ss.map V.ref)) ∧ PrAt H ss prs ∧ prs.length ≤ 12 ∧ (∀ r ∈ prs, n < r.1 ∧ r.1 ≤ n + 90 ∧ 1 ≤ r.2 ∧ r.2 ≤ 4112) ∧ n < 2 ^ 195 ∧
  ∀ H' l' d f kvs g ms, KX [s, p, l] H H' → SrcAt H' s → (l' = l ∨ H l' = none) → H d = none → d ≠ l' → H' d = some (.dK kvs) → TabG kvs g → WheelAt C H' p q l' ⟨b, ws, n, f, ms⟩ → WOk ⟨b, ws, n, f, ms⟩ → LedOk (dOf prs) (pOf prs) prs.length n ms g [] → ms.length ≤ 24 → Q (.ref d) H'
theorem ok_led37 {f C : Addr} {fd : FuncData} (F : Fun K "_law_led" "_law_led" s__law_led f fd) (T : Tx K mg) (TW : TxW K mg C) (hP : HasPut P w K mg base 4 C) (h1 : Has P w K mg base 2 "_law_next" ["_law_source_here", "_law_many"] [] spNext) :
    FnOk P w K mg base CX0 5 f fd ["_law_source_here", "_law_wheel", "_law_pairs_here", "_law_begin"] (spLed37 C) := by
  have cl_Wheel := TW.cl
  obtain ⟨g1, gd1, gs1, G_Wheel_put, M_Wheel_put, b_Wheel_put, v_Wheel_put, bK_Wheel_put⟩ := hP
  obtain ⟨f__law_next, fd__law_next, ds__law_next, G__law_next, m__law_next, k__law_next, b__law_next, v__law_next⟩ := h1
  refine F.ok sc__law_led (fun vs H Q E h => ?_) (fun cdv A outer s0 H vs Q E hr h => ?_)
  · obtain ⟨s, p, q, l, S, b, n, ws, ss, prs, rfl, _⟩ := h
    rfl
  · obtain ⟨s, p, q, l0, S, b, n, ws, ss, prs, rfl, hs, hw, hok, nqs, nSs, hS, hPr, h12, hpr, hn, c⟩ := h
    have hu := hu_of hr
    refine ⟨_, (pss_cons (ps_set (i := 4) sc__law_led.nd rfl (.inl rfl) (pe_listRg rfl (by rfl) T.b_list (prg_1 (by rfl) T.b_range (pe_callB (lenK (K := K) rfl) (by rfl) T.b_len PySem.boot_len (pa_cons (pv 2) pa_nil)))))
      (pss_cons (ps_set (i := 5) sc__law_led.nd rfl (.inl rfl) pe_dnewK)
      (pss_cons (ps_while PassesOwn.never (pt_cmpR (op_neK (K := K) rfl hr.units) (pv 4) (pe_lst pa_nil) (nomark _))
        (pss_cons (ps_set (i := 6) sc__law_led.nd rfl (.inl rfl) (pe_bm PySem.F.plainAttrs_list PySem.F.slot_list_pop PySem.F.type_list_pop mt_popAt (pv 4) (pa_cons (pe_call G__law_next (hr.mono (by decide)) (by rfl) m__law_next k__law_next b__law_next v__law_next pass0 (pa_cons (pv 0) (pa_cons (pe_callB (lenK (K := K) rfl) (by rfl) T.b_len PySem.boot_len (pa_cons (pv 4) pa_nil)) pa_nil))) pa_nil)))
        (pss_cons (ps_if (pt_cmpR op_eq (pe_call G__law_next (hr.mono (by decide)) (by rfl) m__law_next k__law_next b__law_next v__law_next pass0 (pa_cons (pv 0) (pa_cons pe_int pa_nil))) pe_int (nomark _))
          (pss_one (ps_expr (pe_meth (pv 1) cl_Wheel M_Wheel_put G_Wheel_put hr b_Wheel_put v_Wheel_put pass0 (pa_cons (pe_op op_addN (pe_op op_addN (pv 3) pe_int) (pe_call G__law_next (hr.mono (by decide)) (by rfl) m__law_next k__law_next b__law_next v__law_next pass0 (pa_cons (pv 0) (pa_cons pe_int pa_nil)))) pa_nil))))
          pss_nil)
        (pss_one (ps_dput hu (pv 5) (pe_methK (pv 1) cl_Wheel M_Wheel_put G_Wheel_put hr bK_Wheel_put pass0 (pa_cons (pe_ix (ix_tupK (K := K) rfl) (pe_ix (ix_listK (K := K) rfl) (pv 2) (pv 6) (fun _ _ => rfl)) pe_int (fun _ _ => rfl)) pa_nil) (pk_cons (pe_ix (ix_tupK (K := K) rfl) (pe_ix (ix_listK (K := K) rfl) (pv 2) (pv 6) (fun _ _ => rfl)) pe_int (fun _ _ => rfl)) pk_nil)) (pv 6) rfl)))))
      (pss_one (ps_ret (pv 5)))))), ?_⟩
    have hsl := hPr.len
    refine ⟨_, rfl, S, _, rfl, .inl (SqL.of hS), _, rfl, RgOk.of_le (by decide) (by rw [List.length_map]; omega) (by decide) (by omega), fun Lf hLf => ?_⟩
    rw [List.length_map, hsl, rg_range]
    have u1 := same_upd (o := .lst ((List.range prs.length).map fun y => V.int (y : Nat))) hLf
    have eLf0 := upd_same (H := H) (a := Lf) (o := .lst ((List.range prs.length).map fun y => V.int (y : Nat)))
    generalize upd H Lf (.lst ((List.range prs.length).map fun y => V.int (y : Nat))) = H0 at u1 eLf0 ⊢
    intro d hd
    have u2 := same_upd (o := .dK []) hd
    have ed0 := upd_same (H := H0) (a := d) (o := .dK [])
    have hd0 : H d = none := u1.free hd
    have uu := u1.trans u2
    have eLf1 := u2 _ _ eLf0
    have hS1 := uu _ _ hS
    have hw1 := hw.same uu
    have hs1 := hs.same uu
    have nLfs : Lf ≠ s := hs.ne hLf
    have nds : d ≠ s := hs.ne hd0
    have nLfd : Lf ≠ d := fun e => by
      rw [← e, eLf0] at hd
      cases hd
    have nqLf : q ≠ Lf := ne_of_none hw.words hLf
    have nSLf : S ≠ Lf := ne_of_none hS hLf
    have nSd : S ≠ d := ne_of_none hS hd0
    obtain ⟨dx0, hp0⟩ := hw.ins
    obtain ⟨kv0, hl0, _⟩ := hw.live
    have nSp : S ≠ p := ne_of hS hp0 (by intro z; cases z)
    have nSl : S ≠ l0 := ne_of hS hl0 (by intro z; cases z)
    have ndl : d ≠ l0 := fun e => by
      rw [e, hl0] at hd0
      cases hd0
    have nLfp : Lf ≠ p := fun e => by
      rw [e, hp0] at hLf
      cases hLf
    have nLfl : Lf ≠ l0 := fun e => by
      rw [e, hl0] at hLf
      cases hLf
    have nS5 : S ∉ [s, p, l0, Lf, d] := by simp [nSs, nSp, nSl, nSLf, nSd]
    have nt5 : ∀ {c : Addr} {xs : List V}, H c = some (.tup xs) → c ∉ [s, p, l0, Lf, d] := fun {c xs} e => by
      obtain ⟨x, y, v, h⟩ := hs
      have n1 : c ≠ s := ne_of e h (by intro z; cases z)
      have n2 : c ≠ p := ne_of e hp0 (by intro z; cases z)
      have n3 : c ≠ l0 := ne_of e hl0 (by intro z; cases z)
      have n4 : c ≠ Lf := ne_of_none e hLf
      have n5 : c ≠ d := ne_of_none e hd0
      simp [n1, n2, n3, n4, n5]
    generalize upd H0 d (.dK []) = H1 at u2 ed0 uu eLf1 hS1 hw1 hs1 ⊢
    refine while_by (fun σ H' => ∃ (lf : List Nat) (l : Addr) (f : Nat) (ms : List Tm) (g : Nat → Option Nat) (kvs : List (Key × V)) (y6 : Option V), σ = [some (.ref s), some (.ref p), some (.ref S), some (.int (n : Nat)), some (.ref Lf), some (.ref d), y6] ∧ KX [s, p, l0, Lf, d] H1 H' ∧ SrcAt H' s ∧ H' Lf = some (.lst (lf.map fun y => V.int (y : Nat))) ∧ H' d = some (.dK kvs) ∧ TabG kvs g ∧ WheelAt C H' p q l ⟨b, ws, n, f, ms⟩ ∧ WOk ⟨b, ws, n, f, ms⟩ ∧ (l = l0 ∨ H1 l = none) ∧ d ≠ l ∧ Lf ≠ l ∧ LedOk (dOf prs) (pOf prs) prs.length n ms g lf ∧ lf.Nodup ∧ ms.length + 2 * lf.length ≤ 2 * prs.length ∧ kvs.length + lf.length ≤ prs.length) (fun _ H' => leftLen Lf H')
      ⟨List.range prs.length, l0, 0, [], fun _ => none, [], none, rfl, fun c o _ e => e, hs1, eLf1, ed0, TabG.nil, hw1, hok, .inl rfl, ndl, nLfl, LedOk.start _ _ _ _, List.nodup_range, by rw [List.length_range]; exact Nat.le_of_eq (Nat.zero_add _), by rw [List.length_range]; exact Nat.le_of_eq (Nat.zero_add _)⟩ ?_ ?_
    · rintro σ H2 ⟨lf, l, f, ms, g, kvs, y6, rfl, kx, src, eLf, ed, tg, hw2, ok2, hl2, ndl2, nLfl2, led, lnd, hfew, hkl⟩
      refine ⟨_, rfl, by simp [sizeLine_eq], fun z hz => ?_⟩
      have ul := same_upd (o := .lst []) hz
      have el := upd_same (H := H2) (a := z) (o := .lst [])
      generalize upd H2 z (.lst []) = H3 at ul el ⊢
      refine ⟨.list (lf.map fun x => PyData.int (x : Nat)), .list [], .lst (SqL.of (ul _ _ eLf)) (dp_nats _), .lst (SqL.of el) .nil, nats_shaped _, rfl, ?_⟩
      cases lf with
      | nil =>
        refine ⟨false, rfl, iteF ?_⟩
        refine ⟨_, rfl, c H3 l d f kvs g ms (fun c' o hc e => ?_) (src.same ul) (hl2.imp id fun e => uu.free e) hd0 ndl2 (ul _ _ ed) tg (hw2.same ul) ok2 led (by simp at hfew; omega)⟩
        have n4 : c' ≠ Lf := ne_of_none e hLf
        have n5 : c' ≠ d := ne_of_none e hd0
        refine ul _ _ (kx c' o ?_ (uu _ _ e))
        simp at hc ⊢
        exact ⟨hc.1, hc.2.1, hc.2.2, n4, n5⟩
      | cons j0 lf0 =>
        refine ⟨true, rfl, iteT ?_⟩
        obtain ⟨lf, elf⟩ : ∃ lf, lf = j0 :: lf0 := ⟨_, rfl⟩
        rw [← elf] at eLf led lnd hfew hkl
        have hlp : 0 < lf.length := by
          rw [elf]
          exact Nat.succ_pos _
        have hll : lf.length ≤ 12 := by omega
        have eLf3 := ul _ _ eLf
        have src3 := src.same ul
        have hw3 := hw2.same ul
        refine ⟨_, rfl, .inl ⟨rfl, _, SqL.of eLf3⟩, _, rfl, _, rfl, Lf, _, rfl, .inl (SqL.of eLf3), s, lf.length, ?_, by omega, by omega, src3, fun r H4 hr s4 => ?_⟩
        · rw [List.length_map]
          rfl
        have hr' : r < lf.length := by omega
        obtain ⟨j, hj⟩ : ∃ j, lf[r]? = some j := ⟨_, List.getElem?_eq_getElem hr'⟩
        have hjl := List.mem_of_getElem? hj
        have hjm : j < prs.length := (led.left j hjl).1
        have hg := List.getElem?_eq_getElem hjm
        have eLf4 := s4.keep _ _ nLfs eLf3
        have hw4 : WheelAt C H4 p q l ⟨b, ws, n, f, ms⟩ := by
          obtain ⟨x, y, v, ks⟩ := src3
          exact hw3.frame ks (Ne.symm nqs) s4.keep
        refine ⟨Lf, _, (r : Nat), r, V.int (j : Nat), rfl, rfl, eLf4, by omega, by omega, seq_at (by rw [List.length_map]; exact hr'), by rw [List.getElem?_map, hj]; rfl, ?_⟩
        rw [← PySem.map_eraseIdx]
        have hperm := erase_perm hj
        have hlen : (lf.eraseIdx r).length + 1 = lf.length := hperm.length_eq
        have k5 : ∀ c o, c ≠ Lf → H4 c = some o → (upd H4 Lf (.lst ((lf.eraseIdx r).map fun y => V.int (y : Nat)))) c = some o := fun c o n e => by
          rw [upd_ne n]
          exact e
        have hw5 := hw4.frame eLf4 (Ne.symm nqLf) k5
        have src5 : SrcAt (upd H4 Lf (.lst ((lf.eraseIdx r).map fun y => V.int (y : Nat)))) s := by
          obtain ⟨x, y, v, h⟩ := s4.src
          exact ⟨x, y, v, k5 _ _ (Ne.symm nLfs) h⟩
        have eLf5 := upd_same (H := H4) (a := Lf) (o := .lst ((lf.eraseIdx r).map fun y => V.int (y : Nat)))
        have ed5 : (upd H4 Lf (.lst ((lf.eraseIdx r).map fun y => V.int (y : Nat)))) d = some (.dK kvs) := k5 _ _ (Ne.symm nLfd) (s4.keep _ _ nds (ul _ _ ed))
        have kx5 : KX [s, p, l0, Lf, d] H1 (upd H4 Lf (.lst ((lf.eraseIdx r).map fun y => V.int (y : Nat)))) := fun c o hc e => by
          have hc2 := hc
          simp at hc2
          exact k5 _ _ hc2.2.2.2.1 (s4.keep _ _ hc2.1 (ul _ _ (kx c o hc e)))
        generalize upd H4 Lf (.lst ((lf.eraseIdx r).map fun y => V.int (y : Nat))) = H5 at hw5 src5 eLf5 ed5 kx5 ⊢
        clear k5 hw4 eLf4 s4 hw3 src3 eLf3 hw2 src ed kx
        -- perhaps another one
        refine ⟨_, rfl, s, 2, rfl, by decide, by decide, src5, fun r2 H6 hr2 s6 => ?_⟩
        have hw6 : WheelAt C H6 p q l ⟨b, ws, n, f, ms⟩ := by
          obtain ⟨x, y, v, ks⟩ := src5
          exact hw5.frame ks (Ne.symm nqs) s6.keep
        have eLf6 := s6.keep _ _ nLfs eLf5
        have ed6 := s6.keep _ _ nds ed5
        have kx6 : KX [s, p, l0, Lf, d] H1 H6 := fun c o hc e => by
          have hc2 := hc
          simp at hc2
          exact s6.keep _ _ hc2.1 (kx5 c o hc e)
        have src6 := s6.src
        clear kx5 ed5 eLf5 src5 hw5
        apply cut_rest (I := fun H8 => ∃ (l : Addr) (f : Nat) (ms : List Tm), KX [s, p, l0, Lf, d] H1 H8 ∧ SrcAt H8 s ∧ H8 Lf = some (.lst ((lf.eraseIdx r).map fun y => V.int (y : Nat))) ∧ H8 d = some (.dK kvs) ∧ WheelAt C H8 p q l ⟨b, ws, n, f, ms⟩ ∧ WOk ⟨b, ws, n, f, ms⟩ ∧ (l = l0 ∨ H1 l = none) ∧ d ≠ l ∧ Lf ≠ l ∧ LedOk (dOf prs) (pOf prs) prs.length n ms g lf ∧ ms.length + 2 * (lf.eraseIdx r).length + 1 ≤ 2 * prs.length)
        · intro join
          refine ⟨rfl, _, rfl, ite2 (fun e0 => ?_) (fun e0 => ?_)⟩
          rotate_left 1
          · obtain ⟨G0, eG0⟩ : ∃ G, G = H6 := ⟨_, rfl⟩
            rw [← eG0] at kx6 src6 eLf6 ed6 hw6 ⊢
            exact join G0 ⟨l, f, ms, kx6, src6, eLf6, ed6, hw6, ok2, hl2, ndl2, nLfl2, led, by omega⟩
          · obtain ⟨dx6, hp6⟩ := hw6.ins
            refine ⟨_, rfl, p, dx6, _, rfl, hp6, nm_put, _, rfl, n, 1, rfl, rfl, trivial, _, rfl, s, 150, rfl, by decide, by decide, src6, fun r3 H7 hr3 s7 => ?_⟩
            have hw7 : WheelAt C H7 p q l ⟨b, ws, n, f, ms⟩ := by
              obtain ⟨x, y, v, ks⟩ := src6
              exact hw6.frame ks (Ne.symm nqs) s7.keep
            have fewl : ms.length < 1000 := by omega
            refine ⟨n + 1, r3, rfl, rfl, trivial, p, q, l, ⟨b, ws, n, f, ms⟩, n + 1 + r3, none, rfl, hw7, ok2, fewl, by show n < n + 1 + r3; omega, (fun k e => by cases e), fun H8 k8 w8 => ?_⟩
            have ndp : d ≠ p := fun e => by
              rw [e, hp0] at hd0
              cases hd0
            have kx7 : KX [s, p, l0, Lf, d] H1 H7 := fun c o hc e => by
              have hc2 := hc
              simp at hc2
              exact s7.keep _ _ hc2.1 (kx6 c o hc e)
            refine join H8 ⟨l, f + 1, ms ++ [⟨f, n + 1 + r3, none, n⟩], fun c o hc e => ?_, ?_, k8.keep _ _ nLfp nLfl2 (s7.keep _ _ nLfs eLf6), k8.keep _ _ ndp ndl2 (s7.keep _ _ nds ed6), w8, okw_put ok2 fewl (by show n < n + 1 + r3; omega) (by omega) (fun k e => by cases e), hl2, ndl2, nLfl2, led.other (fun t ht => ?_) (by omega) (by omega), ?_⟩
            · have hc2 := hc
              simp at hc2
              refine k8.keep _ _ hc2.2.1 (fun z => ?_) (kx7 c o hc e)
              rcases hl2 with y | y
              · exact hc2.2.2.1 (z.trans y)
              · rw [← z, e] at y
                cases y
            · obtain ⟨x, y, v, h⟩ := s7.src
              exact ⟨x, y, v, k8.lst hw7 h⟩
            · have z : t.num < f := (ok2.tms t ht).num
              omega
            · rw [List.length_append]
              show ms.length + 1 + _ + 1 ≤ _
              omega
        · rintro H8 ⟨l, f, ms, kx8, src8, eLf8, ed8, hw8, ok8, hl8, ndl8, nLfl8, led8, hfew8⟩
          have ndp : d ≠ p := fun e => by
            rw [e, hp0] at hd0
            cases hd0
          have eS8 := kx8 _ _ nS5 hS1
          have hP8 := hPr.frame (H' := H8) fun t xs e => kx8 _ _ (nt5 e) (uu _ _ e)
          obtain ⟨t, etj, ht⟩ := hP8.get hg _ rfl
          have eget : (ss.map V.ref)[j]? = some (V.ref t) := by
            rw [List.getElem?_map, etj]
            rfl
          obtain ⟨dx8, hp8⟩ := hw8.ins
          have hrj := hpr _ (List.getElem_mem hjm)
          have fewl : ms.length < 1000 := by omega
          refine ⟨_, rfl, _, rfl, _, rfl, p, dx8, _, rfl, hp8, nm_put, _, rfl, _, rfl, S, _, j, _, rfl, rfl, SqL.of eS8, atI_nat eget, t, _, 0, _, rfl, rfl, SqT.of ht, rfl, _, rfl, _, rfl, S, _, j, _, rfl, rfl, SqL.of eS8, atI_nat eget, t, _, 1, _, rfl, rfl, SqT.of ht, rfl, rfl, rfl, p, q, l, ⟨b, ws, n, f, ms⟩, prs[j].1, some prs[j].2, rfl, hw8, ok8, fewl, hrj.1, (fun k e => by cases e; exact hrj.2.2.1), fun H9 k9 w9 => ?_⟩
          have ed9 := k9.keep _ _ ndp ndl8 ed8
          have eLf9 := k9.keep _ _ nLfp nLfl8 eLf8
          have hdD : dOf prs j = prs[j].1 := dOf_get hg
          have hpD : pOf prs j = prs[j].2 := pOf_get hg
          have kd : ∀ c o, c ≠ d → H9 c = some o → (upd H9 d (.dK (putK kvs (Sum.inl ((f : Nat) : Int)) (.int (j : Nat))))) c = some o := fun c o n e => by
            rw [upd_ne n]
            exact e
          have w10 := w9.dict ed9 ndl8 kd
          have led9 := led8.mine (k := j) (ls' := lf.eraseIdx r) (x := f) (fun t ht => by have z : t.num < f := (ok8.tms t ht).num; omega) hperm lnd (by rw [hdD]; exact hrj.1) (by rw [hdD]; omega)
          rw [hdD, hpD] at led9
          refine ⟨d, _, rfl, DPut.k (k := Sum.inl ((f : Nat) : Int)) ed9 (sizeLine_ge (by omega)), ⟨lf.eraseIdx r, l, f + 1, ms ++ [⟨f, prs[j].1, some prs[j].2, n⟩], _, _, _, rfl, fun c o hc e => ?_, ?_, kd _ _ nLfd eLf9, upd_same, tg.put, w10, okw_put ok8 fewl hrj.1 (by omega) (fun k e => by cases e; exact hrj.2.2.1), hl8, ndl8, nLfl8, led9, (List.nodup_cons.mp (hperm.nodup_iff.mpr lnd)).2, ?_, ?_⟩, ?_⟩
          · have hc2 := hc
            simp at hc2
            refine kd _ _ hc2.2.2.2.2 (k9.keep _ _ hc2.2.1 (fun z => ?_) (kx8 c o hc e))
            rcases hl8 with y | y
            · exact hc2.2.2.1 (z.trans y)
            · rw [← z, e] at y
              cases y
          · obtain ⟨x, y, v, h⟩ := src8
            exact ⟨x, y, v, kd _ _ (Ne.symm nds) (k9.lst hw8 h)⟩
          · rw [List.length_append]
            show ms.length + 1 + _ ≤ _
            omega
          · have z := putK_len kvs (Sum.inl ((f : Nat) : Int)) (.int (j : Nat))
            omega
          · unfold leftLen
            rw [kd _ _ nLfd eLf9, eLf]
            show ((lf.eraseIdx r).map _).length < (lf.map _).length
            rw [List.length_map, List.length_map]
            omega
    · rintro σ H' Q1 Q2 h ⟨x, hx, hs, k⟩
      refine ⟨x, hx, hs, fun l hl => ?_⟩
      obtain ⟨d, e, h1, h2, h3, h4, c, ec, q⟩ := k l hl
      exact ⟨d, e, h1, h2, h3, h4, c, ec, h _ _ q⟩
end
/-! ### advancing in parts -/
theorem AdvTo.trans {b : Nat} {ws : List Bool} {s t : Nat} (hst : s ≤ t) {ms ms' ms'' : List Tm} {f f' : List (Nat × List Nat)} (h : AdvTo b ws s ms f ms') (h' : AdvTo b ws t ms' f' ms'') : AdvTo b ws t ms (f ++ f') ms'' := by
  induction h with
  | done _ => exact h'
  | step h1 h2 ok nd few _ ih => exact .step h1 (Nat.le_trans h2 hst) ok nd few (ih h')
theorem AdvTo.uniq {b : Nat} {ws : List Bool} {t : Nat} {ms ms' ms'' : List Tm} {f f' : List (Nat × List Nat)} (h : AdvTo b ws t ms f ms') (h' : AdvTo b ws t ms f' ms'') : f = f' ∧ ms' = ms'' := by
  induction h generalizing f' with
  | done hd =>
    cases h' with
    | done _ => exact ⟨rfl, rfl⟩
    | step h1 h2 _ _ _ _ =>
      obtain ⟨m, hm, e⟩ := List.mem_map.mp (least_some.mp h1).1
      have z := hd m hm
      omega
  | step h1 h2 ok nd few r ih =>
    cases h' with
    | done hd =>
      obtain ⟨m, hm, e⟩ := List.mem_map.mp (least_some.mp h1).1
      have z := hd m hm
      omega
    | step k1 k2 _ _ _ r' =>
      have e := Option.some.inj (h1.symm.trans k1)
      subst e
      obtain ⟨e1, e2⟩ := ih r'
      exact ⟨by rw [e1], e2⟩
/-- advancing to the tick ahead of all due ticks changes nothing -/
theorem AdvTo.none_due {b : Nat} {ws : List Bool} {t : Nat} {ms ms' : List Tm} {f : List (Nat × List Nat)} (h : AdvTo b ws t ms f ms') (hd : ∀ m ∈ ms, t < m.due) : f = [] ∧ ms' = ms := by
  obtain ⟨e1, e2⟩ := h.uniq (.done hd)
  exact ⟨e1, e2⟩
/-- in two parts or in one -/
theorem AdvTo.parts {b : Nat} {ws : List Bool} {s t : Nat} (hst : s ≤ t) {ms ms1 ms2 ms3 : List Tm} {f1 f2 f3 : List (Nat × List Nat)} (h1 : AdvTo b ws s ms f1 ms1) (h2 : AdvTo b ws t ms1 f2 ms2) (h3 : AdvTo b ws t ms f3 ms3) : f3 = f1 ++ f2 ∧ ms3 = ms2 := h3.uniq (h1.trans hst h2)
/-! ### advancing any wheel: that it ends, and how often something fires -/
/-- how often a timer fires up to t -/
def frN (t : Nat) (m : Tm) : Nat := if t < m.due then 0 else match m.per with
  | none => 1
  | some k => 1 + (t - m.due) / k
theorem again_at {t : Nat} {m m' : Tm} (h : againM t m = some m') : ∃ k, m.per = some k ∧ m' = ⟨m.num, t + k, some k, t⟩ := by
  unfold againM at h
  cases ep : m.per with
  | none =>
    rw [ep] at h
    cases h
  | some k =>
    rw [ep] at h
    exact ⟨k, rfl, (Option.some.inj h).symm⟩
def sumF (t : Nat) (ms : List Tm) : Nat := (ms.map (frN t)).sum
theorem sumF_app (t : Nat) (a c : List Tm) : sumF t (a ++ c) = sumF t a + sumF t c := by
  unfold sumF
  rw [List.map_append, List.sum_append]
theorem sumF_cons (t : Nat) (m : Tm) (c : List Tm) : sumF t (m :: c) = frN t m + sumF t c := by
  unfold sumF
  rw [List.map_cons, List.sum_cons]
theorem sumF_perm {t : Nat} {a c : List Tm} (h : a.Perm c) : sumF t a = sumF t c := by
  induction h with
  | nil => rfl
  | cons m _ ih => rw [sumF_cons, sumF_cons, ih]
  | swap m n l =>
    rw [sumF_cons, sumF_cons, sumF_cons, sumF_cons]
    omega
  | trans _ _ h1 h2 => exact h1.trans h2
theorem sumF_split (t : Nat) (p : Tm → Bool) : ∀ l : List Tm, sumF t (l.filter fun m => !p m) + sumF t (l.filter p) = sumF t l
  | [] => rfl
  | m :: l => by
    have ih := sumF_split t p l
    cases c : p m with
    | true =>
      rw [List.filter_cons_of_neg (by simp [c]), List.filter_cons_of_pos c, sumF_cons, sumF_cons]
      omega
    | false =>
      rw [List.filter_cons_of_pos (by simp [c]), List.filter_cons_of_neg (by simp [c]), sumF_cons, sumF_cons]
      omega
theorem sumF_none {t : Nat} : ∀ {l : List Tm}, (∀ m ∈ l, t < m.due) → sumF t l = 0
  | [], _ => rfl
  | m :: l, h => by
    rw [sumF_cons, sumF_none fun x hx => h x (List.mem_cons_of_mem _ hx)]
    unfold frN
    rw [if_pos (h m (List.mem_cons_self ..))]
/-- those that fire at v fire once less from there on -/
theorem sumF_again {L v : Nat} (hv : v ≤ L) : ∀ {l : List Tm}, (∀ m ∈ l, m.due = v ∧ ∀ k, m.per = some k → 1 ≤ k) → sumF L (l.filterMap (againM v)) + l.length = sumF L l
  | [], _ => rfl
  | m :: l, h => by
    have ih := sumF_again hv (l := l) fun x hx => h x (List.mem_cons_of_mem _ hx)
    obtain ⟨hd, hp⟩ := h m (List.mem_cons_self ..)
    rw [sumF_cons, List.length_cons]
    have e0 : frN L m = match m.per with
      | none => 1
      | some k => 1 + (L - m.due) / k := by
      unfold frN
      rw [if_neg (by omega)]
    cases ep : m.per with
    | none =>
      have e1 : againM v m = none := by
        unfold againM
        rw [ep]
        rfl
      rw [List.filterMap_cons_none e1, e0, ep]
      show _ = 1 + _
      omega
    | some k =>
      have e1 : againM v m = some ⟨m.num, v + k, some k, v⟩ := by
        unfold againM
        rw [ep]
        rfl
      have hk := hp k ep
      rw [List.filterMap_cons_some e1, sumF_cons, e0, ep, hd]
      have e2 : frN L ⟨m.num, v + k, some k, v⟩ = (L - v) / k := by
        show (if L < v + k then 0 else 1 + (L - (v + k)) / k) = _
        by_cases c : L < v + k
        · rw [if_pos c, Nat.div_eq_of_lt (by omega)]
        · rw [if_neg c]
          have e3 : L - v = (L - (v + k)) + k := by omega
          rw [e3, Nat.add_div_right _ (by omega)]
          omega
      rw [e2]
      show _ = 1 + (L - v) / k + _
      omega
/-- timers that may be advanced up to L -/
structure AdvT (L : Nat) (m : Tm) : Prop where
  since : m.since < m.due
  due : m.due < 2 ^ 240
  per : ∀ k, m.per = some k → 1 ≤ k ∧ L + k < 2 ^ 240
theorem after_mem {b : Nat} {ws : List Bool} {v : Nat} {ms : List Tm} (nd : (ms.map (·.num)).Nodup) {m : Tm} (hm : m ∈ afterF v ms (orderAt b ws v ms)) : (m ∈ ms ∧ m.due ≠ v) ∨ ∃ m0 ∈ ms, m0.due = v ∧ ∃ k, m0.per = some k ∧ m = ⟨m0.num, v + k, some k, v⟩ := by
  rw [after_due nd] at hm
  rcases List.mem_append.mp hm with z | z
  · obtain ⟨z1, z2⟩ := List.mem_filter.mp z
    exact .inl ⟨z1, of_decide_eq_true z2⟩
  · obtain ⟨m0, z1, z2⟩ := List.mem_filterMap.mp z
    obtain ⟨z3, z4⟩ := List.mem_filter.mp (mem_deq.mp z1)
    obtain ⟨k, k1, k2⟩ := again_at z2
    exact .inr ⟨m0, z3, of_decide_eq_true z4, k, k1, k2⟩
theorem after_nodup {b : Nat} {ws : List Bool} {v : Nat} {ms : List Tm} (nd : (ms.map (·.num)).Nodup) : ((afterF v ms (orderAt b ws v ms)).map (·.num)).Nodup := by
  unfold afterF
  have all : ∀ (ns : List Nat) (l : List Tm), (l.map (·.num)).Nodup → ((ns.foldl (fireT v) l).map (·.num)).Nodup := by
    intro ns
    induction ns with
    | nil => exact fun l nd => nd
    | cons n ns ih => exact fun l nd => ih _ (fire_nodup nd)
  exact all _ _ nd
theorem after_sum {b : Nat} {ws : List Bool} {L v : Nat} {ms : List Tm} (hv : v ≤ L) (nd : (ms.map (·.num)).Nodup) (hp : ∀ m ∈ ms, ∀ k, m.per = some k → 1 ≤ k) : sumF L (afterF v ms (orderAt b ws v ms)) + (orderAt b ws v ms).length = sumF L ms := by
  rw [after_due nd, sumF_app, order_deq, List.length_map, Nat.add_assoc]
  rw [sumF_again hv (fun m hm => ?_)]
  · rw [sumF_perm (deq_perm _ _), ← sumF_split L (fun m => decide (m.due = v)) ms]
    congr 2
    refine List.filter_congr fun m _ => ?_
    by_cases c : m.due = v <;> simp [c]
  · obtain ⟨z3, z4⟩ := List.mem_filter.mp (mem_deq.mp hm)
    exact ⟨of_decide_eq_true z4, hp m z3⟩
theorem adv_gen (b : Nat) (ws : List Bool) {L t : Nat} (htL : t ≤ L) : ∀ (n : Nat) (ms : List Tm), sumF L ms ≤ n → (∀ m ∈ ms, AdvT L m) → (ms.map (·.num)).Nodup → ms.length ≤ 1000 →
    ∃ fired ms', AdvTo b ws t ms fired ms' ∧ total fired + sumF L ms' = sumF L ms ∧ (∀ m ∈ ms', AdvT L m ∧ t < m.due ∧ (m ∈ ms ∨ m.since ≤ t) ∧ ∃ m0 ∈ ms, m0.num = m.num ∧ m0.per = m.per) ∧ (ms'.map (·.num)).Nodup ∧ ms'.length ≤ ms.length ∧ fired.length ≤ total fired := by
  intro n
  induction n with
  | zero =>
    intro ms hs ok nd few
    refine ⟨[], ms, .done fun m hm => ?_, (by show 0 + _ = _; omega), fun m hm => ⟨ok m hm, ?_, .inl hm, m, hm, rfl, rfl⟩, nd, Nat.le_refl _, Nat.le_refl _⟩
    all_goals
      refine Classical.byContradiction fun no => ?_
      have pos : 0 < frN L m := by
        unfold frN
        rw [if_neg (by omega)]
        split
        · exact Nat.one_pos
        · exact Nat.lt_of_lt_of_le Nat.one_pos (Nat.le_add_right 1 _)
      have z : frN L m ≤ sumF L ms := by
        obtain ⟨a, c, e⟩ := List.append_of_mem hm
        rw [e, sumF_app, sumF_cons]
        omega
      omega
  | succ n ih =>
    intro ms hs ok nd few
    by_cases hd : ∀ m ∈ ms, t < m.due
    · exact ⟨[], ms, .done hd, (by show 0 + _ = _; omega), fun m hm => ⟨ok m hm, hd m hm, .inl hm, m, hm, rfl, rfl⟩, nd, Nat.le_refl _, Nat.le_refl _⟩
    · cases hl : leastD ms with
      | none =>
        rw [least_none.mp hl] at hd
        exact absurd (fun m hm => by cases hm) hd
      | some v =>
        obtain ⟨hv1, hv2⟩ := least_some.mp hl
        have hvt : v ≤ t := by
          refine Classical.byContradiction fun no => hd fun m hm => ?_
          have := hv2 _ (List.mem_map.mpr ⟨m, hm, rfl⟩)
          omega
        have hpos := order_pos (b := b) (ws := ws) hl
        have hsum := after_sum (b := b) (ws := ws) (L := L) (Nat.le_trans hvt htL) nd fun m hm k hk => ((ok m hm).per k hk).1
        obtain ⟨fired, ms', a1, a2, a3, a4, a5, a6⟩ := ih (afterF v ms (orderAt b ws v ms)) (by omega) (fun m hm => by
          rcases after_mem nd hm with ⟨z, _⟩ | ⟨m0, z1, z2, k, z3, rfl⟩
          · exact ok m z
          · obtain ⟨k1, k2⟩ := (ok m0 z1).per k z3
            exact ⟨(by show v < v + k; omega), (by show v + k < _; omega), fun k' e => by cases e; exact ⟨k1, k2⟩⟩) (after_nodup nd) (Nat.le_trans (fire_tick _ _ _) few)
        have etot : total ((v, orderAt b ws v ms) :: fired) = (orderAt b ws v ms).length + total fired := by
          unfold total
          rw [List.map_cons, List.sum_cons]
        refine ⟨(v, orderAt b ws v ms) :: fired, ms', .step hl hvt (fun m hm => ⟨(ok m hm).since, Nat.lt_trans (ok m hm).due (by decide)⟩) nd few a1, ?_, fun m hm => ?_, a4, Nat.le_trans a5 (fire_tick _ _ _), ?_⟩
        · rw [etot]
          omega
        · obtain ⟨b1, b2, b3, m1, b4, b5, b6⟩ := a3 m hm
          have src : ∀ {x : Tm}, x ∈ afterF v ms (orderAt b ws v ms) → (x ∈ ms ∨ x.since ≤ t) ∧ ∃ m0 ∈ ms, m0.num = x.num ∧ m0.per = x.per := fun {x} hx => by
            rcases after_mem nd hx with ⟨z, _⟩ | ⟨m0, z1, z2, k, z3, rfl⟩
            · exact ⟨.inl z, x, z, rfl, rfl⟩
            · exact ⟨.inr hvt, m0, z1, rfl, z3⟩
          refine ⟨b1, b2, ?_, ?_⟩
          · rcases b3 with c | c
            · exact (src c).1
            · exact .inr c
          · obtain ⟨m2, c1, c2, c3⟩ := (src b4).2
            exact ⟨m2, c1, c2.trans b5, c3.trans b6⟩
        · rw [List.length_cons, etot]
          omega
/-- a wheel that may be advanced up to L -/
structure FarW (L : Nat) (W : WS) : Prop where
  ok : WOk W
  adv : ∀ m ∈ W.live, AdvT L m
theorem FarW.go {L t : Nat} {W : WS} (h : FarW L W) (h1 : W.tick ≤ t) (h2 : t ≤ L) : ∃ fired ms', AdvTo W.b W.ws t W.live fired ms' ∧ total fired + sumF L ms' = sumF L W.live ∧ FarW L { W with tick := t, live := ms' } ∧ fired.length ≤ total fired ∧ ms'.length ≤ W.live.length := by
  obtain ⟨fired, ms', a1, a2, a3, a4, a5, a6⟩ := adv_gen W.b W.ws h2 _ W.live (Nat.le_refl _) h.adv h.ok.nd h.ok.few
  refine ⟨fired, ms', a1, a2, ⟨⟨h.ok.b2, h.ok.b64, h.ok.ne, h.ok.l60, fun m hm => ?_, a4, Nat.le_trans a5 h.ok.few⟩, fun m hm => (a3 m hm).1⟩, a6, a5⟩
  obtain ⟨b1, b2, b3, m0, b4, b5, b6⟩ := a3 m hm
  refine ⟨?_, b2, Nat.lt_trans b1.due (by decide), ?_, fun k hk => (b1.per k hk).1⟩
  · rcases b3 with c | c
    · exact Nat.le_trans (h.ok.tms m c).since h1
    · exact c
  · rw [← b5]
    exact (h.ok.tms m0 b4).num
/-! ### words at the end that only repeat tell nothing -/
theorem trimN_same {ws : List Bool} : ∀ n, 1 ≤ n → n ≤ ws.length → (∀ i, n - 1 ≤ i → i < ws.length → ws[i]? = ws[n - 1]?) → ∀ i, trimN ws n - 1 ≤ i → i < ws.length → ws[i]? = ws[trimN ws n - 1]?
  | 0, h, _, _ => by omega
  | n + 1, _, hl, h => by
    intro i h1 h2
    unfold trimN at h1 ⊢
    split at h1
    · rename_i c
      rw [if_pos c]
      refine trimN_same n c.1 (by omega) (fun j j1 j2 => ?_) i h1 h2
      by_cases e : j = n - 1
      · rw [e]
      · have z := h j (by omega) j2
        rw [Nat.add_sub_cancel] at z
        rw [z]
        exact c.2
    · rename_i c
      rw [if_neg c]
      exact h i h1 h2
theorem trim_word {ws : List Bool} (hne : ws ≠ []) (k : Nat) : wordAt (trimW ws) k = wordAt ws k := by
  have hp : 0 < ws.length := List.length_pos_iff.mpr hne
  have m0 := trimN_pos ws ws.length hp
  have m1 := trimN_le ws ws.length
  have same := trimN_same (ws := ws) ws.length hp (Nat.le_refl _) fun i h1 h2 => by
    rw [show i = ws.length - 1 by omega]
  unfold wordAt trimW
  have e1 : (ws.take (trimN ws ws.length)).length = trimN ws ws.length := by
    rw [List.length_take]
    omega
  rw [e1]
  rw [List.getD_eq_getElem?_getD, List.getD_eq_getElem?_getD, List.getElem?_take, if_pos (by omega)]
  by_cases c : k ≤ trimN ws ws.length - 1
  · rw [Nat.min_eq_left c, Nat.min_eq_left (by omega)]
  · rw [Nat.min_eq_right (by omega), ← same (min k (ws.length - 1)) (by omega) (by omega)]
theorem trim_side {ws : List Bool} (hne : ws ≠ []) (b n d lo : Nat) : sideT b (trimW ws) n d lo = sideT b ws n d lo := by
  unfold sideT
  split
  · unfold frontOf
    congr 3
    congr 1
    funext r
    rw [trim_word hne]
  · rfl
/-! ### trimmed words: the order of firing, the advance -/
theorem trim_order {b : Nat} {ws : List Bool} (hne : ws ≠ []) (t : Nat) (ms : List Tm) : orderAt b (trimW ws) t ms = orderAt b ws t ms := by
  rw [order_deq, order_deq]
  have es : (fun m : Tm => sideT b (trimW ws) m.since m.due 0) = fun m => sideT b ws m.since m.due 0 := by
    funext m
    exact trim_side hne _ _ _ _
  rw [es]
theorem adv_lens {b : Nat} {ws : List Bool} {t : Nat} {ms ms' : List Tm} {f : List (Nat × List Nat)} (h : AdvTo b ws t ms f ms') : f.length ≤ total f ∧ ∀ r ∈ f, r.2.length ≤ total f := by
  induction h with
  | done _ => exact ⟨Nat.le_refl _, fun r hr => by cases hr⟩
  | @step ms ms' at_ rest h1 h2 ok nd few r ih =>
    have e : total ((at_, orderAt b ws at_ ms) :: rest) = (orderAt b ws at_ ms).length + total rest := rfl
    have hp := order_pos (b := b) (ws := ws) h1
    rw [e]
    refine ⟨?_, fun r hr => ?_⟩
    · have := ih.1
      rw [List.length_cons]
      omega
    · rcases List.mem_cons.mp hr with rfl | hr
      · exact Nat.le_add_right _ _
      · have := ih.2 r hr
        omega
/-! ### law k37: the wheel between two steps; rows in the heap -/
theorem frN_le {L t : Nat} {m : Tm} (h : t < m.due) (hp : ∀ k, m.per = some k → 1 ≤ k) (hL : L ≤ t + 59) : frN L m ≤ 60 := by
  unfold frN
  split
  · omega
  · cases e : m.per with
    | none => show 1 ≤ 60; omega
    | some k =>
      show 1 + (L - m.due) / k ≤ 60
      have z := Nat.div_le_self (L - m.due) k
      omega
theorem sumF_le {L t : Nat} (hL : L ≤ t + 59) : ∀ {ms : List Tm}, (∀ m ∈ ms, t < m.due ∧ ∀ k, m.per = some k → 1 ≤ k) → sumF L ms ≤ 60 * ms.length
  | [], _ => Nat.le_refl _
  | m :: ms, h => by
    have z := sumF_le hL (ms := ms) fun x hx => h x (List.mem_cons_of_mem _ hx)
    obtain ⟨y1, y2⟩ := h m (List.mem_cons_self ..)
    have y := frN_le y1 y2 hL
    rw [sumF_cons, List.length_cons]
    omega
structure S37 (D P : Nat → Nat) (m n0 t : Nat) (g : Nat → Option Nat) (ms : List Tm) : Prop where
  pinv : PInv D P m n0 t (projT g ms)
  tms : ∀ x ∈ ms, t < x.due ∧ ∀ k, x.per = some k → 1 ≤ k
  adv : ∀ x ∈ ms, AdvT (n0 + 240) x
  few : ms.length ≤ 24
theorem S37.step {D P : Nat → Nat} {m n0 t e b f : Nat} {ws : List Bool} {g : Nat → Option Nat} {ms : List Tm} (hP : ∀ i, i < m → 1 ≤ P i) (h : S37 D P m n0 t g ms) (ok : WOk ⟨b, ws, t, f, ms⟩) (h1 : t ≤ e) (h2 : e ≤ t + 59) (h3 : e ≤ n0 + 240) :
    ∃ fired ms', AdvTo b ws e ms fired ms' ∧ total fired ≤ 2000 ∧ WOk ⟨b, ws, e, f, ms'⟩ ∧ S37 D P m n0 e g ms' ∧ RowsK D P m b ws t e (fired.map fun f => (f.1, f.2.filterMap g)) ∧ fired.length ≤ 2000 := by
  have adv : ∀ x ∈ ms, AdvT e x := fun x hx => by
    have z := h.adv x hx
    exact ⟨z.since, z.due, fun k hk => ⟨(z.per k hk).1, by have := (z.per k hk).2; omega⟩⟩
  obtain ⟨fired, ms', a1, a2, a3, a4, a5, a6⟩ := adv_gen b ws (Nat.le_refl e) _ ms (Nat.le_refl _) adv ok.nd ok.few
  have hs := sumF_le h2 h.tms
  have hfew := h.few
  obtain ⟨r1, r2, r3⟩ := proj_run (g := g) hP a1 t h1 h.pinv h.tms
  refine ⟨fired, ms', a1, by omega, ⟨ok.b2, ok.b64, ok.ne, ok.l60, fun x hx => ?_, a4, Nat.le_trans a5 ok.few⟩, ⟨r2, r3, fun x hx => ?_, Nat.le_trans a5 h.few⟩, r1, by omega⟩
  · obtain ⟨b1, b2, b3, m0, b4, b5, b6⟩ := a3 x hx
    refine ⟨?_, b2, Nat.lt_trans b1.due (by decide), ?_, fun k hk => (b1.per k hk).1⟩
    · rcases b3 with c | c
      · exact Nat.le_trans (ok.tms x c).since h1
      · exact c
    · rw [← b5]
      exact (ok.tms m0 b4).num
  · obtain ⟨b1, b2, b3, m0, b4, b5, b6⟩ := a3 x hx
    exact ⟨b1.since, b1.due, fun k hk => (h.adv m0 b4).per k (by rw [b6]; exact hk)⟩
/-- rows in the heap; their lists are none of X -/
def FA (X : List Addr) (H : Hp) : List Addr → List (Nat × List Nat) → Prop
  | [], [] => True
  | t :: ts, f :: fs => (∃ u, H t = some (.tup [.int (f.1 : Nat), .ref u]) ∧ u ∉ X ∧ H u = some (.lst (f.2.map fun x => V.int (x : Nat)))) ∧ FA X H ts fs
  | _, _ => False
theorem FA.frame {X Y : List Addr} {H H' : Hp} (s : ∀ t xs, H t = some (.tup xs) → H' t = some (.tup xs)) (s2 : ∀ u xs, u ∉ X → H u = some (.lst xs) → u ∉ Y ∧ H' u = some (.lst xs)) : ∀ {ts : List Addr} {fs : List (Nat × List Nat)}, FA X H ts fs → FA Y H' ts fs
  | [], [], _ => trivial
  | _ :: _, _ :: _, ⟨⟨u, h1, hn, h2⟩, h3⟩ => ⟨⟨u, s _ _ h1, (s2 _ _ hn h2).1, (s2 _ _ hn h2).2⟩, h3.frame s s2⟩
  | [], _ :: _, h => h.elim
  | _ :: _, [], h => h.elim
theorem FA.snoc {X : List Addr} {H : Hp} {t u : Addr} {f : Nat × List Nat} (h1 : H t = some (.tup [.int (f.1 : Nat), .ref u])) (h2 : u ∉ X) (h3 : H u = some (.lst (f.2.map fun x => V.int (x : Nat)))) : ∀ {ts : List Addr} {fs : List (Nat × List Nat)}, FA X H ts fs → FA X H (ts ++ [t]) (fs ++ [f])
  | [], [], _ => ⟨⟨u, h1, h2, h3⟩, trivial⟩
  | _ :: _, _ :: _, h => ⟨h.1, FA.snoc h1 h2 h3 h.2⟩
  | [], _ :: _, h => h.elim
  | _ :: _, [], h => h.elim
theorem FA.app {X : List Addr} {H : Hp} {us : List Addr} {gs : List (Nat × List Nat)} (h2 : FA X H us gs) : ∀ {ts : List Addr} {fs : List (Nat × List Nat)}, FA X H ts fs → FA X H (ts ++ us) (fs ++ gs)
  | [], [], _ => h2
  | _ :: _, _ :: _, h => ⟨h.1, FA.app h2 h.2⟩
  | [], _ :: _, h => h.elim
  | _ :: _, [], h => h.elim
theorem FA.len {X : List Addr} {H : Hp} : ∀ {ts : List Addr} {fs : List (Nat × List Nat)}, FA X H ts fs → ts.length = fs.length
  | [], [], _ => rfl
  | _ :: _, _ :: _, h => congrArg (· + 1) h.2.len
  | [], _ :: _, h => h.elim
  | _ :: _, [], h => h.elim
theorem FA.fired {X : List Addr} {H : Hp} {r : Addr} (hr : r ∈ X) : ∀ {ts : List Addr} {fs : List (Nat × List Nat)}, FA X H ts fs → FiredAt r H ts fs
  | [], [], _ => trivial
  | _ :: _, _ :: _, ⟨⟨u, h1, hn, h2⟩, h3⟩ => ⟨⟨u, h1, fun e => hn (by rw [e]; exact hr), h2⟩, h3.fired hr⟩
  | [], _ :: _, h => h.elim
  | _ :: _, [], h => h.elim
/-! ### law k37: many periodic timers by turns -/
theorem rowsK_trim {D P : Nat → Nat} {n b lo hi : Nat} {ws : List Bool} {rows : List (Nat × List Nat)} (hne : ws ≠ []) (h : RowsK D P n b (trimW ws) lo hi rows) : RowsK D P n b ws lo hi rows := by
  refine ⟨h.asc, fun f hf => ?_, h.all⟩
  obtain ⟨z1, z2, t0, u, msi, y1, y2, y3, y4⟩ := h.row f hf
  exact ⟨z1, z2, t0, u, msi, y1, y2, y3, by rw [y4, trim_order hne]⟩
section
variable {P : Program} {w : World} {K : PySem.W.Frag} {mg : Str → Option Value} {base : Heap}
def spLaw (K : PySem.W.Frag) : Sp := fun vs H Q _ => ∃ (a : Addr) (ns : List Int), vs = [.ref a] ∧ SqL K H a (ns.map V.int) ∧ ns.length ≤ 63 ∧ ∀ H', Q (.bl true) H'
theorem ok_law {f C : Addr} {fd : FuncData} (F : Fun K "law" "law" s_law f fd) (T : Tx K mg) (TW : TxW K mg C) (hI : HasInit P w K mg base 5 C)
    (h1 : Has P w K mg base 2 "_law_source" ["_law_script", "_law_k"] [] (spSource K)) (h2 : Has P w K mg base 3 "_law_base" ["_law_source_here"] [] spBase) (h3 : Has P w K mg base 3 "_law_levels" ["_law_source_here"] [] spLevels) (h4 : Has P w K mg base 3 "_law_tick" ["_law_source_here", "_law_base_here"] [] spTick)
    (h5 : Has P w K mg base 2 "_law_next" ["_law_source_here", "_law_many"] [] spNext) (h6 : Has P w K mg base 3 "_law_pairs" ["_law_source_here", "_law_base_here", "_law_begin", "_law_many"] [] spPairs32) (h7 : Has P w K mg base 5 "_law_led" ["_law_source_here", "_law_wheel", "_law_pairs_here", "_law_begin"] [] (spLed37 C))
    (h8 : Has P w K mg base 8 "_law_orders_right" ["_law_base_here", "_law_levels_here", "_law_pairs_here", "_law_rows"] [] (spOrders37 K)) (h9 : Has P w K mg base 7 "_law_counts_right" ["_law_base_here", "_law_levels_here", "_law_pairs_here", "_law_rows", "_law_begin", "_law_end"] [] (spCounts37 K))
    (m2 : HasM P w K mg base 6 C "advance" ["self", "tick"] [] (spAdvance C)) : FnOk P w K mg base CX0 9 f fd ["_law_script"] (spLaw K) := by
  have cl_Wheel := TW.cl
  obtain ⟨fi, fdi, M_Wheel, G_Wheel_init, b_Wheel_init⟩ := hI
  have c_Wheel := TW.mgC
  obtain ⟨f__law_source, fd__law_source, ds__law_source, G__law_source, m__law_source, k__law_source, b__law_source, v__law_source⟩ := h1
  obtain ⟨f__law_base, fd__law_base, ds__law_base, G__law_base, m__law_base, k__law_base, b__law_base, v__law_base⟩ := h2
  obtain ⟨f__law_levels, fd__law_levels, ds__law_levels, G__law_levels, m__law_levels, k__law_levels, b__law_levels, v__law_levels⟩ := h3
  obtain ⟨f__law_tick, fd__law_tick, ds__law_tick, G__law_tick, m__law_tick, k__law_tick, b__law_tick, v__law_tick⟩ := h4
  obtain ⟨f__law_next, fd__law_next, ds__law_next, G__law_next, m__law_next, k__law_next, b__law_next, v__law_next⟩ := h5
  obtain ⟨f__law_pairs, fd__law_pairs, ds__law_pairs, G__law_pairs, m__law_pairs, k__law_pairs, b__law_pairs, v__law_pairs⟩ := h6
  obtain ⟨f__law_led, fd__law_led, ds__law_led, G__law_led, m__law_led, k__law_led, b__law_led, v__law_led⟩ := h7
  obtain ⟨f__law_orders_right, fd__law_orders_right, ds__law_orders_right, G__law_orders_right, m__law_orders_right, k__law_orders_right, b__law_orders_right, v__law_orders_right⟩ := h8
  obtain ⟨f__law_counts_right, fd__law_counts_right, ds__law_counts_right, G__law_counts_right, m__law_counts_right, k__law_counts_right, b__law_counts_right, v__law_counts_right⟩ := h9
  obtain ⟨g2, gd2, gs2, G_Wheel_advance, M_Wheel_advance, b_Wheel_advance, v_Wheel_advance⟩ := m2
  refine F.ok sc_law (fun vs H Q E h => ?_) (fun cdv A outer s0 H vs Q E hr h => ?_)
  · obtain ⟨a, ns, rfl, _⟩ := h
    rfl
  · obtain ⟨a, ns, rfl, hS, hlen, fin⟩ := h
    have hu := hu_of hr
    refine ⟨_, (pss_cons (ps_for PassesOwn.never rfl (pi_range1 (by rfl) T.b_range (pa_cons (pe_callB (max2N rfl) (by rfl) T.b_max (by decide +kernel) (pa_cons pe_int (pa_cons (pe_callB (min2N rfl) (by rfl) T.b_min (by decide +kernel) (pa_cons pe_int (pa_cons (pe_callB (lenK (K := K) rfl) (by rfl) T.b_len PySem.boot_len (pa_cons (pv 0) pa_nil)) pa_nil))) pa_nil))) pa_nil)) (pg_name (i := 1) sc_law.nd rfl (.inl rfl))
        (pss_cons (ps_set (i := 2) sc_law.nd rfl (.inl rfl) (pe_call G__law_source (hr.mono (by decide)) (by rfl) m__law_source k__law_source b__law_source v__law_source pass0 (pa_cons (pv 0) (pa_cons (pv 1) pa_nil))))
        (pss_cons (ps_set (i := 3) sc_law.nd rfl (.inl rfl) (pe_call G__law_base (hr.mono (by decide)) (by rfl) m__law_base k__law_base b__law_base v__law_base pass0 (pa_cons (pv 2) pa_nil)))
        (pss_cons (ps_set (i := 4) sc_law.nd rfl (.inl rfl) (pe_call G__law_levels (hr.mono (by decide)) (by rfl) m__law_levels k__law_levels b__law_levels v__law_levels pass0 (pa_cons (pv 2) pa_nil)))
        (pss_cons (ps_set (i := 5) sc_law.nd rfl (.inl rfl) (pe_ix (ix_listK (K := K) rfl) (pe_lst (pa_cons (pe_call G__law_next (hr.mono (by decide)) (by rfl) m__law_next k__law_next b__law_next v__law_next pass0 (pa_cons (pv 2) (pa_cons pe_int pa_nil))) (pa_cons (pe_call G__law_tick (hr.mono (by decide)) (by rfl) m__law_tick k__law_tick b__law_tick v__law_tick pass0 (pa_cons (pv 2) (pa_cons (pv 3) pa_nil))) pa_nil))) (pe_call G__law_next (hr.mono (by decide)) (by rfl) m__law_next k__law_next b__law_next v__law_next pass0 (pa_cons (pv 2) (pa_cons pe_int pa_nil))) (fun _ _ => rfl)))
        (pss_cons (ps_set (i := 6) sc_law.nd rfl (.inl rfl) (pe_call G__law_pairs (hr.mono (by decide)) (by rfl) m__law_pairs k__law_pairs b__law_pairs v__law_pairs pass0 (pa_cons (pv 2) (pa_cons (pv 3) (pa_cons (pv 5) (pa_cons (pe_ix (ix_listK (K := K) rfl) (pe_lst (pa_cons (pe_op op_addN pe_int (pe_call G__law_next (hr.mono (by decide)) (by rfl) m__law_next k__law_next b__law_next v__law_next pass0 (pa_cons (pv 2) (pa_cons pe_int pa_nil)))) (pa_cons pe_int pa_nil))) (pe_callTy call_int1 (by rfl) T.b_int (by decide +kernel) (pa_cons (pe_cmpR op_eq (pe_call G__law_next (hr.mono (by decide)) (by rfl) m__law_next k__law_next b__law_next v__law_next pass0 (pa_cons (pv 2) (pa_cons pe_int pa_nil))) pe_int (nomark _)) pa_nil)) (fun _ _ => rfl)) pa_nil))))))
        (pss_cons (ps_set (i := 7) sc_law.nd rfl (.inl rfl) (pe_makeK M_Wheel G_Wheel_init (hr.mono (by decide)) (by rfl) c_Wheel b_Wheel_init pass0 (pa_cons (pv 3) (pa_cons (pv 4) pa_nil)) (pk_cons (pv 5) pk_nil)))
        (pss_cons (ps_set (i := 8) sc_law.nd rfl (.inr rfl) (pe_call G__law_led (hr.mono (by decide)) (by rfl) m__law_led k__law_led b__law_led v__law_led pass0 (pa_cons (pv 2) (pa_cons (pv 7) (pa_cons (pv 6) (pa_cons (pv 5) pa_nil))))))
        (pss_cons (ps_set (i := 9) sc_law.nd rfl (.inl rfl) (pe_lst pa_nil))
        (pss_cons (ps_set (i := 10) sc_law.nd rfl (.inl rfl) (pv 5))
        (pss_cons (ps_for PassesOwn.never rfl (pi_range1 (by rfl) T.b_range (pa_cons pe_int pa_nil)) (pg_name (i := 11) sc_law.nd rfl (.inl rfl))
          (pss_cons (ps_set (i := 12) sc_law.nd rfl (.inl rfl) (pe_op op_addN (pv 10) (pe_call G__law_next (hr.mono (by decide)) (by rfl) m__law_next k__law_next b__law_next v__law_next pass0 (pa_cons (pv 2) (pa_cons pe_int pa_nil)))))
          (pss_cons (ps_set (i := 13) sc_law.nd rfl (.inl rfl) (pe_lst pa_nil))
          (pss_cons (ps_for PassesOwn.never rfl (pi_list (pe_meth (pv 7) cl_Wheel M_Wheel_advance G_Wheel_advance (hr.mono (by decide)) b_Wheel_advance v_Wheel_advance pass0 (pa_cons (pv 12) pa_nil))) (pg_tupK (K := K) (n := 2) rfl rfl (pgs_cons (pg_name (i := 14) sc_law.nd rfl (.inl rfl)) (pgs_cons (pg_name (i := 15) sc_law.nd rfl (.inl rfl)) pgs_nil)))
            (pss_one (ps_expr (pe_bm PySem.F.plainAttrs_list PySem.F.slot_list_append PySem.F.type_list_append mt_append (pv 13) (pa_cons (pe_tup (pa_cons (pv 14) (pa_cons (pe_lc (own := [("_law_number", 16)]) (g := gName 16)  rfl sc_law.nd (pi_list (pv 15)) (blkOk_by (own := [("_law_number", 16)]) (N := N_law) (sc := defScope s_law) (by decide +kernel)) (fun _ _ _ _ _ => (pg_name (i := 16) sc_law.nd rfl (.inl rfl))) (fun _ _ _ _ _ => (pts_one (pt_cmp (pc_din hu (pv 16) (pv 8))))) (fun _ _ _ _ _ => (pe_dget hu (pv 8) (pv 16) (fun _ _ => rfl)))) pa_nil))) pa_nil)))))
          (pss_cons (ps_if (pt_not (pt_val (pe_call G__law_counts_right (hr.mono (by decide)) (by rfl) m__law_counts_right k__law_counts_right b__law_counts_right v__law_counts_right pass0 (pa_cons (pv 3) (pa_cons (pv 4) (pa_cons (pv 6) (pa_cons (pv 13) (pa_cons (pv 10) (pa_cons (pv 12) pa_nil)))))))))
            (pss_one (ps_ret pe_bl))
            pss_nil)
          (pss_cons (ps_set (i := 9) sc_law.nd rfl (.inl rfl) (pe_op op_cat (pv 9) (pv 13)))
          (pss_one (ps_set (i := 10) sc_law.nd rfl (.inl rfl) (pv 12)))))))))
        (pss_cons (ps_if (pt_not (pt_val (pe_call G__law_orders_right hr (by rfl) m__law_orders_right k__law_orders_right b__law_orders_right v__law_orders_right pass0 (pa_cons (pv 3) (pa_cons (pv 4) (pa_cons (pv 6) (pa_cons (pv 9) pa_nil)))))))
          (pss_one (ps_ret pe_bl))
          pss_nil)
        (pss_one (ps_if (pt_not (pt_val (pe_call G__law_counts_right (hr.mono (by decide)) (by rfl) m__law_counts_right k__law_counts_right b__law_counts_right v__law_counts_right pass0 (pa_cons (pv 3) (pa_cons (pv 4) (pa_cons (pv 6) (pa_cons (pv 9) (pa_cons (pv 5) (pa_cons (pv 10) pa_nil)))))))))
          (pss_one (ps_ret pe_bl))
          pss_nil))))))))))))))
      (pss_one (ps_ret pe_bl))), ?_⟩
    refine ⟨.ref a, rfl, a, ns.map V.int, rfl, .inl hS, 2, _, rfl, 1, _, rfl, _, rfl, by omega, by rw [List.length_map]; omega, for_range (Pv := fun i σ H' => SqL K H' a (ns.map V.int) ∧ ∃ y1 y2 y3 y4 y5 y6 y7 y8 y9 y10 y11 y12 y13 y14 y15, σ = [some (.ref a), y1, y2, y3, y4, y5, y6, y7, y8, y9, y10, y11, y12, y13, y14, y15, none]) ⟨hS, none, none, none, none, none, none, none, none, none, none, none, none, none, none, none, rfl⟩ ?_ ?_⟩
    · rintro i0 σ Hz hi ⟨hSz, y1, y2, y3, y4, y5, y6, y7, y8, y9, y10, y11, y12, y13, y14, y15, rfl⟩
      refine ⟨_, rfl, _, rfl, a, ns, 0 + i0, rfl, hSz, fun H1 ps s1 hp0 hsrc => ?_⟩
      refine ⟨_, rfl, ps, rfl, hsrc, fun b H2 hb hb64 s2 => ⟨_, rfl, ps, rfl, s2.src, fun H3 ql ws s3 hql0 hql hne h60 => ?_⟩⟩
      have nql : ql ≠ ps := s2.src.ne hql0
      -- the begin
      refine ⟨_, rfl, ps, 60, rfl, by decide, by decide, s3.src, fun r4 H4 hr4 s4 => ?_⟩
      refine ⟨_, rfl, _, rfl, ps, b, rfl, hb, hb64, s4.src, fun t5 H5 ht5 s5 => ⟨by simp [sizeLine_eq], fun l6 hl6 => ?_⟩⟩
      have s6 : Stp ps H5 (upd H5 l6 (.lst [.int (r4 : Nat), .int (t5 : Nat)])) := s5.src.stp_same (same_upd hl6)
      have nl6 : l6 ≠ ps := s5.src.ne hl6
      refine ⟨_, rfl, ps, 2, rfl, by decide, by decide, s6.src, fun r7 H7 hr7 s7 => ?_⟩
      obtain ⟨n, hn, en⟩ : ∃ n : Nat, n < 2 ^ 190 ∧ ([.int (r4 : Nat), .int (t5 : Nat)] : List V)[r7]? = some (.int (n : Nat)) := by
        have z : r7 = 0 ∨ r7 = 1 := by omega
        rcases z with rfl | rfl
        · exact ⟨r4, by omega, rfl⟩
        · exact ⟨t5, ht5, rfl⟩
      refine ⟨l6, _, r7, _, rfl, rfl, SqL.of (s7.keep _ _ nl6 upd_same), atI_nat en, ?_⟩
      have s17 : Stp ps H1 H7 := ((((s2.trans s3).trans s4).trans s5).trans s6).trans s7
      have hql7 : H7 ql = some (.lst (ws.map lvV)) := ((((s4.trans s5).trans s6).trans s7).keep _ _ nql hql)
      -- the timers
      refine ⟨_, rfl, _, rfl, _, rfl, _, rfl, ps, 4, rfl, by decide, by decide, s7.src, fun r8 H8 hr8 s8 => ⟨3, r8, rfl, rfl, trivial, by simp [sizeLine_eq], fun l9 hl9 => ?_⟩⟩
      have s9 : Stp ps H8 (upd H8 l9 (.lst [.int ((3 + r8 : Nat) : Int), .int 12])) := s8.src.stp_same (same_upd hl9)
      have nl9 : l9 ≠ ps := s8.src.ne hl9
      refine ⟨_, rfl, ps, 8, rfl, by decide, by decide, s9.src, fun r10 H10 hr10 s10 => ⟨rfl, .inr ⟨_, rfl, ?_⟩⟩⟩
      obtain ⟨m, hm3, hm12, em⟩ : ∃ m : Nat, 3 ≤ m ∧ m ≤ 12 ∧ atI ([.int ((3 + r8 : Nat) : Int), .int 12] : List V) (if decide (V.int (r10 : Nat) = V.int 0) = true then 1 else 0) = some (.int (m : Nat)) := by
        by_cases c : decide (V.int (r10 : Nat) = V.int 0) = true
        · rw [if_pos c]
          exact ⟨12, by decide, by decide, rfl⟩
        · rw [if_neg c]
          exact ⟨3 + r8, by omega, by omega, rfl⟩
      refine ⟨l9, _, _, _, rfl, rfl, SqL.of (s10.keep _ _ nl9 upd_same), em, ps, b, n, m, rfl, hb, hb64, hm12, s10.src, fun Hb S ss prs s11 nS hS0 eS hPr hpl hpr hnd => ?_⟩
      have s1b : Stp ps H1 Hb := (((s17.trans s8).trans s9).trans s10).trans s11
      have hqlb : Hb ql = some (.lst (ws.map lvV)) := (((s8.trans s9).trans s10).trans s11).keep _ _ nql hql7
      have hSb := seq_new hSz hp0 s1 s1b
      have hpne : prs ≠ [] := fun e => by
        rw [e] at hpl
        simp at hpl
        omega
      -- the wheel
      refine ⟨_, rfl, _, rfl, _, rfl, rfl, rfl, fun p dx hpn hdx0 nex => ?_⟩
      have u0 : Same Hb (upd (upd Hb dx (.own p)) p (.ins C dx [])) := fun c o e => by
        rw [upd_ne (ne_of_none e hpn), upd_ne (ne_of_none e hdx0)]
        exact e
      refine ⟨p, dx, ql, b, n, ws, rfl, upd_same, SqL.of (u0 _ _ hqlb), hb, hb64, hne, h60, fun H12 q l12 k12 hq12 hl12 hw12 => ⟨rfl, ?_⟩⟩
      have s12 : Same Hb H12 := fun c o e => k12 _ _ (ne_of_none e hpn) (u0 _ _ e)
      have nqs : q ≠ ps := s1b.src.ne (u0.free hq12)
      have hlb : Hb l12 = none := u0.free hl12
      have okF : WOk ⟨b, trimW ws, n, 0, []⟩ := ⟨hb, hb64, trim_ne hne, Nat.le_trans (trim_len ws) h60, (fun m h => by cases h), List.nodup_nil, Nat.zero_le _⟩
      have src12 := s1b.src.same s12
      -- the timers are put
      refine ⟨_, rfl, _, rfl, _, rfl, _, rfl, ps, p, q, l12, S, b, n, trimW ws, ss, prs, rfl, src12, hw12, okF, nqs, nS, s12 _ _ eS, hPr.frame (fun t xs e => s12 _ _ e), by omega, hpr, by omega, fun H13 l13 d f13 kvs g ms13 kx13 src13 hl13 hd13 ndl13 ed13 tg w13 ok13 led13 few13 => ?_⟩
      have nds : d ≠ ps := src12.ne hd13
      have hdb : Hb d = none := s12.free hd13
      have hlb13 : Hb l13 = none := by
        rcases hl13 with e | e
        · rw [e]
          exact hlb
        · exact s12.free e
      have sb13 : Stp ps Hb H13 := ⟨fun c o n1 e => kx13 c o (by
        have n2 : c ≠ p := ne_of_none e hpn
        have n3 : c ≠ l12 := ne_of_none e hlb
        simp [n1, n2, n3]) (s12 _ _ e), src13⟩
      have hP1 : ∀ i, i < prs.length → 1 ≤ pOf prs i := fun i hi => by
        rw [pOf_get (List.getElem?_eq_getElem hi)]
        exact (hpr _ (List.getElem_mem hi)).2.2.1
      have st13 : S37 (dOf prs) (pOf prs) prs.length n n g ms13 := by
        refine ⟨led13.pinv ok13.nd, fun x hx => ⟨(led13.tms x hx).2.1, fun k hk => ?_⟩, fun x hx => ?_, few13⟩
        · rcases (led13.tms x hx).2.2.2 with ⟨j, _, hj, _, hp⟩ | ⟨_, hp⟩
          · rw [hp] at hk
            rw [← Option.some.inj hk]
            exact hP1 j hj
          · rw [hp] at hk
            cases hk
        · obtain ⟨z1, z2, z3, z4⟩ := led13.tms x hx
          refine ⟨by omega, by omega, fun k hk => ?_⟩
          rcases z4 with ⟨j, _, hj, _, hp⟩ | ⟨_, hp⟩
          · rw [hp] at hk
            have e := Option.some.inj hk
            have y := (hpr _ (List.getElem_mem hj)).2.2
            rw [pOf_get (List.getElem?_eq_getElem hj)] at e
            omega
          · rw [hp] at hk
            cases hk
      clear led13 few13
      refine ⟨by simp [sizeLine_eq], fun E0 hE0 => ?_⟩
      have s14 := same_upd (o := .lst []) hE0
      have eE0 := upd_same (H := H13) (a := E0) (o := .lst [])
      have nE0s : E0 ≠ ps := src13.ne hE0
      have nE0q : E0 ≠ q := fun e => by
        rw [e, w13.words] at hE0
        cases hE0
      generalize upd H13 E0 (.lst []) = H14 at s14 eE0 ⊢
      refine ⟨_, rfl, ?_⟩
      refine ⟨_, rfl, by decide, by decide, for_range (Pv := fun i σ H' => ∃ (t f : Nat) (l : Addr) (ms : List Tm) (E : Addr) (tsE : List Addr) (rows : List (Nat × List Nat)) (y11 y12 y13 y14 y15 : Option V), σ = [some (.ref a), some (.int (0 + (i0 : Int))), some (.ref ps), some (.int (b : Nat)), some (.ref ql), some (.int (n : Nat)), some (.ref S), some (.ref p), some (.ref d), some (.ref E), some (.int (t : Nat)), y11, y12, y13, y14, y15, none] ∧ Stp ps Hb H' ∧ WheelAt C H' p q l ⟨b, trimW ws, t, f, ms⟩ ∧ WOk ⟨b, trimW ws, t, f, ms⟩ ∧ S37 (dOf prs) (pOf prs) prs.length n t g ms ∧ Hb l = none ∧ d ≠ l ∧ H' d = some (.dK kvs) ∧ H' E = some (.lst (tsE.map V.ref)) ∧ E ≠ ps ∧ E ≠ q ∧ FA [ps] H' tsE rows ∧ RowsK (dOf prs) (pOf prs) prs.length b ws n t rows ∧ rows.length ≤ 2000 * i ∧ n ≤ t ∧ t ≤ n + 59 * i)
        ⟨n, f13, l13, ms13, E0, [], [], y11, y12, y13, y14, y15, rfl, sb13.same s14, w13.same s14, ok13, st13, hlb13, ndl13, s14 _ _ ed13, eE0, nE0s, nE0q, trivial, RowsK.nil, Nat.zero_le _, Nat.le_refl _, Nat.le_refl _⟩ ?_ ?_⟩
      · rintro i σ H15 hi4 ⟨t, f, l, ms, E, tsE, rows, y11, y12, y13, y14, y15, rfl, sb, w15, ok, st, hl, ndl, ed, eE, nEs, nEq, hFA, hrows, hrl, hnt, htn⟩
        have srcb := sb.src
        have ndp : d ≠ p := fun e => by
          obtain ⟨dx, z⟩ := w15.ins
          rw [e, z] at ed
          cases ed
        refine ⟨_, rfl, _, rfl, ps, 60, rfl, by decide, by decide, srcb, fun r H16 hr16 s16 => ⟨t, r, rfl, rfl, trivial, by simp [sizeLine_eq], fun R hR => ?_⟩⟩
        have sb16 := sb.trans s16
        have w16 : WheelAt C H16 p q l ⟨b, trimW ws, t, f, ms⟩ := by
          obtain ⟨x, y, v, ks⟩ := srcb
          exact w15.frame ks (Ne.symm nqs) s16.keep
        have ed16 := s16.keep _ _ nds ed
        have eE16 := s16.keep _ _ nEs eE
        have hFA16 : FA [ps] H16 tsE rows := hFA.frame (fun t xs e => s16.keep _ _ (fun z => by
          obtain ⟨x, y, v, ks⟩ := srcb
          rw [z, ks] at e
          cases e) e) fun u xs hu e => ⟨hu, s16.keep _ _ (fun z => hu (by rw [z]; exact List.mem_cons_self ..)) e⟩
        have s17 := same_upd (o := .lst []) hR
        have eR17 := upd_same (H := H16) (a := R) (o := .lst [])
        have nRs : R ≠ ps := s16.src.ne hR
        have nRq : R ≠ q := fun e => by
          rw [e, w16.words] at hR
          cases hR
        have nRE : R ≠ E := fun e => by
          rw [e, eE16] at hR
          cases hR
        have nRd : R ≠ d := fun e => by
          rw [e, ed16] at hR
          cases hR
        have nRp : R ≠ p := fun e => by
          obtain ⟨dx, z⟩ := w16.ins
          rw [e, z] at hR
          cases hR
        have hRb : Hb R = none := sb16.free hR
        have hFA17 : FA [ps, R] (upd H16 R (.lst [])) tsE rows := hFA16.frame (fun t xs e => s17 _ _ e) fun u xs hu e => ⟨by
          have n1 : u ≠ R := ne_of_none e hR
          simp at hu
          simp [hu, n1], s17 _ _ e⟩
        have sb17 := sb16.same s17
        have w17 := w16.same s17
        have ed17 := s17 _ _ ed16
        have eE17 := s17 _ _ eE16
        generalize upd H16 R (.lst []) = H17 at s17 eR17 sb17 w17 ed17 eE17 hFA17 ⊢
        obtain ⟨fired, ms', hadv, htot, ok', st', hrk, hfl⟩ := st.step (e := t + r) hP1 ok (by omega) (by omega) (by omega)
        obtain ⟨dx17, hp17⟩ := w17.ins
        refine ⟨_, rfl, p, dx17, _, rfl, hp17, nm_advance, _, rfl, p, q, l, ⟨b, trimW ws, t, f, ms⟩, t + r, fired, ms', rfl, w17, hb, hb64, ok.ne, ok.few, by show t ≤ t + r; omega, hadv, htot, fun H18 rr l' ts k18 hrr er18 hF18 fr18 w18 => ?_⟩
        have hl' : Hb l' = none := by
          rcases k18.new with e | e
          · rw [e]
            exact hl
          · exact sb17.free e
        have ndl' : d ≠ l' := by
          rcases k18.new with e | e
          · rw [e]
            exact ndl
          · exact ne_of_none ed17 e
        have sb18 : Stp ps Hb H18 := ⟨fun c o n1 e => k18.keep _ _ (ne_of_none e hpn) (ne_of_none e hl) (sb17.keep _ _ n1 e), by
          obtain ⟨x, y, v, ks⟩ := sb17.src
          exact ⟨x, y, v, k18.lst w17 ks⟩⟩
        have ed18 := k18.keep _ _ ndp ndl ed17
        have eE18 := k18.lst w17 eE17
        have eR18 := k18.lst w17 eR17
        have hFA18 : FA [ps, R] H18 tsE rows := hFA17.frame (fun t xs e => k18.tup w17 e) fun u xs hu e => ⟨hu, k18.lst w17 e⟩
        refine ⟨rr, rfl, ⟨_, SqL.of er18⟩, for_list (K := K) (a := rr) (xs := ts.map V.ref) (fun j σ H' => ∃ (tsR : List Addr) (y14 y15 : Option V), σ = [some (.ref a), some (.int (0 + (i0 : Int))), some (.ref ps), some (.int (b : Nat)), some (.ref ql), some (.int (n : Nat)), some (.ref S), some (.ref p), some (.ref d), some (.ref E), some (.int (t : Nat)), some (.int (0 + (i : Int))), some (.int ((t + r : Nat) : Int)), some (.ref R), y14, y15, none] ∧ (∀ c o, c ≠ R → H18 c = some o → H' c = some o) ∧ H' R = some (.lst (tsR.map V.ref)) ∧ FA [ps, R] H' tsR ((fired.take j).map fun f => (f.1, f.2.filterMap g)))
          ⟨[], y14, y15, rfl, fun c o _ e => e, eR18, trivial⟩ (fun j σ H' _ ⟨_, _, _, _, kk, _⟩ => SqL.of (kk _ _ (fun z => by rw [z, eR17] at hrr; cases hrr) er18)) ?_ ?_⟩
        · rintro j x σ H19 hx ⟨tsR, y14, y15, rfl, kk, eR, hFR⟩
          obtain ⟨tt, fi, u, rfl, hfi, htt, nur, hu18⟩ := hF18.item hx
          have hfm := List.mem_of_getElem? hfi
          have hfr : H17 u = none := by
            obtain ⟨a0, u0, z1, z2⟩ := fr18 tt (by
              obtain ⟨y, hy⟩ := List.getElem?_of_mem (List.mem_of_getElem? hx)
              obtain ⟨t0, ht0, e0⟩ := List.mem_map.mp (List.mem_of_getElem? hx)
              rw [V.ref.inj e0] at ht0
              exact ht0)
            rw [htt] at z1
            have z3 : V.ref u = V.ref u0 := by
              injection z1 with z1
              injection z1 with z1
              injection z1 with _ z1
              injection z1
            rw [V.ref.inj z3]
            exact z2
          have nuR : u ≠ R := fun z => by
            rw [z, eR17] at hfr
            cases hfr
          have htR : tt ≠ R := ne_of htt eR18 (by intro z; cases z)
          have hul : fi.2.length ≤ 2000 := by
            have z := (adv_lens hadv).2 fi hfm
            omega
          refine ⟨tt, _, rfl, .inl (.inl (kk _ _ htR htt)), rfl, _, _, rfl, _, _, rfl, rfl, ?_⟩
          have hu19 := kk _ _ nuR hu18
          have ed19 := kk _ _ (Ne.symm nRd) ed18
          refine ⟨_, rfl, .inl ⟨rfl, _, .inl (.inl eR)⟩, _, rfl, _, rfl, u, rfl, ⟨_, SqL.of hu19⟩, fun D hD => lc_list (K := K) (a := u) (xs := fi.2.map fun x => V.int (x : Nat)) (fun m H' => Same H19 H' ∧ ∃ ks : List Nat, H' D = some (.lst (ks.map fun x : Nat => V.int (x : Nat))) ∧ ks = (fi.2.take m).filterMap g)
            ⟨same_upd hD, [], upd_same, rfl⟩ (fun m H' _ ⟨s4, _⟩ => SqL.of (s4 _ _ hu19)) ?_ ?_⟩
          · rintro m x H20 hx2 ⟨s20, ks, eD, eks⟩
            have hm : m < fi.2.length := by
              have z := (List.getElem?_eq_some_iff.mp hx2).1
              rw [List.length_map] at z
              exact z
            rw [List.getElem?_map, List.getElem?_eq_getElem hm] at hx2
            obtain rfl := (Option.some.inj hx2).symm
            have ed20 := s20 _ _ ed19
            have htg := tg fi.2[m]
            have dg : DGet H20 d (.int (fi.2[m] : Nat)) ((g fi.2[m]).map fun k => V.int (k : Nat)) := by
              rw [← htg]
              exact DGet.k (k := Sum.inl ((fi.2[m] : Nat) : Int)) ed20
            have etk : (fi.2.take (m + 1)).filterMap g = (fi.2.take m).filterMap g ++ [fi.2[m]].filterMap g := by rw [List.take_succ_eq_append_getElem hm, List.filterMap_append]
            have hkl : ks.length ≤ 2000 := by
              rw [eks]
              refine Nat.le_trans (List.length_filterMap_le _ _) ?_
              rw [List.length_take]
              omega
            cases hgn : g fi.2[m] with
            | none =>
              rw [hgn] at dg
              refine ⟨rfl, _, rfl, _, rfl, d, _, rfl, dg, _, rfl, iteF ⟨s20, ks, eD, ?_⟩⟩
              rw [etk, List.filterMap_cons_none hgn, List.filterMap_nil, List.append_nil]
              exact eks
            | some k =>
              rw [hgn] at dg
              refine ⟨rfl, _, rfl, _, rfl, d, _, rfl, dg, _, rfl, iteT ⟨_, rfl, _, rfl, d, _, rfl, dg, _, eD, ?_, fun c o z => ?_, ks ++ [k], ?_, ?_⟩⟩
              · rw [List.length_map]
                exact sizeLine_ge (by omega)
              · rw [upd_ne (ne_of_none z hD)]
                exact s20 _ _ z
              · rw [upd_same, List.map_append]
                rfl
              · rw [etk, List.filterMap_cons_some hgn, List.filterMap_nil, eks]
          · rintro H20 ⟨s20, ks, eD, eks⟩
            rw [List.length_map, List.take_length] at eks
            refine ⟨by simp [sizeLine_eq], fun TT hTT => ?_⟩
            have s21 := same_upd (o := .tup [.int (fi.1 : Nat), .ref D]) hTT
            have eTT := upd_same (H := H20) (a := TT) (o := .tup [.int (fi.1 : Nat), .ref D])
            have eR21 := s21 _ _ (s20 _ _ eR)
            have eD21 := s21 _ _ eD
            have nDR : D ≠ R := fun z => by
              rw [z, eR] at hD
              cases hD
            have nDs : D ≠ ps := fun z => by
              obtain ⟨x, y, v, ks0⟩ := sb18.src
              rw [z, kk _ _ (Ne.symm nRs) ks0] at hD
              cases hD
            have s19 := s20.trans s21
            generalize upd H20 TT (.tup [.int (fi.1 : Nat), .ref D]) = H21 at s21 eTT eR21 eD21 s19 ⊢
            have hFl := hFR.len
            have hfl2 : tsR.length ≤ 2000 := by
              rw [hFl, List.length_map, List.length_take]
              omega
            refine ⟨R, _, _, rfl, rfl, eR21, ?_, tsR ++ [TT], some (.int (fi.1 : Nat)), some (.ref u), rfl, fun c o n1 e => ?_, ?_, ?_⟩
            · rw [List.length_map]
              exact sizeLine_ge (by omega)
            · rw [upd_ne n1]
              exact s19 _ _ (kk _ _ n1 e)
            · rw [upd_same, List.map_append]
              rfl
            · have k22 : ∀ c o, c ≠ R → H21 c = some o → (upd H21 R (.lst (tsR.map V.ref ++ [V.ref TT]))) c = some o := fun c o n1 e => by
                rw [upd_ne n1]
                exact e
              have hF22 : FA [ps, R] (upd H21 R (.lst (tsR.map V.ref ++ [V.ref TT]))) tsR ((fired.take j).map fun f => (f.1, f.2.filterMap g)) := hFR.frame (fun t xs e => k22 _ _ (ne_of (s19 _ _ e) eR21 (by intro z; cases z)) (s19 _ _ e)) fun v xs hv e => ⟨hv, k22 _ _ (fun z => hv (by simp [z])) (s19 _ _ e)⟩
              rw [List.take_add_one, hfi, Option.toList_some, List.map_append]
              refine hF22.snoc (u := D) (f := (fi.1, fi.2.filterMap g)) (k22 _ _ (ne_of eTT eR21 (by intro z; cases z)) eTT) (by simp [nDs, nDR]) ?_
              rw [← eks]
              exact k22 _ _ nDR eD21
        · rintro σ H19 ⟨tsR, y14, y15, rfl, kk, eR, hFR⟩
          rw [List.length_map, hF18.len, List.take_length] at hFR
          have sb19 : Stp ps Hb H19 := ⟨fun c o n1 e => kk _ _ (ne_of_none e hRb) (sb18.keep _ _ n1 e), by
            obtain ⟨x, y, v, ks0⟩ := sb18.src
            exact ⟨x, y, v, kk _ _ (Ne.symm nRs) ks0⟩⟩
          have hP19 := hPr.tups sb19 s1b.src
          have w19 := w18.frame eR18 nRq kk
          have hFA19 : FA [ps, R] H19 tsE rows := hFA18.frame (fun t xs e => kk _ _ (ne_of e eR18 (by intro z; cases z)) e) fun u xs hu e => ⟨hu, kk _ _ (fun z => hu (by simp [z])) e⟩
          have eE19 := kk _ _ (Ne.symm nRE) eE18
          have ed19 := kk _ _ (Ne.symm nRd) ed18
          have hrl2 : (fired.map fun f => (f.1, f.2.filterMap g)).length ≤ 2000 := by
            rw [List.length_map]
            exact hfl
          refine ⟨_, rfl, _, rfl, _, rfl, _, rfl, _, rfl, _, rfl, b, t, t + r, ql, S, R, ps, ws, ss, tsR, prs, _, rfl, hb, hb64, SqL.of (sb19.keep _ _ nql hqlb), hne, h60, by omega, by omega, by omega, sb19.keep _ _ nS eS, hP19, by omega, fun r hr => ⟨by have := hpr r hr; omega, (hpr r hr).2.2.1, (hpr r hr).2.2.2⟩, hnd, eR, hFR.fired (List.mem_cons_self ..), by omega, rowsK_trim hne hrk, fun H22 s22 => ?_⟩
          refine ⟨true, rfl, iteF ?_⟩
          have s1922 := s22
          have eE22 := s22 _ _ eE19
          have eR22 := s22 _ _ eR
          have etl := hFA.len
          have etl2 := hFR.len
          refine ⟨_, rfl, _, rfl, E, R, _, _, rfl, rfl, eE22, eR22, ?_, fun E2 hE2 => ?_⟩
          · simp only [List.length_map] at etl2 hrl2 ⊢
            exact sizeLine_le (by omega)
          have s23 := same_upd (o := .lst (tsE.map V.ref ++ tsR.map V.ref)) hE2
          have eE23 := upd_same (H := H22) (a := E2) (o := .lst (tsE.map V.ref ++ tsR.map V.ref))
          have nE2s : E2 ≠ ps := (sb19.src.same s22).ne hE2
          have nE2q : E2 ≠ q := fun e => by
            rw [e, s22 _ _ w19.words] at hE2
            cases hE2
          have s24 := s22.trans s23
          refine ⟨_, rfl, t + r, f, l', ms', E2, tsE ++ tsR, rows ++ fired.map (fun f => (f.1, f.2.filterMap g)), _, _, _, _, _, rfl, sb19.same s24, w19.same s24, ok', st', hl', ndl', s24 _ _ ed19, ?_, nE2s, nE2q, ?_, hrows.app (rowsK_trim hne hrk) hnt (by omega), ?_, by omega, by omega⟩
          · rw [List.map_append]
            exact eE23
          · refine FA.app ?_ ?_
            · exact hFR.frame (fun t xs e => s24 _ _ e) fun u xs hu e => ⟨fun z => hu (by simp at z; simp [z]), s24 _ _ e⟩
            · exact hFA19.frame (fun t xs e => s24 _ _ e) fun u xs hu e => ⟨fun z => hu (by simp at z; simp [z]), s24 _ _ e⟩
          · rw [List.length_append]
            omega
      · rintro σ H15 ⟨t, f, l, ms, E, tsE, rows, y11, y12, y13, y14, y15, rfl, sb, w15, ok, st, hl, ndl, ed, eE, nEs, nEq, hFA, hrows, hrl, hnt, htn⟩
        have hPb := hPr.tups sb s1b.src
        have hi4 : rows.length ≤ 8000 := by
          have z : rows.length ≤ 2000 * ((4 : Int).toNat) := hrl
          have y : ((4 : Int)).toNat = 4 := rfl
          omega
        have ht4 : t ≤ n + 236 := by
          have y : ((4 : Int)).toNat = 4 := rfl
          have z : t ≤ n + 59 * ((4 : Int).toNat) := htn
          omega
        refine ⟨_, rfl, _, rfl, _, rfl, _, rfl, b, n, t, ql, S, E, ps, ws, ss, tsE, prs, rows, rfl, hb, hb64, SqL.of (sb.keep _ _ nql hqlb), hne, h60, by omega, sb.keep _ _ nS eS, hPb, hpne, by omega, fun r hr => (hpr r hr).2.2.1, hnd, eE, hFA.fired (List.mem_cons_self ..), hrows, fun H22 s22 => ⟨true, rfl, iteF ?_⟩⟩
        have sb22 := sb.same s22
        refine ⟨_, rfl, _, rfl, _, rfl, _, rfl, _, rfl, _, rfl, b, n, t, ql, S, E, ps, ws, ss, tsE, prs, rows, rfl, hb, hb64, SqL.of (sb22.keep _ _ nql hqlb), hne, h60, by omega, hnt, by omega, sb22.keep _ _ nS eS, hPr.tups sb22 s1b.src, by omega, fun r hr => ⟨by have := hpr r hr; omega, (hpr r hr).2.2.1, (hpr r hr).2.2.2⟩, hnd, s22 _ _ eE, (hFA.fired (List.mem_cons_self ..)).same s22, by omega, hrows, fun H23 s23 => ⟨true, rfl, iteF ?_⟩⟩
        exact ⟨seq_new hSz hp0 s1 (s1b.trans (sb22.same s23)), _, _, _, _, _, _, _, _, _, _, _, _, _, _, _, rfl⟩
    · rintro σ H' ⟨hS', y1, y2, y3, y4, y5, y6, y7, y8, y9, y10, y11, y12, y13, y14, y15, rfl⟩
      exact fin _
end
theorem all_mk {l : PySem.W.OpenLaw} {w : World} {K : PySem.W.Frag} {h : Heap} {mg : Str → Option Value} {fa : Addr} (X : K.In h) (G : h.Ns mainGlobals mg) (hfa : mg "law" = some (.ref fa))
    {f_WORDS : Addr} {od_WORDS : Option Addr} {tk0_WORDS tk1_WORDS : Tok} {tn_WORDS : Nat} {ts_WORDS : Array (Option Value)}
    {tk_MOST_LEVELS : Tok}
    {tk_MOST_MEETINGS : Tok}
    {tk_MOST_FIRINGS : Tok}
    {f_wall f_is_integer f_is_word f_is_base f_is_length f_are_levels f_is_tick f_is_period f_check_base f_check_levels f_check_tick f_word_at f_level_and_size f_path f_goes_in_front f_with_timer f_firing_order f_is_periodic f_check_periodic f_check_two f_check_several f_fires_again f_divisor_and_factor f_meetings f_is_ahead f_order_at f_times_first f_without_repeats f_check_period f_order_of_firing f_standing f_least_due f_after_firing f_law_cell_at f_law_mixed f_law_source f_law_next f_law_base f_law_levels f_law_tick f_law_pairs f_law_led f_law_order f_law_orders_right f_law_ahead f_law_counts_right f_law : Addr}
    {od_wall an_wall od_is_integer an_is_integer od_is_word an_is_word od_is_base an_is_base od_is_length an_is_length od_are_levels an_are_levels od_is_tick an_is_tick od_is_period an_is_period od_check_base an_check_base od_check_levels an_check_levels od_check_tick an_check_tick od_word_at an_word_at od_level_and_size an_level_and_size od_path an_path od_goes_in_front an_goes_in_front od_with_timer an_with_timer od_firing_order an_firing_order od_is_periodic an_is_periodic od_check_periodic an_check_periodic od_check_two an_check_two od_check_several an_check_several od_fires_again an_fires_again od_divisor_and_factor an_divisor_and_factor od_meetings an_meetings od_is_ahead an_is_ahead od_order_at an_order_at od_times_first an_times_first od_without_repeats an_without_repeats od_check_period an_check_period od_order_of_firing an_order_of_firing od_standing an_standing od_least_due an_least_due od_after_firing an_after_firing od_law_cell_at an_law_cell_at od_law_mixed an_law_mixed od_law_source an_law_source od_law_next an_law_next od_law_base an_law_base od_law_levels an_law_levels od_law_tick an_law_tick od_law_pairs an_law_pairs od_law_led an_law_led od_law_order an_law_order od_law_orders_right an_law_orders_right od_law_ahead an_law_ahead od_law_counts_right an_law_counts_right od_law an_law : Option Addr}
    {sl_wall sl_is_integer sl_is_word sl_is_base sl_is_length sl_are_levels sl_is_tick sl_is_period sl_check_base sl_check_levels sl_check_tick sl_word_at sl_level_and_size sl_path sl_goes_in_front sl_with_timer sl_firing_order sl_is_periodic sl_check_periodic sl_check_two sl_check_several sl_fires_again sl_divisor_and_factor sl_meetings sl_is_ahead sl_order_at sl_times_first sl_without_repeats sl_check_period sl_order_of_firing sl_standing sl_least_due sl_after_firing sl_law_cell_at sl_law_mixed sl_law_source sl_law_next sl_law_base sl_law_levels sl_law_tick sl_law_pairs sl_law_led sl_law_order sl_law_orders_right sl_law_ahead sl_law_counts_right sl_law : Array (Option Value)}
    {oc_wall kV_wall dc_wall pm_wall cd_wall ct_wall oc_is_integer kV_is_integer dc_is_integer pm_is_integer cd_is_integer ct_is_integer oc_is_word kV_is_word dc_is_word pm_is_word cd_is_word ct_is_word oc_is_base kV_is_base dc_is_base pm_is_base cd_is_base ct_is_base oc_is_length kV_is_length dc_is_length pm_is_length cd_is_length ct_is_length oc_are_levels kV_are_levels dc_are_levels pm_are_levels cd_are_levels ct_are_levels oc_is_tick kV_is_tick dc_is_tick pm_is_tick cd_is_tick ct_is_tick oc_is_period kV_is_period dc_is_period pm_is_period cd_is_period ct_is_period oc_check_base kV_check_base dc_check_base pm_check_base cd_check_base ct_check_base oc_check_levels kV_check_levels dc_check_levels pm_check_levels cd_check_levels ct_check_levels oc_check_tick kV_check_tick dc_check_tick pm_check_tick cd_check_tick ct_check_tick oc_word_at kV_word_at dc_word_at pm_word_at cd_word_at ct_word_at oc_level_and_size kV_level_and_size dc_level_and_size pm_level_and_size cd_level_and_size ct_level_and_size oc_path kV_path dc_path pm_path cd_path ct_path oc_goes_in_front kV_goes_in_front dc_goes_in_front pm_goes_in_front cd_goes_in_front ct_goes_in_front oc_with_timer kV_with_timer dc_with_timer pm_with_timer cd_with_timer ct_with_timer oc_firing_order kV_firing_order dc_firing_order pm_firing_order cd_firing_order ct_firing_order oc_is_periodic kV_is_periodic dc_is_periodic pm_is_periodic cd_is_periodic ct_is_periodic oc_check_periodic kV_check_periodic dc_check_periodic pm_check_periodic cd_check_periodic ct_check_periodic oc_check_two kV_check_two dc_check_two pm_check_two cd_check_two ct_check_two oc_check_several kV_check_several dc_check_several pm_check_several cd_check_several ct_check_several oc_fires_again kV_fires_again dc_fires_again pm_fires_again cd_fires_again ct_fires_again oc_divisor_and_factor kV_divisor_and_factor dc_divisor_and_factor pm_divisor_and_factor cd_divisor_and_factor ct_divisor_and_factor oc_meetings kV_meetings dc_meetings pm_meetings cd_meetings ct_meetings oc_is_ahead kV_is_ahead dc_is_ahead pm_is_ahead cd_is_ahead ct_is_ahead oc_order_at kV_order_at dc_order_at pm_order_at cd_order_at ct_order_at oc_times_first kV_times_first dc_times_first pm_times_first cd_times_first ct_times_first oc_without_repeats kV_without_repeats dc_without_repeats pm_without_repeats cd_without_repeats ct_without_repeats oc_check_period kV_check_period dc_check_period pm_check_period cd_check_period ct_check_period oc_order_of_firing kV_order_of_firing dc_order_of_firing pm_order_of_firing cd_order_of_firing ct_order_of_firing oc_standing kV_standing dc_standing pm_standing cd_standing ct_standing oc_least_due kV_least_due dc_least_due pm_least_due cd_least_due ct_least_due oc_after_firing kV_after_firing dc_after_firing pm_after_firing cd_after_firing ct_after_firing oc_law_cell_at kV_law_cell_at dc_law_cell_at pm_law_cell_at cd_law_cell_at ct_law_cell_at oc_law_mixed kV_law_mixed dc_law_mixed pm_law_mixed cd_law_mixed ct_law_mixed oc_law_source kV_law_source dc_law_source pm_law_source cd_law_source ct_law_source oc_law_next kV_law_next dc_law_next pm_law_next cd_law_next ct_law_next oc_law_base kV_law_base dc_law_base pm_law_base cd_law_base ct_law_base oc_law_levels kV_law_levels dc_law_levels pm_law_levels cd_law_levels ct_law_levels oc_law_tick kV_law_tick dc_law_tick pm_law_tick cd_law_tick ct_law_tick oc_law_pairs kV_law_pairs dc_law_pairs pm_law_pairs cd_law_pairs ct_law_pairs oc_law_led kV_law_led dc_law_led pm_law_led cd_law_led ct_law_led oc_law_order kV_law_order dc_law_order pm_law_order cd_law_order ct_law_order oc_law_orders_right kV_law_orders_right dc_law_orders_right pm_law_orders_right cd_law_orders_right ct_law_orders_right oc_law_ahead kV_law_ahead dc_law_ahead pm_law_ahead cd_law_ahead ct_law_ahead oc_law_counts_right kV_law_counts_right dc_law_counts_right pm_law_counts_right cd_law_counts_right ct_law_counts_right oc_law kV_law dc_law pm_law cd_law ct_law : Value}
    {C_ : Addr}
    {f_m_init f_m_put f_m_advance : Addr}
    {od_m_init an_m_init od_m_put an_m_put od_m_advance an_m_advance : Option Addr}
    {sl_m_init sl_m_put sl_m_advance : Array (Option Value)}
    {oc_m_init dc_m_init pm_m_init cd_m_init ct_m_init oc_m_put dc_m_put pm_m_put cd_m_put ct_m_put oc_m_advance dc_m_advance pm_m_advance cd_m_advance ct_m_advance kV_m_advance : Value}
    {kD_m_init : Addr} {kt_m_init : Tok}
    {kD_m_put : Addr}
    {c_NoTick : Addr}
    {dT_is_tick : Addr} {tc_is_tick : Value} {td_is_tick : Option Addr} {tt_is_tick : Tok} {tn_is_tick : Nat} {ts_is_tick : Array (Option Value)}
    {dT_check_tick : Addr} {tc_check_tick : Value} {td_check_tick : Option Addr} {tt_check_tick : Tok} {tn_check_tick : Nat} {ts_check_tick : Array (Option Value)}
    (a_wall : PySem.W.nsIn K mainGlobals "_wall" = some (some (.ref f_wall)))
    (l_wall : K.lookup f_wall = some ⟨oc_wall, od_wall, .func (PySem.W.fnOf "_wall" "_wall" (defArgs s__wall) (defBody s__wall) (defScope s__wall) .none kV_wall dc_wall pm_wall an_wall cd_wall ct_wall), sl_wall⟩)
    (c_wall : PySem.W.codeIn K cd_wall "_wall" = true) (k_wall : PySem.W.keepIn K (.ref f_wall) = true)
    (a_is_integer : PySem.W.nsIn K mainGlobals "is_integer" = some (some (.ref f_is_integer)))
    (l_is_integer : K.lookup f_is_integer = some ⟨oc_is_integer, od_is_integer, .func (PySem.W.fnOf "is_integer" "is_integer" (defArgs s_is_integer) (defBody s_is_integer) (defScope s_is_integer) .none kV_is_integer dc_is_integer pm_is_integer an_is_integer cd_is_integer ct_is_integer), sl_is_integer⟩)
    (c_is_integer : PySem.W.codeIn K cd_is_integer "is_integer" = true) (k_is_integer : PySem.W.keepIn K (.ref f_is_integer) = true)
    (a_is_word : PySem.W.nsIn K mainGlobals "is_word" = some (some (.ref f_is_word)))
    (l_is_word : K.lookup f_is_word = some ⟨oc_is_word, od_is_word, .func (PySem.W.fnOf "is_word" "is_word" (defArgs s_is_word) (defBody s_is_word) (defScope s_is_word) .none kV_is_word dc_is_word pm_is_word an_is_word cd_is_word ct_is_word), sl_is_word⟩)
    (c_is_word : PySem.W.codeIn K cd_is_word "is_word" = true) (k_is_word : PySem.W.keepIn K (.ref f_is_word) = true)
    (a_is_base : PySem.W.nsIn K mainGlobals "is_base" = some (some (.ref f_is_base)))
    (l_is_base : K.lookup f_is_base = some ⟨oc_is_base, od_is_base, .func (PySem.W.fnOf "is_base" "is_base" (defArgs s_is_base) (defBody s_is_base) (defScope s_is_base) .none kV_is_base dc_is_base pm_is_base an_is_base cd_is_base ct_is_base), sl_is_base⟩)
    (c_is_base : PySem.W.codeIn K cd_is_base "is_base" = true) (k_is_base : PySem.W.keepIn K (.ref f_is_base) = true)
    (a_is_length : PySem.W.nsIn K mainGlobals "is_length" = some (some (.ref f_is_length)))
    (l_is_length : K.lookup f_is_length = some ⟨oc_is_length, od_is_length, .func (PySem.W.fnOf "is_length" "is_length" (defArgs s_is_length) (defBody s_is_length) (defScope s_is_length) .none kV_is_length dc_is_length pm_is_length an_is_length cd_is_length ct_is_length), sl_is_length⟩)
    (c_is_length : PySem.W.codeIn K cd_is_length "is_length" = true) (k_is_length : PySem.W.keepIn K (.ref f_is_length) = true)
    (a_are_levels : PySem.W.nsIn K mainGlobals "are_levels" = some (some (.ref f_are_levels)))
    (l_are_levels : K.lookup f_are_levels = some ⟨oc_are_levels, od_are_levels, .func (PySem.W.fnOf "are_levels" "are_levels" (defArgs s_are_levels) (defBody s_are_levels) (defScope s_are_levels) .none kV_are_levels dc_are_levels pm_are_levels an_are_levels cd_are_levels ct_are_levels), sl_are_levels⟩)
    (c_are_levels : PySem.W.codeIn K cd_are_levels "are_levels" = true) (k_are_levels : PySem.W.keepIn K (.ref f_are_levels) = true)
    (a_is_tick : PySem.W.nsIn K mainGlobals "is_tick" = some (some (.ref f_is_tick)))
    (l_is_tick : K.lookup f_is_tick = some ⟨oc_is_tick, od_is_tick, .func (PySem.W.fnOf "is_tick" "is_tick" (defArgs s_is_tick) (defBody s_is_tick) (defScope s_is_tick) (.ref dT_is_tick) kV_is_tick dc_is_tick pm_is_tick an_is_tick cd_is_tick ct_is_tick), sl_is_tick⟩)
    (t_is_tick : K.lookup dT_is_tick = some ⟨tc_is_tick, td_is_tick, .seq #[.int 0 tt_is_tick] tn_is_tick, ts_is_tick⟩)
    (c_is_tick : PySem.W.codeIn K cd_is_tick "is_tick" = true) (k_is_tick : PySem.W.keepIn K (.ref f_is_tick) = true)
    (a_is_period : PySem.W.nsIn K mainGlobals "is_period" = some (some (.ref f_is_period)))
    (l_is_period : K.lookup f_is_period = some ⟨oc_is_period, od_is_period, .func (PySem.W.fnOf "is_period" "is_period" (defArgs s_is_period) (defBody s_is_period) (defScope s_is_period) .none kV_is_period dc_is_period pm_is_period an_is_period cd_is_period ct_is_period), sl_is_period⟩)
    (c_is_period : PySem.W.codeIn K cd_is_period "is_period" = true) (k_is_period : PySem.W.keepIn K (.ref f_is_period) = true)
    (a_check_base : PySem.W.nsIn K mainGlobals "check_base" = some (some (.ref f_check_base)))
    (l_check_base : K.lookup f_check_base = some ⟨oc_check_base, od_check_base, .func (PySem.W.fnOf "check_base" "check_base" (defArgs s_check_base) (defBody s_check_base) (defScope s_check_base) .none kV_check_base dc_check_base pm_check_base an_check_base cd_check_base ct_check_base), sl_check_base⟩)
    (c_check_base : PySem.W.codeIn K cd_check_base "check_base" = true) (k_check_base : PySem.W.keepIn K (.ref f_check_base) = true)
    (a_check_levels : PySem.W.nsIn K mainGlobals "check_levels" = some (some (.ref f_check_levels)))
    (l_check_levels : K.lookup f_check_levels = some ⟨oc_check_levels, od_check_levels, .func (PySem.W.fnOf "check_levels" "check_levels" (defArgs s_check_levels) (defBody s_check_levels) (defScope s_check_levels) .none kV_check_levels dc_check_levels pm_check_levels an_check_levels cd_check_levels ct_check_levels), sl_check_levels⟩)
    (c_check_levels : PySem.W.codeIn K cd_check_levels "check_levels" = true) (k_check_levels : PySem.W.keepIn K (.ref f_check_levels) = true)
    (a_check_tick : PySem.W.nsIn K mainGlobals "check_tick" = some (some (.ref f_check_tick)))
    (l_check_tick : K.lookup f_check_tick = some ⟨oc_check_tick, od_check_tick, .func (PySem.W.fnOf "check_tick" "check_tick" (defArgs s_check_tick) (defBody s_check_tick) (defScope s_check_tick) (.ref dT_check_tick) kV_check_tick dc_check_tick pm_check_tick an_check_tick cd_check_tick ct_check_tick), sl_check_tick⟩)
    (t_check_tick : K.lookup dT_check_tick = some ⟨tc_check_tick, td_check_tick, .seq #[.int 0 tt_check_tick] tn_check_tick, ts_check_tick⟩)
    (c_check_tick : PySem.W.codeIn K cd_check_tick "check_tick" = true) (k_check_tick : PySem.W.keepIn K (.ref f_check_tick) = true)
    (a_word_at : PySem.W.nsIn K mainGlobals "word_at" = some (some (.ref f_word_at)))
    (l_word_at : K.lookup f_word_at = some ⟨oc_word_at, od_word_at, .func (PySem.W.fnOf "word_at" "word_at" (defArgs s_word_at) (defBody s_word_at) (defScope s_word_at) .none kV_word_at dc_word_at pm_word_at an_word_at cd_word_at ct_word_at), sl_word_at⟩)
    (c_word_at : PySem.W.codeIn K cd_word_at "word_at" = true) (k_word_at : PySem.W.keepIn K (.ref f_word_at) = true)
    (a_level_and_size : PySem.W.nsIn K mainGlobals "level_and_size" = some (some (.ref f_level_and_size)))
    (l_level_and_size : K.lookup f_level_and_size = some ⟨oc_level_and_size, od_level_and_size, .func (PySem.W.fnOf "level_and_size" "level_and_size" (defArgs s_level_and_size) (defBody s_level_and_size) (defScope s_level_and_size) .none kV_level_and_size dc_level_and_size pm_level_and_size an_level_and_size cd_level_and_size ct_level_and_size), sl_level_and_size⟩)
    (c_level_and_size : PySem.W.codeIn K cd_level_and_size "level_and_size" = true) (k_level_and_size : PySem.W.keepIn K (.ref f_level_and_size) = true)
    (a_path : PySem.W.nsIn K mainGlobals "path" = some (some (.ref f_path)))
    (l_path : K.lookup f_path = some ⟨oc_path, od_path, .func (PySem.W.fnOf "path" "path" (defArgs s_path) (defBody s_path) (defScope s_path) .none kV_path dc_path pm_path an_path cd_path ct_path), sl_path⟩)
    (c_path : PySem.W.codeIn K cd_path "path" = true) (k_path : PySem.W.keepIn K (.ref f_path) = true)
    (a_goes_in_front : PySem.W.nsIn K mainGlobals "goes_in_front" = some (some (.ref f_goes_in_front)))
    (l_goes_in_front : K.lookup f_goes_in_front = some ⟨oc_goes_in_front, od_goes_in_front, .func (PySem.W.fnOf "goes_in_front" "goes_in_front" (defArgs s_goes_in_front) (defBody s_goes_in_front) (defScope s_goes_in_front) .none kV_goes_in_front dc_goes_in_front pm_goes_in_front an_goes_in_front cd_goes_in_front ct_goes_in_front), sl_goes_in_front⟩)
    (c_goes_in_front : PySem.W.codeIn K cd_goes_in_front "goes_in_front" = true) (k_goes_in_front : PySem.W.keepIn K (.ref f_goes_in_front) = true)
    (a_with_timer : PySem.W.nsIn K mainGlobals "with_timer" = some (some (.ref f_with_timer)))
    (l_with_timer : K.lookup f_with_timer = some ⟨oc_with_timer, od_with_timer, .func (PySem.W.fnOf "with_timer" "with_timer" (defArgs s_with_timer) (defBody s_with_timer) (defScope s_with_timer) .none kV_with_timer dc_with_timer pm_with_timer an_with_timer cd_with_timer ct_with_timer), sl_with_timer⟩)
    (c_with_timer : PySem.W.codeIn K cd_with_timer "with_timer" = true) (k_with_timer : PySem.W.keepIn K (.ref f_with_timer) = true)
    (a_firing_order : PySem.W.nsIn K mainGlobals "firing_order" = some (some (.ref f_firing_order)))
    (l_firing_order : K.lookup f_firing_order = some ⟨oc_firing_order, od_firing_order, .func (PySem.W.fnOf "firing_order" "firing_order" (defArgs s_firing_order) (defBody s_firing_order) (defScope s_firing_order) .none kV_firing_order dc_firing_order pm_firing_order an_firing_order cd_firing_order ct_firing_order), sl_firing_order⟩)
    (c_firing_order : PySem.W.codeIn K cd_firing_order "firing_order" = true) (k_firing_order : PySem.W.keepIn K (.ref f_firing_order) = true)
    (a_is_periodic : PySem.W.nsIn K mainGlobals "is_periodic" = some (some (.ref f_is_periodic)))
    (l_is_periodic : K.lookup f_is_periodic = some ⟨oc_is_periodic, od_is_periodic, .func (PySem.W.fnOf "is_periodic" "is_periodic" (defArgs s_is_periodic) (defBody s_is_periodic) (defScope s_is_periodic) .none kV_is_periodic dc_is_periodic pm_is_periodic an_is_periodic cd_is_periodic ct_is_periodic), sl_is_periodic⟩)
    (c_is_periodic : PySem.W.codeIn K cd_is_periodic "is_periodic" = true) (k_is_periodic : PySem.W.keepIn K (.ref f_is_periodic) = true)
    (a_check_periodic : PySem.W.nsIn K mainGlobals "check_periodic" = some (some (.ref f_check_periodic)))
    (l_check_periodic : K.lookup f_check_periodic = some ⟨oc_check_periodic, od_check_periodic, .func (PySem.W.fnOf "check_periodic" "check_periodic" (defArgs s_check_periodic) (defBody s_check_periodic) (defScope s_check_periodic) .none kV_check_periodic dc_check_periodic pm_check_periodic an_check_periodic cd_check_periodic ct_check_periodic), sl_check_periodic⟩)
    (c_check_periodic : PySem.W.codeIn K cd_check_periodic "check_periodic" = true) (k_check_periodic : PySem.W.keepIn K (.ref f_check_periodic) = true)
    (a_check_two : PySem.W.nsIn K mainGlobals "check_two" = some (some (.ref f_check_two)))
    (l_check_two : K.lookup f_check_two = some ⟨oc_check_two, od_check_two, .func (PySem.W.fnOf "check_two" "check_two" (defArgs s_check_two) (defBody s_check_two) (defScope s_check_two) .none kV_check_two dc_check_two pm_check_two an_check_two cd_check_two ct_check_two), sl_check_two⟩)
    (c_check_two : PySem.W.codeIn K cd_check_two "check_two" = true) (k_check_two : PySem.W.keepIn K (.ref f_check_two) = true)
    (a_check_several : PySem.W.nsIn K mainGlobals "check_several" = some (some (.ref f_check_several)))
    (l_check_several : K.lookup f_check_several = some ⟨oc_check_several, od_check_several, .func (PySem.W.fnOf "check_several" "check_several" (defArgs s_check_several) (defBody s_check_several) (defScope s_check_several) .none kV_check_several dc_check_several pm_check_several an_check_several cd_check_several ct_check_several), sl_check_several⟩)
    (c_check_several : PySem.W.codeIn K cd_check_several "check_several" = true) (k_check_several : PySem.W.keepIn K (.ref f_check_several) = true)
    (a_fires_again : PySem.W.nsIn K mainGlobals "fires_again" = some (some (.ref f_fires_again)))
    (l_fires_again : K.lookup f_fires_again = some ⟨oc_fires_again, od_fires_again, .func (PySem.W.fnOf "fires_again" "fires_again" (defArgs s_fires_again) (defBody s_fires_again) (defScope s_fires_again) .none kV_fires_again dc_fires_again pm_fires_again an_fires_again cd_fires_again ct_fires_again), sl_fires_again⟩)
    (c_fires_again : PySem.W.codeIn K cd_fires_again "fires_again" = true) (k_fires_again : PySem.W.keepIn K (.ref f_fires_again) = true)
    (a_divisor_and_factor : PySem.W.nsIn K mainGlobals "divisor_and_factor" = some (some (.ref f_divisor_and_factor)))
    (l_divisor_and_factor : K.lookup f_divisor_and_factor = some ⟨oc_divisor_and_factor, od_divisor_and_factor, .func (PySem.W.fnOf "divisor_and_factor" "divisor_and_factor" (defArgs s_divisor_and_factor) (defBody s_divisor_and_factor) (defScope s_divisor_and_factor) .none kV_divisor_and_factor dc_divisor_and_factor pm_divisor_and_factor an_divisor_and_factor cd_divisor_and_factor ct_divisor_and_factor), sl_divisor_and_factor⟩)
    (c_divisor_and_factor : PySem.W.codeIn K cd_divisor_and_factor "divisor_and_factor" = true) (k_divisor_and_factor : PySem.W.keepIn K (.ref f_divisor_and_factor) = true)
    (a_meetings : PySem.W.nsIn K mainGlobals "meetings" = some (some (.ref f_meetings)))
    (l_meetings : K.lookup f_meetings = some ⟨oc_meetings, od_meetings, .func (PySem.W.fnOf "meetings" "meetings" (defArgs s_meetings) (defBody s_meetings) (defScope s_meetings) .none kV_meetings dc_meetings pm_meetings an_meetings cd_meetings ct_meetings), sl_meetings⟩)
    (c_meetings : PySem.W.codeIn K cd_meetings "meetings" = true) (k_meetings : PySem.W.keepIn K (.ref f_meetings) = true)
    (a_is_ahead : PySem.W.nsIn K mainGlobals "is_ahead" = some (some (.ref f_is_ahead)))
    (l_is_ahead : K.lookup f_is_ahead = some ⟨oc_is_ahead, od_is_ahead, .func (PySem.W.fnOf "is_ahead" "is_ahead" (defArgs s_is_ahead) (defBody s_is_ahead) (defScope s_is_ahead) .none kV_is_ahead dc_is_ahead pm_is_ahead an_is_ahead cd_is_ahead ct_is_ahead), sl_is_ahead⟩)
    (c_is_ahead : PySem.W.codeIn K cd_is_ahead "is_ahead" = true) (k_is_ahead : PySem.W.keepIn K (.ref f_is_ahead) = true)
    (a_order_at : PySem.W.nsIn K mainGlobals "order_at" = some (some (.ref f_order_at)))
    (l_order_at : K.lookup f_order_at = some ⟨oc_order_at, od_order_at, .func (PySem.W.fnOf "order_at" "order_at" (defArgs s_order_at) (defBody s_order_at) (defScope s_order_at) .none kV_order_at dc_order_at pm_order_at an_order_at cd_order_at ct_order_at), sl_order_at⟩)
    (c_order_at : PySem.W.codeIn K cd_order_at "order_at" = true) (k_order_at : PySem.W.keepIn K (.ref f_order_at) = true)
    (a_times_first : PySem.W.nsIn K mainGlobals "times_first" = some (some (.ref f_times_first)))
    (l_times_first : K.lookup f_times_first = some ⟨oc_times_first, od_times_first, .func (PySem.W.fnOf "times_first" "times_first" (defArgs s_times_first) (defBody s_times_first) (defScope s_times_first) .none kV_times_first dc_times_first pm_times_first an_times_first cd_times_first ct_times_first), sl_times_first⟩)
    (c_times_first : PySem.W.codeIn K cd_times_first "times_first" = true) (k_times_first : PySem.W.keepIn K (.ref f_times_first) = true)
    (a_without_repeats : PySem.W.nsIn K mainGlobals "without_repeats" = some (some (.ref f_without_repeats)))
    (l_without_repeats : K.lookup f_without_repeats = some ⟨oc_without_repeats, od_without_repeats, .func (PySem.W.fnOf "without_repeats" "without_repeats" (defArgs s_without_repeats) (defBody s_without_repeats) (defScope s_without_repeats) .none kV_without_repeats dc_without_repeats pm_without_repeats an_without_repeats cd_without_repeats ct_without_repeats), sl_without_repeats⟩)
    (c_without_repeats : PySem.W.codeIn K cd_without_repeats "without_repeats" = true) (k_without_repeats : PySem.W.keepIn K (.ref f_without_repeats) = true)
    (a_check_period : PySem.W.nsIn K mainGlobals "check_period" = some (some (.ref f_check_period)))
    (l_check_period : K.lookup f_check_period = some ⟨oc_check_period, od_check_period, .func (PySem.W.fnOf "check_period" "check_period" (defArgs s_check_period) (defBody s_check_period) (defScope s_check_period) .none kV_check_period dc_check_period pm_check_period an_check_period cd_check_period ct_check_period), sl_check_period⟩)
    (c_check_period : PySem.W.codeIn K cd_check_period "check_period" = true) (k_check_period : PySem.W.keepIn K (.ref f_check_period) = true)
    (a_order_of_firing : PySem.W.nsIn K mainGlobals "order_of_firing" = some (some (.ref f_order_of_firing)))
    (l_order_of_firing : K.lookup f_order_of_firing = some ⟨oc_order_of_firing, od_order_of_firing, .func (PySem.W.fnOf "order_of_firing" "order_of_firing" (defArgs s_order_of_firing) (defBody s_order_of_firing) (defScope s_order_of_firing) .none kV_order_of_firing dc_order_of_firing pm_order_of_firing an_order_of_firing cd_order_of_firing ct_order_of_firing), sl_order_of_firing⟩)
    (c_order_of_firing : PySem.W.codeIn K cd_order_of_firing "order_of_firing" = true) (k_order_of_firing : PySem.W.keepIn K (.ref f_order_of_firing) = true)
    (a_standing : PySem.W.nsIn K mainGlobals "standing" = some (some (.ref f_standing)))
    (l_standing : K.lookup f_standing = some ⟨oc_standing, od_standing, .func (PySem.W.fnOf "standing" "standing" (defArgs s_standing) (defBody s_standing) (defScope s_standing) .none kV_standing dc_standing pm_standing an_standing cd_standing ct_standing), sl_standing⟩)
    (c_standing : PySem.W.codeIn K cd_standing "standing" = true) (k_standing : PySem.W.keepIn K (.ref f_standing) = true)
    (a_least_due : PySem.W.nsIn K mainGlobals "least_due" = some (some (.ref f_least_due)))
    (l_least_due : K.lookup f_least_due = some ⟨oc_least_due, od_least_due, .func (PySem.W.fnOf "least_due" "least_due" (defArgs s_least_due) (defBody s_least_due) (defScope s_least_due) .none kV_least_due dc_least_due pm_least_due an_least_due cd_least_due ct_least_due), sl_least_due⟩)
    (c_least_due : PySem.W.codeIn K cd_least_due "least_due" = true) (k_least_due : PySem.W.keepIn K (.ref f_least_due) = true)
    (a_after_firing : PySem.W.nsIn K mainGlobals "after_firing" = some (some (.ref f_after_firing)))
    (l_after_firing : K.lookup f_after_firing = some ⟨oc_after_firing, od_after_firing, .func (PySem.W.fnOf "after_firing" "after_firing" (defArgs s_after_firing) (defBody s_after_firing) (defScope s_after_firing) .none kV_after_firing dc_after_firing pm_after_firing an_after_firing cd_after_firing ct_after_firing), sl_after_firing⟩)
    (c_after_firing : PySem.W.codeIn K cd_after_firing "after_firing" = true) (k_after_firing : PySem.W.keepIn K (.ref f_after_firing) = true)
    (a_law_cell_at : PySem.W.nsIn K mainGlobals "_law_cell_at" = some (some (.ref f_law_cell_at)))
    (l_law_cell_at : K.lookup f_law_cell_at = some ⟨oc_law_cell_at, od_law_cell_at, .func (PySem.W.fnOf "_law_cell_at" "_law_cell_at" (defArgs s__law_cell_at) (defBody s__law_cell_at) (defScope s__law_cell_at) .none kV_law_cell_at dc_law_cell_at pm_law_cell_at an_law_cell_at cd_law_cell_at ct_law_cell_at), sl_law_cell_at⟩)
    (c_law_cell_at : PySem.W.codeIn K cd_law_cell_at "_law_cell_at" = true) (k_law_cell_at : PySem.W.keepIn K (.ref f_law_cell_at) = true)
    (a_law_mixed : PySem.W.nsIn K mainGlobals "_law_mixed" = some (some (.ref f_law_mixed)))
    (l_law_mixed : K.lookup f_law_mixed = some ⟨oc_law_mixed, od_law_mixed, .func (PySem.W.fnOf "_law_mixed" "_law_mixed" (defArgs s__law_mixed) (defBody s__law_mixed) (defScope s__law_mixed) .none kV_law_mixed dc_law_mixed pm_law_mixed an_law_mixed cd_law_mixed ct_law_mixed), sl_law_mixed⟩)
    (c_law_mixed : PySem.W.codeIn K cd_law_mixed "_law_mixed" = true) (k_law_mixed : PySem.W.keepIn K (.ref f_law_mixed) = true)
    (a_law_source : PySem.W.nsIn K mainGlobals "_law_source" = some (some (.ref f_law_source)))
    (l_law_source : K.lookup f_law_source = some ⟨oc_law_source, od_law_source, .func (PySem.W.fnOf "_law_source" "_law_source" (defArgs s__law_source) (defBody s__law_source) (defScope s__law_source) .none kV_law_source dc_law_source pm_law_source an_law_source cd_law_source ct_law_source), sl_law_source⟩)
    (c_law_source : PySem.W.codeIn K cd_law_source "_law_source" = true) (k_law_source : PySem.W.keepIn K (.ref f_law_source) = true)
    (a_law_next : PySem.W.nsIn K mainGlobals "_law_next" = some (some (.ref f_law_next)))
    (l_law_next : K.lookup f_law_next = some ⟨oc_law_next, od_law_next, .func (PySem.W.fnOf "_law_next" "_law_next" (defArgs s__law_next) (defBody s__law_next) (defScope s__law_next) .none kV_law_next dc_law_next pm_law_next an_law_next cd_law_next ct_law_next), sl_law_next⟩)
    (c_law_next : PySem.W.codeIn K cd_law_next "_law_next" = true) (k_law_next : PySem.W.keepIn K (.ref f_law_next) = true)
    (a_law_base : PySem.W.nsIn K mainGlobals "_law_base" = some (some (.ref f_law_base)))
    (l_law_base : K.lookup f_law_base = some ⟨oc_law_base, od_law_base, .func (PySem.W.fnOf "_law_base" "_law_base" (defArgs s__law_base) (defBody s__law_base) (defScope s__law_base) .none kV_law_base dc_law_base pm_law_base an_law_base cd_law_base ct_law_base), sl_law_base⟩)
    (c_law_base : PySem.W.codeIn K cd_law_base "_law_base" = true) (k_law_base : PySem.W.keepIn K (.ref f_law_base) = true)
    (a_law_levels : PySem.W.nsIn K mainGlobals "_law_levels" = some (some (.ref f_law_levels)))
    (l_law_levels : K.lookup f_law_levels = some ⟨oc_law_levels, od_law_levels, .func (PySem.W.fnOf "_law_levels" "_law_levels" (defArgs s__law_levels) (defBody s__law_levels) (defScope s__law_levels) .none kV_law_levels dc_law_levels pm_law_levels an_law_levels cd_law_levels ct_law_levels), sl_law_levels⟩)
    (c_law_levels : PySem.W.codeIn K cd_law_levels "_law_levels" = true) (k_law_levels : PySem.W.keepIn K (.ref f_law_levels) = true)
    (a_law_tick : PySem.W.nsIn K mainGlobals "_law_tick" = some (some (.ref f_law_tick)))
    (l_law_tick : K.lookup f_law_tick = some ⟨oc_law_tick, od_law_tick, .func (PySem.W.fnOf "_law_tick" "_law_tick" (defArgs s__law_tick) (defBody s__law_tick) (defScope s__law_tick) .none kV_law_tick dc_law_tick pm_law_tick an_law_tick cd_law_tick ct_law_tick), sl_law_tick⟩)
    (c_law_tick : PySem.W.codeIn K cd_law_tick "_law_tick" = true) (k_law_tick : PySem.W.keepIn K (.ref f_law_tick) = true)
    (a_law_pairs : PySem.W.nsIn K mainGlobals "_law_pairs" = some (some (.ref f_law_pairs)))
    (l_law_pairs : K.lookup f_law_pairs = some ⟨oc_law_pairs, od_law_pairs, .func (PySem.W.fnOf "_law_pairs" "_law_pairs" (defArgs s__law_pairs) (defBody s__law_pairs) (defScope s__law_pairs) .none kV_law_pairs dc_law_pairs pm_law_pairs an_law_pairs cd_law_pairs ct_law_pairs), sl_law_pairs⟩)
    (c_law_pairs : PySem.W.codeIn K cd_law_pairs "_law_pairs" = true) (k_law_pairs : PySem.W.keepIn K (.ref f_law_pairs) = true)
    (a_law_led : PySem.W.nsIn K mainGlobals "_law_led" = some (some (.ref f_law_led)))
    (l_law_led : K.lookup f_law_led = some ⟨oc_law_led, od_law_led, .func (PySem.W.fnOf "_law_led" "_law_led" (defArgs s__law_led) (defBody s__law_led) (defScope s__law_led) .none kV_law_led dc_law_led pm_law_led an_law_led cd_law_led ct_law_led), sl_law_led⟩)
    (c_law_led : PySem.W.codeIn K cd_law_led "_law_led" = true) (k_law_led : PySem.W.keepIn K (.ref f_law_led) = true)
    (a_law_order : PySem.W.nsIn K mainGlobals "_law_order" = some (some (.ref f_law_order)))
    (l_law_order : K.lookup f_law_order = some ⟨oc_law_order, od_law_order, .func (PySem.W.fnOf "_law_order" "_law_order" (defArgs s__law_order) (defBody s__law_order) (defScope s__law_order) .none kV_law_order dc_law_order pm_law_order an_law_order cd_law_order ct_law_order), sl_law_order⟩)
    (c_law_order : PySem.W.codeIn K cd_law_order "_law_order" = true) (k_law_order : PySem.W.keepIn K (.ref f_law_order) = true)
    (a_law_orders_right : PySem.W.nsIn K mainGlobals "_law_orders_right" = some (some (.ref f_law_orders_right)))
    (l_law_orders_right : K.lookup f_law_orders_right = some ⟨oc_law_orders_right, od_law_orders_right, .func (PySem.W.fnOf "_law_orders_right" "_law_orders_right" (defArgs s__law_orders_right) (defBody s__law_orders_right) (defScope s__law_orders_right) .none kV_law_orders_right dc_law_orders_right pm_law_orders_right an_law_orders_right cd_law_orders_right ct_law_orders_right), sl_law_orders_right⟩)
    (c_law_orders_right : PySem.W.codeIn K cd_law_orders_right "_law_orders_right" = true) (k_law_orders_right : PySem.W.keepIn K (.ref f_law_orders_right) = true)
    (a_law_ahead : PySem.W.nsIn K mainGlobals "_law_ahead" = some (some (.ref f_law_ahead)))
    (l_law_ahead : K.lookup f_law_ahead = some ⟨oc_law_ahead, od_law_ahead, .func (PySem.W.fnOf "_law_ahead" "_law_ahead" (defArgs s__law_ahead) (defBody s__law_ahead) (defScope s__law_ahead) .none kV_law_ahead dc_law_ahead pm_law_ahead an_law_ahead cd_law_ahead ct_law_ahead), sl_law_ahead⟩)
    (c_law_ahead : PySem.W.codeIn K cd_law_ahead "_law_ahead" = true) (k_law_ahead : PySem.W.keepIn K (.ref f_law_ahead) = true)
    (a_law_counts_right : PySem.W.nsIn K mainGlobals "_law_counts_right" = some (some (.ref f_law_counts_right)))
    (l_law_counts_right : K.lookup f_law_counts_right = some ⟨oc_law_counts_right, od_law_counts_right, .func (PySem.W.fnOf "_law_counts_right" "_law_counts_right" (defArgs s__law_counts_right) (defBody s__law_counts_right) (defScope s__law_counts_right) .none kV_law_counts_right dc_law_counts_right pm_law_counts_right an_law_counts_right cd_law_counts_right ct_law_counts_right), sl_law_counts_right⟩)
    (c_law_counts_right : PySem.W.codeIn K cd_law_counts_right "_law_counts_right" = true) (k_law_counts_right : PySem.W.keepIn K (.ref f_law_counts_right) = true)
    (a_law : PySem.W.nsIn K mainGlobals "law" = some (some (.ref f_law)))
    (l_law : K.lookup f_law = some ⟨oc_law, od_law, .func (PySem.W.fnOf "law" "law" (defArgs s_law) (defBody s_law) (defScope s_law) .none kV_law dc_law pm_law an_law cd_law ct_law), sl_law⟩)
    (c_law : PySem.W.codeIn K cd_law "law" = true) (k_law : PySem.W.keepIn K (.ref f_law) = true)
    (a_Wheel : PySem.W.nsIn K mainGlobals "Wheel" = some (some (.ref C_)))
    (a_m_init : PySem.W.findIn K (.ref C_) "__init__" = some (some (.ref f_m_init))) (i_m_init : PySem.W.isFn K (.ref f_m_init) = true)
    (l_m_init : K.lookup f_m_init = some ⟨oc_m_init, od_m_init, .func (PySem.W.fnOf "__init__" "Wheel.__init__" (defArgs s_Wheel___init__) (defBody s_Wheel___init__) (defScope s_Wheel___init__) .none (.ref kD_m_init) dc_m_init pm_m_init an_m_init cd_m_init ct_m_init), sl_m_init⟩)
    (c_m_init : PySem.W.codeIn K cd_m_init "Wheel.__init__" = true) (k_m_init : PySem.W.keepIn K (.ref f_m_init) = true)
    (d_m_init : PySem.W.nsIn K kD_m_init "start" = some (some (.int 0 kt_m_init)))
    (a_m_put : PySem.W.findIn K (.ref C_) "put" = some (some (.ref f_m_put))) (i_m_put : PySem.W.isFn K (.ref f_m_put) = true)
    (l_m_put : K.lookup f_m_put = some ⟨oc_m_put, od_m_put, .func (PySem.W.fnOf "put" "Wheel.put" (defArgs s_Wheel_put) (defBody s_Wheel_put) (defScope s_Wheel_put) .none (.ref kD_m_put) dc_m_put pm_m_put an_m_put cd_m_put ct_m_put), sl_m_put⟩)
    (c_m_put : PySem.W.codeIn K cd_m_put "Wheel.put" = true) (k_m_put : PySem.W.keepIn K (.ref f_m_put) = true)
    (d_m_put : PySem.W.nsIn K kD_m_put "period" = some (some .none))
    (a_m_advance : PySem.W.findIn K (.ref C_) "advance" = some (some (.ref f_m_advance))) (i_m_advance : PySem.W.isFn K (.ref f_m_advance) = true)
    (l_m_advance : K.lookup f_m_advance = some ⟨oc_m_advance, od_m_advance, .func (PySem.W.fnOf "advance" "Wheel.advance" (defArgs s_Wheel_advance) (defBody s_Wheel_advance) (defScope s_Wheel_advance) .none kV_m_advance dc_m_advance pm_m_advance an_m_advance cd_m_advance ct_m_advance), sl_m_advance⟩)
    (c_m_advance : PySem.W.codeIn K cd_m_advance "Wheel.advance" = true) (k_m_advance : PySem.W.keepIn K (.ref f_m_advance) = true)
    (pg : PySem.W.plainGet K C_ Str.empty = true)
    (hd : PySem.W.hasDictIn K C_ = true)
    (po : PySem.W.plainOver K C_ = true)
    (sa : PySem.W.findIn K (.ref C_) "__setattr__" = some (some (.builtin "object.__setattr__")))
    (mkC : PySem.W.makesIn K C_ = true)
    (kc : PySem.W.keepIn K (.ref C_) = true)
    (n_base : PySem.W.findIn K (.ref C_) "base" = some none)
    (n_words : PySem.W.findIn K (.ref C_) "words" = some none)
    (n_tick : PySem.W.findIn K (.ref C_) "tick" = some none)
    (n_following : PySem.W.findIn K (.ref C_) "following" = some none)
    (n_live : PySem.W.findIn K (.ref C_) "live" = some none)
    (a_NoTick : PySem.W.nsIn K mainGlobals "NoTick" = some (some (.ref c_NoTick)))
    (x_NoTick : PySem.W.excIn K c_NoTick [.type "ValueError", .type "Exception", .type "BaseException", .type "object"] "ValueError.__new__" = true)
    (kp_NoTick : PySem.W.keepIn K (.ref c_NoTick) = true)
    (bx_NoTick : PySem.W.subIn K (.ref c_NoTick) (.type "BaseException") = some true)
    (tx_NoTick : PySem.W.typeIn K (.ref c_NoTick) = some (.type "type"))
    (ga_NoTick : PySem.W.findIn K (.ref c_NoTick) "__getattribute__" = some (some (.builtin "BaseException.__getattribute__")))
    (gg_NoTick : PySem.W.findIn K (.ref c_NoTick) "__getattr__" = some none)
    (hx_NoTick : PySem.W.hasDictIn K c_NoTick = true)
    (cc_NoTick : PySem.W.findIn K (.ref c_NoTick) "__class__" = some (some (.builtin "object.__class__")))
    (mo_NoTick : PySem.W.mroIn K c_NoTick (.type "object") = some true)
    (ss_NoTick : PySem.W.subIn K (.ref c_NoTick) (.ref c_NoTick) = some true)
    (sp_get : PySem.W.specialIn K (.builtin "object.__class__") "__get__" = some (some (.builtin "getset_descriptor.__get__")))
    (tk_cls : PySem.W.takesIn K (.builtin "object.__class__") = some true)
    (z_isinstance : PySem.W.nsIn K mainGlobals "isinstance" = some none)
    (z_int : PySem.W.nsIn K mainGlobals "int" = some none)
    (z_bool : PySem.W.nsIn K mainGlobals "bool" = some none)
    (z_str : PySem.W.nsIn K mainGlobals "str" = some none)
    (z_all : PySem.W.nsIn K mainGlobals "all" = some none)
    (z_list : PySem.W.nsIn K mainGlobals "list" = some none)
    (z_len : PySem.W.nsIn K mainGlobals "len" = some none)
    (z_min : PySem.W.nsIn K mainGlobals "min" = some none)
    (z_tuple : PySem.W.nsIn K mainGlobals "tuple" = some none)
    (z_set : PySem.W.nsIn K mainGlobals "set" = some none)
    (z_max : PySem.W.nsIn K mainGlobals "max" = some none)
    (z_enumerate : PySem.W.nsIn K mainGlobals "enumerate" = some none)
    (z_sorted : PySem.W.nsIn K mainGlobals "sorted" = some none)
    (z_range : PySem.W.nsIn K mainGlobals "range" = some none)
    (z_dict : PySem.W.nsIn K mainGlobals "dict" = some none)
    (a_WORDS : PySem.W.nsIn K mainGlobals "WORDS" = some (some (.ref f_WORDS)))
    (l_WORDS : K.lookup f_WORDS = some ⟨.type "tuple", od_WORDS, .seq #[.str "stack" tk0_WORDS, .str "queue" tk1_WORDS] tn_WORDS, ts_WORDS⟩)
    (a_MOST_LEVELS : PySem.W.nsIn K mainGlobals "MOST_LEVELS" = some (some (.int 60 tk_MOST_LEVELS)))
    (a_MOST_MEETINGS : PySem.W.nsIn K mainGlobals "MOST_MEETINGS" = some (some (.int 2000 tk_MOST_MEETINGS)))
    (a_MOST_FIRINGS : PySem.W.nsIn K mainGlobals "MOST_FIRINGS" = some (some (.int 2000 tk_MOST_FIRINGS)))
    : ∃ fd : FuncData, (∀ (s : Shared) (v : Value), BindsTo s fd ⟨[v], []⟩ [("_law_script", v)]) ∧ ∀ base : Heap, K.In base → base.Ns mainGlobals mg → FnOk l.prog w K mg base CX0 9 fa fd ["_law_script"] (spLaw K) := by
  have e := hfa.symm.trans (PySem.W.mg_of X G a_law)
  cases e
  have T : Tx K mg := ⟨PySem.W.mg_none_of X G z_isinstance, PySem.W.mg_none_of X G z_int, PySem.W.mg_none_of X G z_bool, PySem.W.mg_none_of X G z_str, PySem.W.mg_none_of X G z_all, PySem.W.mg_none_of X G z_list, PySem.W.mg_none_of X G z_len, PySem.W.mg_none_of X G z_min, PySem.W.mg_none_of X G z_tuple, PySem.W.mg_none_of X G z_set, PySem.W.mg_none_of X G z_max, PySem.W.mg_none_of X G z_enumerate, PySem.W.mg_none_of X G z_sorted, PySem.W.mg_none_of X G z_range, PySem.W.mg_none_of X G z_dict⟩
  have h_WORDS : ∃ a, mg "WORDS" = some (.ref a) ∧ ∀ H, SqT K H a [.str "stack", .str "queue"] := ⟨f_WORDS, PySem.W.mg_of X G a_WORDS, fun H => .inr ⟨_, _, _, l_WORDS, rfl, rfl, by simp [sizeLine_eq], .cons ⟨_, rfl⟩ (.cons ⟨_, rfl⟩ (.nil))⟩⟩
  have h_MOST_LEVELS : mg "MOST_LEVELS" = some (.int 60 tk_MOST_LEVELS) := PySem.W.mg_of X G a_MOST_LEVELS
  have h_MOST_MEETINGS : mg "MOST_MEETINGS" = some (.int 2000 tk_MOST_MEETINGS) := PySem.W.mg_of X G a_MOST_MEETINGS
  have h_MOST_FIRINGS : mg "MOST_FIRINGS" = some (.int 2000 tk_MOST_FIRINGS) := PySem.W.mg_of X G a_MOST_FIRINGS
  have D_wall : Df K mg "_wall" s__wall ["k"] := by
    have F := fun_mk (st := s__wall) l_wall c_wall k_wall
    exact ⟨_, _, F, PySem.W.mg_of X G a_wall, F.binds (ps := ["k"]) fun _ _ _ _ _ _ us hl => match us, hl with | [_], _ => rfl⟩
  have D_is_integer : Df K mg "is_integer" s_is_integer ["given"] := by
    have F := fun_mk (st := s_is_integer) l_is_integer c_is_integer k_is_integer
    exact ⟨_, _, F, PySem.W.mg_of X G a_is_integer, F.binds (ps := ["given"]) fun _ _ _ _ _ _ us hl => match us, hl with | [_], _ => rfl⟩
  have D_is_word : Df K mg "is_word" s_is_word ["given"] := by
    have F := fun_mk (st := s_is_word) l_is_word c_is_word k_is_word
    exact ⟨_, _, F, PySem.W.mg_of X G a_is_word, F.binds (ps := ["given"]) fun _ _ _ _ _ _ us hl => match us, hl with | [_], _ => rfl⟩
  have D_is_base : Df K mg "is_base" s_is_base ["given"] := by
    have F := fun_mk (st := s_is_base) l_is_base c_is_base k_is_base
    exact ⟨_, _, F, PySem.W.mg_of X G a_is_base, F.binds (ps := ["given"]) fun _ _ _ _ _ _ us hl => match us, hl with | [_], _ => rfl⟩
  have D_is_length : Df K mg "is_length" s_is_length ["given"] := by
    have F := fun_mk (st := s_is_length) l_is_length c_is_length k_is_length
    exact ⟨_, _, F, PySem.W.mg_of X G a_is_length, F.binds (ps := ["given"]) fun _ _ _ _ _ _ us hl => match us, hl with | [_], _ => rfl⟩
  have D_are_levels : Df K mg "are_levels" s_are_levels ["given"] := by
    have F := fun_mk (st := s_are_levels) l_are_levels c_are_levels k_are_levels
    exact ⟨_, _, F, PySem.W.mg_of X G a_are_levels, F.binds (ps := ["given"]) fun _ _ _ _ _ _ us hl => match us, hl with | [_], _ => rfl⟩
  have D_is_tick : Dd K mg "is_tick" s_is_tick ["given", "least"] (.int 0) := by
    have F : FunD K "is_tick" "is_tick" (defArgs s_is_tick) (defBody s_is_tick) (defScope s_is_tick) [(.int 0)] [] _ _ := ⟨⟨_, _, _, _, _, _, _, _, _, _, rfl, l_is_tick, c_is_tick, .inr ⟨by simp, dT_is_tick, _, [_], _, rfl, t_is_tick, rfl, .cons ⟨_, rfl⟩ .nil⟩, .inl rfl⟩, k_is_tick⟩
    exact ⟨_, _, F, PySem.W.mg_of X G a_is_tick,
      FunD.binds1 (ps := ["given", "least"]) F 1 0 (by simp) rfl fun _ _ _ _ _ _ _ us its hu hi => match us, its, hu, hi with | [_], [_], _, _ => ⟨_, rfl, rfl⟩,
      by obtain ⟨ds, r, b⟩ := FunD.binds1 (ps := ["given", "least"]) F 2 1 (by simp) rfl fun _ _ _ _ _ _ _ us its hu hi => match us, its, hu, hi with | [_, _], [_], _, _ => ⟨_, rfl, rfl⟩
         cases r
         exact b⟩
  have D_is_period : Df K mg "is_period" s_is_period ["given"] := by
    have F := fun_mk (st := s_is_period) l_is_period c_is_period k_is_period
    exact ⟨_, _, F, PySem.W.mg_of X G a_is_period, F.binds (ps := ["given"]) fun _ _ _ _ _ _ us hl => match us, hl with | [_], _ => rfl⟩
  have D_check_base : Df K mg "check_base" s_check_base ["base"] := by
    have F := fun_mk (st := s_check_base) l_check_base c_check_base k_check_base
    exact ⟨_, _, F, PySem.W.mg_of X G a_check_base, F.binds (ps := ["base"]) fun _ _ _ _ _ _ us hl => match us, hl with | [_], _ => rfl⟩
  have D_check_levels : Df K mg "check_levels" s_check_levels ["levels"] := by
    have F := fun_mk (st := s_check_levels) l_check_levels c_check_levels k_check_levels
    exact ⟨_, _, F, PySem.W.mg_of X G a_check_levels, F.binds (ps := ["levels"]) fun _ _ _ _ _ _ us hl => match us, hl with | [_], _ => rfl⟩
  have D_check_tick : Dd K mg "check_tick" s_check_tick ["tick", "least"] (.int 0) := by
    have F : FunD K "check_tick" "check_tick" (defArgs s_check_tick) (defBody s_check_tick) (defScope s_check_tick) [(.int 0)] [] _ _ := ⟨⟨_, _, _, _, _, _, _, _, _, _, rfl, l_check_tick, c_check_tick, .inr ⟨by simp, dT_check_tick, _, [_], _, rfl, t_check_tick, rfl, .cons ⟨_, rfl⟩ .nil⟩, .inl rfl⟩, k_check_tick⟩
    exact ⟨_, _, F, PySem.W.mg_of X G a_check_tick,
      FunD.binds1 (ps := ["tick", "least"]) F 1 0 (by simp) rfl fun _ _ _ _ _ _ _ us its hu hi => match us, its, hu, hi with | [_], [_], _, _ => ⟨_, rfl, rfl⟩,
      by obtain ⟨ds, r, b⟩ := FunD.binds1 (ps := ["tick", "least"]) F 2 1 (by simp) rfl fun _ _ _ _ _ _ _ us its hu hi => match us, its, hu, hi with | [_, _], [_], _, _ => ⟨_, rfl, rfl⟩
         cases r
         exact b⟩
  have D_word_at : Df K mg "word_at" s_word_at ["levels", "level"] := by
    have F := fun_mk (st := s_word_at) l_word_at c_word_at k_word_at
    exact ⟨_, _, F, PySem.W.mg_of X G a_word_at, F.binds (ps := ["levels", "level"]) fun _ _ _ _ _ _ us hl => match us, hl with | [_, _], _ => rfl⟩
  have D_level_and_size : Df K mg "level_and_size" s_level_and_size ["base", "now", "due"] := by
    have F := fun_mk (st := s_level_and_size) l_level_and_size c_level_and_size k_level_and_size
    exact ⟨_, _, F, PySem.W.mg_of X G a_level_and_size, F.binds (ps := ["base", "now", "due"]) fun _ _ _ _ _ _ us hl => match us, hl with | [_, _, _], _ => rfl⟩
  have D_path : Df K mg "path" s_path ["base", "now", "due"] := by
    have F := fun_mk (st := s_path) l_path c_path k_path
    exact ⟨_, _, F, PySem.W.mg_of X G a_path, F.binds (ps := ["base", "now", "due"]) fun _ _ _ _ _ _ us hl => match us, hl with | [_, _, _], _ => rfl⟩
  have D_goes_in_front : Df K mg "goes_in_front" s_goes_in_front ["base", "levels", "now", "due", "lowest"] := by
    have F := fun_mk (st := s_goes_in_front) l_goes_in_front c_goes_in_front k_goes_in_front
    exact ⟨_, _, F, PySem.W.mg_of X G a_goes_in_front, F.binds (ps := ["base", "levels", "now", "due", "lowest"]) fun _ _ _ _ _ _ us hl => match us, hl with | [_, _, _, _, _], _ => rfl⟩
  have D_with_timer : Df K mg "with_timer" s_with_timer ["numbers", "number", "front"] := by
    have F := fun_mk (st := s_with_timer) l_with_timer c_with_timer k_with_timer
    exact ⟨_, _, F, PySem.W.mg_of X G a_with_timer, F.binds (ps := ["numbers", "number", "front"]) fun _ _ _ _ _ _ us hl => match us, hl with | [_, _, _], _ => rfl⟩
  have D_firing_order : Df K mg "firing_order" s_firing_order ["base", "levels", "due", "settings"] := by
    have F := fun_mk (st := s_firing_order) l_firing_order c_firing_order k_firing_order
    exact ⟨_, _, F, PySem.W.mg_of X G a_firing_order, F.binds (ps := ["base", "levels", "due", "settings"]) fun _ _ _ _ _ _ us hl => match us, hl with | [_, _, _, _], _ => rfl⟩
  have D_is_periodic : Df K mg "is_periodic" s_is_periodic ["given"] := by
    have F := fun_mk (st := s_is_periodic) l_is_periodic c_is_periodic k_is_periodic
    exact ⟨_, _, F, PySem.W.mg_of X G a_is_periodic, F.binds (ps := ["given"]) fun _ _ _ _ _ _ us hl => match us, hl with | [_], _ => rfl⟩
  have D_check_periodic : Df K mg "check_periodic" s_check_periodic ["given"] := by
    have F := fun_mk (st := s_check_periodic) l_check_periodic c_check_periodic k_check_periodic
    exact ⟨_, _, F, PySem.W.mg_of X G a_check_periodic, F.binds (ps := ["given"]) fun _ _ _ _ _ _ us hl => match us, hl with | [_], _ => rfl⟩
  have D_check_two : Df K mg "check_two" s_check_two ["one", "other"] := by
    have F := fun_mk (st := s_check_two) l_check_two c_check_two k_check_two
    exact ⟨_, _, F, PySem.W.mg_of X G a_check_two, F.binds (ps := ["one", "other"]) fun _ _ _ _ _ _ us hl => match us, hl with | [_, _], _ => rfl⟩
  have D_check_several : Df K mg "check_several" s_check_several ["some"] := by
    have F := fun_mk (st := s_check_several) l_check_several c_check_several k_check_several
    exact ⟨_, _, F, PySem.W.mg_of X G a_check_several, F.binds (ps := ["some"]) fun _ _ _ _ _ _ us hl => match us, hl with | [_], _ => rfl⟩
  have D_fires_again : Df K mg "fires_again" s_fires_again ["timer", "tick"] := by
    have F := fun_mk (st := s_fires_again) l_fires_again c_fires_again k_fires_again
    exact ⟨_, _, F, PySem.W.mg_of X G a_fires_again, F.binds (ps := ["timer", "tick"]) fun _ _ _ _ _ _ us hl => match us, hl with | [_, _], _ => rfl⟩
  have D_divisor_and_factor : Df K mg "divisor_and_factor" s_divisor_and_factor ["number", "modulus"] := by
    have F := fun_mk (st := s_divisor_and_factor) l_divisor_and_factor c_divisor_and_factor k_divisor_and_factor
    exact ⟨_, _, F, PySem.W.mg_of X G a_divisor_and_factor, F.binds (ps := ["number", "modulus"]) fun _ _ _ _ _ _ us hl => match us, hl with | [_, _], _ => rfl⟩
  have D_meetings : Df K mg "meetings" s_meetings ["one", "other"] := by
    have F := fun_mk (st := s_meetings) l_meetings c_meetings k_meetings
    exact ⟨_, _, F, PySem.W.mg_of X G a_meetings, F.binds (ps := ["one", "other"]) fun _ _ _ _ _ _ us hl => match us, hl with | [_, _], _ => rfl⟩
  have D_is_ahead : Df K mg "is_ahead" s_is_ahead ["base", "levels", "one", "other", "tick"] := by
    have F := fun_mk (st := s_is_ahead) l_is_ahead c_is_ahead k_is_ahead
    exact ⟨_, _, F, PySem.W.mg_of X G a_is_ahead, F.binds (ps := ["base", "levels", "one", "other", "tick"]) fun _ _ _ _ _ _ us hl => match us, hl with | [_, _, _, _, _], _ => rfl⟩
  have D_order_at : Df K mg "order_at" s_order_at ["base", "levels", "some", "tick"] := by
    have F := fun_mk (st := s_order_at) l_order_at c_order_at k_order_at
    exact ⟨_, _, F, PySem.W.mg_of X G a_order_at, F.binds (ps := ["base", "levels", "some", "tick"]) fun _ _ _ _ _ _ us hl => match us, hl with | [_, _, _, _], _ => rfl⟩
  have D_times_first : Df K mg "times_first" s_times_first ["base", "levels", "one", "other", "first", "behind"] := by
    have F := fun_mk (st := s_times_first) l_times_first c_times_first k_times_first
    exact ⟨_, _, F, PySem.W.mg_of X G a_times_first, F.binds (ps := ["base", "levels", "one", "other", "first", "behind"]) fun _ _ _ _ _ _ us hl => match us, hl with | [_, _, _, _, _, _], _ => rfl⟩
  have D_without_repeats : Df K mg "without_repeats" s_without_repeats ["levels"] := by
    have F := fun_mk (st := s_without_repeats) l_without_repeats c_without_repeats k_without_repeats
    exact ⟨_, _, F, PySem.W.mg_of X G a_without_repeats, F.binds (ps := ["levels"]) fun _ _ _ _ _ _ us hl => match us, hl with | [_], _ => rfl⟩
  have D_check_period : Df K mg "check_period" s_check_period ["period"] := by
    have F := fun_mk (st := s_check_period) l_check_period c_check_period k_check_period
    exact ⟨_, _, F, PySem.W.mg_of X G a_check_period, F.binds (ps := ["period"]) fun _ _ _ _ _ _ us hl => match us, hl with | [_], _ => rfl⟩
  have D_order_of_firing : Df K mg "order_of_firing" s_order_of_firing ["base", "levels", "live", "tick"] := by
    have F := fun_mk (st := s_order_of_firing) l_order_of_firing c_order_of_firing k_order_of_firing
    exact ⟨_, _, F, PySem.W.mg_of X G a_order_of_firing, F.binds (ps := ["base", "levels", "live", "tick"]) fun _ _ _ _ _ _ us hl => match us, hl with | [_, _, _, _], _ => rfl⟩
  have D_standing : Df K mg "standing" s_standing ["base", "levels", "live", "tick"] := by
    have F := fun_mk (st := s_standing) l_standing c_standing k_standing
    exact ⟨_, _, F, PySem.W.mg_of X G a_standing, F.binds (ps := ["base", "levels", "live", "tick"]) fun _ _ _ _ _ _ us hl => match us, hl with | [_, _, _, _], _ => rfl⟩
  have D_least_due : Df K mg "least_due" s_least_due ["live"] := by
    have F := fun_mk (st := s_least_due) l_least_due c_least_due k_least_due
    exact ⟨_, _, F, PySem.W.mg_of X G a_least_due, F.binds (ps := ["live"]) fun _ _ _ _ _ _ us hl => match us, hl with | [_], _ => rfl⟩
  have D_after_firing : Df K mg "after_firing" s_after_firing ["live", "numbers", "tick"] := by
    have F := fun_mk (st := s_after_firing) l_after_firing c_after_firing k_after_firing
    exact ⟨_, _, F, PySem.W.mg_of X G a_after_firing, F.binds (ps := ["live", "numbers", "tick"]) fun _ _ _ _ _ _ us hl => match us, hl with | [_, _, _], _ => rfl⟩
  have D_law_cell_at : Df K mg "_law_cell_at" s__law_cell_at ["_law_script", "_law_k"] := by
    have F := fun_mk (st := s__law_cell_at) l_law_cell_at c_law_cell_at k_law_cell_at
    exact ⟨_, _, F, PySem.W.mg_of X G a_law_cell_at, F.binds (ps := ["_law_script", "_law_k"]) fun _ _ _ _ _ _ us hl => match us, hl with | [_, _], _ => rfl⟩
  have D_law_mixed : Df K mg "_law_mixed" s__law_mixed ["_law_cell", "_law_k"] := by
    have F := fun_mk (st := s__law_mixed) l_law_mixed c_law_mixed k_law_mixed
    exact ⟨_, _, F, PySem.W.mg_of X G a_law_mixed, F.binds (ps := ["_law_cell", "_law_k"]) fun _ _ _ _ _ _ us hl => match us, hl with | [_, _], _ => rfl⟩
  have D_law_source : Df K mg "_law_source" s__law_source ["_law_script", "_law_k"] := by
    have F := fun_mk (st := s__law_source) l_law_source c_law_source k_law_source
    exact ⟨_, _, F, PySem.W.mg_of X G a_law_source, F.binds (ps := ["_law_script", "_law_k"]) fun _ _ _ _ _ _ us hl => match us, hl with | [_, _], _ => rfl⟩
  have D_law_next : Df K mg "_law_next" s__law_next ["_law_source_here", "_law_many"] := by
    have F := fun_mk (st := s__law_next) l_law_next c_law_next k_law_next
    exact ⟨_, _, F, PySem.W.mg_of X G a_law_next, F.binds (ps := ["_law_source_here", "_law_many"]) fun _ _ _ _ _ _ us hl => match us, hl with | [_, _], _ => rfl⟩
  have D_law_base : Df K mg "_law_base" s__law_base ["_law_source_here"] := by
    have F := fun_mk (st := s__law_base) l_law_base c_law_base k_law_base
    exact ⟨_, _, F, PySem.W.mg_of X G a_law_base, F.binds (ps := ["_law_source_here"]) fun _ _ _ _ _ _ us hl => match us, hl with | [_], _ => rfl⟩
  have D_law_levels : Df K mg "_law_levels" s__law_levels ["_law_source_here"] := by
    have F := fun_mk (st := s__law_levels) l_law_levels c_law_levels k_law_levels
    exact ⟨_, _, F, PySem.W.mg_of X G a_law_levels, F.binds (ps := ["_law_source_here"]) fun _ _ _ _ _ _ us hl => match us, hl with | [_], _ => rfl⟩
  have D_law_tick : Df K mg "_law_tick" s__law_tick ["_law_source_here", "_law_base_here"] := by
    have F := fun_mk (st := s__law_tick) l_law_tick c_law_tick k_law_tick
    exact ⟨_, _, F, PySem.W.mg_of X G a_law_tick, F.binds (ps := ["_law_source_here", "_law_base_here"]) fun _ _ _ _ _ _ us hl => match us, hl with | [_, _], _ => rfl⟩
  have D_law_pairs : Df K mg "_law_pairs" s__law_pairs ["_law_source_here", "_law_base_here", "_law_begin", "_law_many"] := by
    have F := fun_mk (st := s__law_pairs) l_law_pairs c_law_pairs k_law_pairs
    exact ⟨_, _, F, PySem.W.mg_of X G a_law_pairs, F.binds (ps := ["_law_source_here", "_law_base_here", "_law_begin", "_law_many"]) fun _ _ _ _ _ _ us hl => match us, hl with | [_, _, _, _], _ => rfl⟩
  have D_law_led : Df K mg "_law_led" s__law_led ["_law_source_here", "_law_wheel", "_law_pairs_here", "_law_begin"] := by
    have F := fun_mk (st := s__law_led) l_law_led c_law_led k_law_led
    exact ⟨_, _, F, PySem.W.mg_of X G a_law_led, F.binds (ps := ["_law_source_here", "_law_wheel", "_law_pairs_here", "_law_begin"]) fun _ _ _ _ _ _ us hl => match us, hl with | [_, _, _, _], _ => rfl⟩
  have D_law_order : Df K mg "_law_order" s__law_order ["_law_base_here", "_law_levels_here", "_law_pairs_here", "_law_moment"] := by
    have F := fun_mk (st := s__law_order) l_law_order c_law_order k_law_order
    exact ⟨_, _, F, PySem.W.mg_of X G a_law_order, F.binds (ps := ["_law_base_here", "_law_levels_here", "_law_pairs_here", "_law_moment"]) fun _ _ _ _ _ _ us hl => match us, hl with | [_, _, _, _], _ => rfl⟩
  have D_law_orders_right : Df K mg "_law_orders_right" s__law_orders_right ["_law_base_here", "_law_levels_here", "_law_pairs_here", "_law_rows"] := by
    have F := fun_mk (st := s__law_orders_right) l_law_orders_right c_law_orders_right k_law_orders_right
    exact ⟨_, _, F, PySem.W.mg_of X G a_law_orders_right, F.binds (ps := ["_law_base_here", "_law_levels_here", "_law_pairs_here", "_law_rows"]) fun _ _ _ _ _ _ us hl => match us, hl with | [_, _, _, _], _ => rfl⟩
  have D_law_ahead : Df K mg "_law_ahead" s__law_ahead ["_law_pairs_here", "_law_rows", "_law_j", "_law_k"] := by
    have F := fun_mk (st := s__law_ahead) l_law_ahead c_law_ahead k_law_ahead
    exact ⟨_, _, F, PySem.W.mg_of X G a_law_ahead, F.binds (ps := ["_law_pairs_here", "_law_rows", "_law_j", "_law_k"]) fun _ _ _ _ _ _ us hl => match us, hl with | [_, _, _, _], _ => rfl⟩
  have D_law_counts_right : Df K mg "_law_counts_right" s__law_counts_right ["_law_base_here", "_law_levels_here", "_law_pairs_here", "_law_rows", "_law_begin", "_law_end"] := by
    have F := fun_mk (st := s__law_counts_right) l_law_counts_right c_law_counts_right k_law_counts_right
    exact ⟨_, _, F, PySem.W.mg_of X G a_law_counts_right, F.binds (ps := ["_law_base_here", "_law_levels_here", "_law_pairs_here", "_law_rows", "_law_begin", "_law_end"]) fun _ _ _ _ _ _ us hl => match us, hl with | [_, _, _, _, _, _], _ => rfl⟩
  have D_law : Df K mg "law" s_law ["_law_script"] := by
    have F := fun_mk (st := s_law) l_law c_law k_law
    exact ⟨_, _, F, PySem.W.mg_of X G a_law, F.binds (ps := ["_law_script"]) fun _ _ _ _ _ _ us hl => match us, hl with | [_], _ => rfl⟩
  have TW : TxW K mg C_ := ⟨⟨pg, hd, po, sa⟩, n_base, n_words, n_tick, n_following, n_live, PySem.W.mg_of X G a_Wheel⟩
  have F_m_init : FunD K "__init__" "Wheel.__init__" (defArgs s_Wheel___init__) (defBody s_Wheel___init__) (defScope s_Wheel___init__) [] [("start", .int 0)] _ _ := ⟨⟨_, _, _, _, _, _, _, _, _, _, rfl, l_m_init, c_m_init, .inl ⟨rfl, rfl⟩, .inr ⟨_, rfl, fun q hq => by rw [List.mem_singleton.mp hq]; exact ⟨_, d_m_init, ⟨_, rfl⟩⟩⟩⟩, k_m_init⟩
  obtain ⟨ds_m_init, V_m_init, B_m_init⟩ := FunD.binds0 (ps := ["self", "base", "levels", "start"]) F_m_init 3 (by simp) rfl fun _ _ _ _ _ _ us ks hl hk => match us, ks, hl, hk with | [_, _, _], [_], _, _ => ⟨_, _, _, _, _, _, rfl, rfl, rfl⟩
  have F_m_put : FunD K "put" "Wheel.put" (defArgs s_Wheel_put) (defBody s_Wheel_put) (defScope s_Wheel_put) [] [("period", .non)] _ _ := ⟨⟨_, _, _, _, _, _, _, _, _, _, rfl, l_m_put, c_m_put, .inl ⟨rfl, rfl⟩, .inr ⟨_, rfl, fun q hq => by rw [List.mem_singleton.mp hq]; exact ⟨_, d_m_put, rfl⟩⟩⟩, k_m_put⟩
  obtain ⟨ds_m_put, V_m_put, B_m_put⟩ := FunD.binds0 (ps := ["self", "due", "period"]) F_m_put 2 (by simp) rfl fun _ _ _ _ _ _ us ks hl hk => match us, ks, hl, hk with | [_, _], [_], _, _ => ⟨_, _, _, _, _, _, rfl, rfl, rfl⟩
  have F_m_advance := fun_mk (st := s_Wheel_advance) l_m_advance c_m_advance k_m_advance
  have B_m_advance := F_m_advance.binds (ps := ["self", "tick"]) fun _ _ _ _ _ _ us hl => match us, hl with | [_, _], _ => rfl
  have X_NoTick : EC K mg "NoTick" c_NoTick := ⟨PySem.W.mg_of X G a_NoTick, x_NoTick, kp_NoTick, bx_NoTick, tx_NoTick⟩
  have EX_NoTick : ExcC K c_NoTick := ⟨ga_NoTick, gg_NoTick, bx_NoTick, hx_NoTick, cc_NoTick, sp_get, tk_cls, mo_NoTick⟩
  refine ⟨PySem.W.fnOf "law" "law" (defArgs s_law) (defBody s_law) (defScope s_law) .none kV_law dc_law pm_law an_law cd_law ct_law, fun s v => .of_eq rfl, fun base _ _ => ?_⟩
  have h_is_integer : Has l.prog w K mg base 1 "is_integer" ["given"] [] spIsInt := D_is_integer.has fun _ _ F => ok_is_integer F T
  have h2_is_tick : Has l.prog w K mg base 2 "is_tick" ["given", "least"] [.int 0] spIsTick ∧ Has l.prog w K mg base 2 "is_tick" ["given", "least"] [] spIsTick := D_is_tick.has fun _ _ F => ok_is_tick F T h_is_integer
  have h_is_base : Has l.prog w K mg base 2 "is_base" ["given"] [] spIsBase := D_is_base.has fun _ _ F => ok_is_base F h_is_integer
  have h_check_base : Has l.prog w K mg base 3 "check_base" ["base"] [] spCheckBase := D_check_base.has fun _ _ F => ok_check_base F h_is_base
  have h2_check_tick : Has l.prog w K mg base 3 "check_tick" ["tick", "least"] [.int 0] spCheckTick ∧ Has l.prog w K mg base 3 "check_tick" ["tick", "least"] [] spCheckTick := D_check_tick.has fun _ _ F => ok_check_tick F h2_is_tick.2
  have h_level_and_size : Has l.prog w K mg base 1 "level_and_size" ["base", "now", "due"] [] spLevel := D_level_and_size.has fun _ _ F => ok_level_and_size F 
  have h_path : Has l.prog w K mg base 2 "path" ["base", "now", "due"] [] spPath := D_path.has fun _ _ F => ok_path F h_level_and_size
  have h_word_at : Has l.prog w K mg base 1 "word_at" ["levels", "level"] [] (spWordAt K) := D_word_at.has fun _ _ F => ok_word_at F T
  have h_is_word : Has l.prog w K mg base 1 "is_word" ["given"] [] spIsWord := D_is_word.has fun _ _ F => ok_is_word F T h_WORDS
  have h_is_length : Has l.prog w K mg base 2 "is_length" ["given"] [] spIsLength := D_is_length.has fun _ _ F => ok_is_length F ⟨_, h_MOST_LEVELS⟩ h_is_integer
  have h_are_levels : Has l.prog w K mg base 3 "are_levels" ["given"] [] (spAreLevels K) := D_are_levels.has fun _ _ F => ok_are_levels F T h_is_length h_is_word
  have h_check_levels : Has l.prog w K mg base 4 "check_levels" ["levels"] [] (spCheckLevels K) := D_check_levels.has fun _ _ F => ok_check_levels F h_are_levels
  have h_goes_in_front : Has l.prog w K mg base 3 "goes_in_front" ["base", "levels", "now", "due", "lowest"] [] (spFront K) := D_goes_in_front.has fun _ _ F => ok_goes_in_front F h_path h_word_at
  have h_without_repeats : Has l.prog w K mg base 1 "without_repeats" ["levels"] [] (spRepeats K) := D_without_repeats.has fun _ _ F => ok_repeats F T
  have h_is_period : Has l.prog w K mg base 2 "is_period" ["given"] [] spIsPeriod := D_is_period.has fun _ _ F => ok_is_period F h_is_integer
  have h_check_period : Has l.prog w K mg base 3 "check_period" ["period"] [] spCheckPeriod := D_check_period.has fun _ _ F => ok_check_period F h_is_period
  have h_with_timer : Has l.prog w K mg base 1 "with_timer" ["numbers", "number", "front"] [] spWithTimer := D_with_timer.has fun _ _ F => ok_with_timer F 
  have h_firing_order : Has l.prog w K mg base 4 "firing_order" ["base", "levels", "due", "settings"] [] (spFiringOrder K) := D_firing_order.has fun _ _ F => ok_firing_order F h_with_timer h_goes_in_front
  have h_order_of_firing : Has l.prog w K mg base 5 "order_of_firing" ["base", "levels", "live", "tick"] [] (spOrder K) := D_order_of_firing.has fun _ _ F => ok_order F h_firing_order
  have h_least_due : Has l.prog w K mg base 1 "least_due" ["live"] [] spLeast := D_least_due.has fun _ _ F => ok_least_due F T
  have h_after_firing : Has l.prog w K mg base 1 "after_firing" ["live", "numbers", "tick"] [] spAfter := D_after_firing.has fun _ _ F => ok_after F T
  have h_is_period : Has l.prog w K mg base 2 "is_period" ["given"] [] spIsPeriod := D_is_period.has fun _ _ F => ok_is_period F h_is_integer
  have h_is_periodic : Has l.prog w K mg base 3 "is_periodic" ["given"] [] spPeriodic := D_is_periodic.has fun _ _ F => ok_is_periodic F T h2_is_tick.1 h_is_period
  have h_check_periodic : Has l.prog w K mg base 4 "check_periodic" ["given"] [] spCheckPeriodic := D_check_periodic.has fun _ _ F => ok_check_periodic F h_is_periodic
  have h_check_two : Has l.prog w K mg base 5 "check_two" ["one", "other"] [] spCheckTwo := D_check_two.has fun _ _ F => ok_check_two F h_check_periodic
  have h_is_ahead : Has l.prog w K mg base 4 "is_ahead" ["base", "levels", "one", "other", "tick"] [] (spAhead K) := D_is_ahead.has fun _ _ F => ok_is_ahead F h_goes_in_front
  have h_fires_again : Has l.prog w K mg base 1 "fires_again" ["timer", "tick"] [] spFires := D_fires_again.has fun _ _ F => ok_fires_again F 
  have h_divisor_and_factor : Has l.prog w K mg base 1 "divisor_and_factor" ["number", "modulus"] [] spDivFac := D_divisor_and_factor.has fun _ _ F => ok_divisor_and_factor F 
  have h_meetings : Has l.prog w K mg base 2 "meetings" ["one", "other"] [] spMeet := D_meetings.has fun _ _ F => ok_meetings F T h_divisor_and_factor
  have h_times_first : Has l.prog w K mg base 6 "times_first" ["base", "levels", "one", "other", "first", "behind"] [] (spTimes K) := D_times_first.has fun _ _ F => ok_times_first F T ⟨_, h_MOST_MEETINGS⟩ h_check_base h_check_levels h2_check_tick.1 h2_check_tick.2 h_check_two h_meetings h_is_ahead
  have h_check_several : Has l.prog w K mg base 5 "check_several" ["some"] [] (spSeveral K) := D_check_several.has fun _ _ F => ok_check_several F T h_check_periodic
  have hX_order_at := D_order_at.hasX (P := l.prog) (w := w) (base := base) (k := 6) (sp := spOrderAtX K c_NoTick) fun _ _ F => okX_order_at F T X_NoTick h_check_base h_check_levels h2_check_tick.1 h_check_several h_fires_again h_firing_order
  have te_NoTick := PySem.W.exm_ref bx_NoTick hx_NoTick tx_NoTick ss_NoTick
  have M_init : ∃ (fi : Addr) (fdi : FuncData), Mk K C_ fi ∧ FnOk l.prog w K mg base CX0 5 fi fdi ["self", "base", "levels", "start"] (spInit C_ K) ∧ KBn K fdi ["self", "base", "levels", "start"] 3 [Str.ofString "start"] (fun us ws => us ++ ws) (fun vs zs => vs ++ zs) := by
    obtain ⟨mv, hb⟩ := FunD.kbinds0 (ps := ["self", "base", "levels", "start"]) F_m_init 3 [Str.ofString "start"] [] (fun us _ ws => us ++ ws) (by simp) (fun q hq => by cases hq) (fun h1 _ h3 => h1.append h3) fun _ _ _ _ _ _ us mv ws h1 h2 h3 => match us, mv, ws, h1, h2, h3 with | [_, _, _], [], [_], _, _, _ => rfl
    exact ⟨_, _, ⟨mkC, a_m_init, i_m_init, kc⟩, ok_init F_m_init TW h_check_base h2_check_tick.1 h_check_levels h_without_repeats, hb⟩
  obtain ⟨mv_put, hb_put⟩ := FunD.kbinds0 (ps := ["self", "due", "period"]) F_m_put 2 [Str.ofString "period"] [] (fun us _ ws => us ++ ws) (by simp) (fun q hq => by cases hq) (fun h1 _ h3 => h1.append h3) fun _ _ _ _ _ _ us mv ws h1 h2 h3 => match us, mv, ws, h1, h2, h3 with | [_, _], [], [_], _, _, _ => rfl
  have MK_put : HasPut l.prog w K mg base 4 C_ := ⟨_, _, ds_m_put, ok_put F_m_put TW h2_check_tick.2 h_check_period, ⟨a_m_put, i_m_put, k_m_put⟩, B_m_put, V_m_put, hb_put⟩
  have M_advance : HasM l.prog w K mg base 6 C_ "advance" ["self", "tick"] [] (spAdvance C_) := ⟨_, _, [], ok_advance F_m_advance T TW ⟨_, h_MOST_FIRINGS⟩ h2_check_tick.2 h_least_due h_order_of_firing h_after_firing, ⟨a_m_advance, i_m_advance, k_m_advance⟩, B_m_advance, .nil⟩
  have h_law_cell_at : Has l.prog w K mg base 1 "_law_cell_at" ["_law_script", "_law_k"] [] (spCellAt K) := D_law_cell_at.has fun _ _ F => ok_cell_at F T
  have h_law_mixed : Has l.prog w K mg base 1 "_law_mixed" ["_law_cell", "_law_k"] [] spMixed := D_law_mixed.has fun _ _ F => ok_mixed F 
  have h_law_source : Has l.prog w K mg base 2 "_law_source" ["_law_script", "_law_k"] [] (spSource K) := D_law_source.has fun _ _ F => ok_source F T h_law_cell_at h_law_mixed
  have h_law_next : Has l.prog w K mg base 2 "_law_next" ["_law_source_here", "_law_many"] [] spNext := D_law_next.has fun _ _ F => ok_next F h_law_mixed
  have h_law_base : Has l.prog w K mg base 3 "_law_base" ["_law_source_here"] [] spBase := D_law_base.has fun _ _ F => ok_base F h_law_next
  have h_law_tick : Has l.prog w K mg base 3 "_law_tick" ["_law_source_here", "_law_base_here"] [] spTick := D_law_tick.has fun _ _ F => ok_tick F T h_law_next
  have h_law_levels : Has l.prog w K mg base 3 "_law_levels" ["_law_source_here"] [] spLevels := D_law_levels.has fun _ _ F => ok_levels F T h_law_next
  have h_law_pairs : Has l.prog w K mg base 3 "_law_pairs" ["_law_source_here", "_law_base_here", "_law_begin", "_law_many"] [] spPairs32 := D_law_pairs.has fun _ _ F => ok_pairs32 F T h_law_next
  have h_law_led : Has l.prog w K mg base 5 "_law_led" ["_law_source_here", "_law_wheel", "_law_pairs_here", "_law_begin"] [] (spLed37 C_) := D_law_led.has fun _ _ F => ok_led37 F T TW MK_put h_law_next
  have h_law_order : Has l.prog w K mg base 7 "_law_order" ["_law_base_here", "_law_levels_here", "_law_pairs_here", "_law_moment"] [] (spOrder37 K) := D_law_order.has fun _ _ F => ok_order37 F ⟨X_NoTick.g⟩ te_NoTick hX_order_at
  have h_law_orders_right : Has l.prog w K mg base 8 "_law_orders_right" ["_law_base_here", "_law_levels_here", "_law_pairs_here", "_law_rows"] [] (spOrders37 K) := D_law_orders_right.has fun _ _ F => ok_orders37 F h_law_order
  have h_law_ahead : Has l.prog w K mg base 1 "_law_ahead" ["_law_pairs_here", "_law_rows", "_law_j", "_law_k"] [] spAhead37 := D_law_ahead.has fun _ _ F => ok_ahead37 F T
  have h_law_counts_right : Has l.prog w K mg base 7 "_law_counts_right" ["_law_base_here", "_law_levels_here", "_law_pairs_here", "_law_rows", "_law_begin", "_law_end"] [] (spCounts37 K) := D_law_counts_right.has fun _ _ F => ok_counts37 F T h_times_first h_law_ahead
  exact ok_law (fun_mk (st := s_law) l_law c_law k_law) T TW M_init h_law_source h_law_base h_law_levels h_law_tick h_law_next h_law_pairs h_law_led h_law_orders_right h_law_counts_right M_advance
end Td
open PySem PySem.W PyProof.Rows in
set_option maxRecDepth 100000 in
set_option maxHeartbeats 0 in
theorem PySem.Challenge.cw_timerdeque_k37_whole_many_timers_by_turn_holds : PySem.Challenge.rw_timerdeque_k37_whole_many_timers_by_turn.Holds := by
  w_on; o_law; k_head; (case hw => w_witness2)
  k_fill
  refine L2.walk_of (l := PySem.Challenge.rw_timerdeque_k37_whole_many_timers_by_turn) (n := 63) (k := 9) (x := "_law_script") (CX := fun _ => L2.CX0) (sp := fun w => Td.spLaw _) rfl (by decide) rfl ⟨rfl, by decide, by decide⟩ (fun w h Y => PySem.W.kIn_of Y) ?F (fun _ _ a ns hl _ hS => ⟨a, ns, rfl, hS, hl, fun _ => rfl⟩) (fun _ _ _ _ _ h => h)
  case F =>
    intro w mg fa h KX G hmg
    refine' Td.all_mk KX G hmg ?a_wall ?l_wall ?c_wall ?k_wall ?a_is_integer ?l_is_integer ?c_is_integer ?k_is_integer ?a_is_word ?l_is_word ?c_is_word ?k_is_word ?a_is_base ?l_is_base ?c_is_base ?k_is_base ?a_is_length ?l_is_length ?c_is_length ?k_is_length ?a_are_levels ?l_are_levels ?c_are_levels ?k_are_levels ?a_is_tick ?l_is_tick ?t_is_tick ?c_is_tick ?k_is_tick ?a_is_period ?l_is_period ?c_is_period ?k_is_period ?a_check_base ?l_check_base ?c_check_base ?k_check_base ?a_check_levels ?l_check_levels ?c_check_levels ?k_check_levels ?a_check_tick ?l_check_tick ?t_check_tick ?c_check_tick ?k_check_tick ?a_word_at ?l_word_at ?c_word_at ?k_word_at ?a_level_and_size ?l_level_and_size ?c_level_and_size ?k_level_and_size ?a_path ?l_path ?c_path ?k_path ?a_goes_in_front ?l_goes_in_front ?c_goes_in_front ?k_goes_in_front ?a_with_timer ?l_with_timer ?c_with_timer ?k_with_timer ?a_firing_order ?l_firing_order ?c_firing_order ?k_firing_order ?a_is_periodic ?l_is_periodic ?c_is_periodic ?k_is_periodic ?a_check_periodic ?l_check_periodic ?c_check_periodic ?k_check_periodic ?a_check_two ?l_check_two ?c_check_two ?k_check_two ?a_check_several ?l_check_several ?c_check_several ?k_check_several ?a_fires_again ?l_fires_again ?c_fires_again ?k_fires_again ?a_divisor_and_factor ?l_divisor_and_factor ?c_divisor_and_factor ?k_divisor_and_factor ?a_meetings ?l_meetings ?c_meetings ?k_meetings ?a_is_ahead ?l_is_ahead ?c_is_ahead ?k_is_ahead ?a_order_at ?l_order_at ?c_order_at ?k_order_at ?a_times_first ?l_times_first ?c_times_first ?k_times_first ?a_without_repeats ?l_without_repeats ?c_without_repeats ?k_without_repeats ?a_check_period ?l_check_period ?c_check_period ?k_check_period ?a_order_of_firing ?l_order_of_firing ?c_order_of_firing ?k_order_of_firing ?a_standing ?l_standing ?c_standing ?k_standing ?a_least_due ?l_least_due ?c_least_due ?k_least_due ?a_after_firing ?l_after_firing ?c_after_firing ?k_after_firing ?a_law_cell_at ?l_law_cell_at ?c_law_cell_at ?k_law_cell_at ?a_law_mixed ?l_law_mixed ?c_law_mixed ?k_law_mixed ?a_law_source ?l_law_source ?c_law_source ?k_law_source ?a_law_next ?l_law_next ?c_law_next ?k_law_next ?a_law_base ?l_law_base ?c_law_base ?k_law_base ?a_law_levels ?l_law_levels ?c_law_levels ?k_law_levels ?a_law_tick ?l_law_tick ?c_law_tick ?k_law_tick ?a_law_pairs ?l_law_pairs ?c_law_pairs ?k_law_pairs ?a_law_led ?l_law_led ?c_law_led ?k_law_led ?a_law_order ?l_law_order ?c_law_order ?k_law_order ?a_law_orders_right ?l_law_orders_right ?c_law_orders_right ?k_law_orders_right ?a_law_ahead ?l_law_ahead ?c_law_ahead ?k_law_ahead ?a_law_counts_right ?l_law_counts_right ?c_law_counts_right ?k_law_counts_right ?a_law ?l_law ?c_law ?k_law ?a_Wheel ?a_m_init ?i_m_init ?l_m_init ?c_m_init ?k_m_init ?d_m_init ?a_m_put ?i_m_put ?l_m_put ?c_m_put ?k_m_put ?d_m_put ?a_m_advance ?i_m_advance ?l_m_advance ?c_m_advance ?k_m_advance ?pg ?hd ?po ?sa ?mkC ?kc ?n_base ?n_words ?n_tick ?n_following ?n_live ?a_NoTick ?x_NoTick ?kp_NoTick ?bx_NoTick ?tx_NoTick ?ga_NoTick ?gg_NoTick ?hx_NoTick ?cc_NoTick ?mo_NoTick ?ss_NoTick ?sp_get ?tk_cls ?z_isinstance ?z_int ?z_bool ?z_str ?z_all ?z_list ?z_len ?z_min ?z_tuple ?z_set ?z_max ?z_enumerate ?z_sorted ?z_range ?z_dict ?a_WORDS ?l_WORDS ?a_MOST_LEVELS ?a_MOST_MEETINGS ?a_MOST_FIRINGS
    (case a_wall => k_is)
    (case l_wall => k_is)
    (case c_wall => k_is)
    (case k_wall => k_is)
    (case a_is_integer => k_is)
    (case l_is_integer => k_is)
    (case c_is_integer => k_is)
    (case k_is_integer => k_is)
    (case a_is_word => k_is)
    (case l_is_word => k_is)
    (case c_is_word => k_is)
    (case k_is_word => k_is)
    (case a_is_base => k_is)
    (case l_is_base => k_is)
    (case c_is_base => k_is)
    (case k_is_base => k_is)
    (case a_is_length => k_is)
    (case l_is_length => k_is)
    (case c_is_length => k_is)
    (case k_is_length => k_is)
    (case a_are_levels => k_is)
    (case l_are_levels => k_is)
    (case c_are_levels => k_is)
    (case k_are_levels => k_is)
    (case a_is_tick => k_is)
    (case l_is_tick => k_is)
    (case t_is_tick => k_is)
    (case c_is_tick => k_is)
    (case k_is_tick => k_is)
    (case a_is_period => k_is)
    (case l_is_period => k_is)
    (case c_is_period => k_is)
    (case k_is_period => k_is)
    (case a_check_base => k_is)
    (case l_check_base => k_is)
    (case c_check_base => k_is)
    (case k_check_base => k_is)
    (case a_check_levels => k_is)
    (case l_check_levels => k_is)
    (case c_check_levels => k_is)
    (case k_check_levels => k_is)
    (case a_check_tick => k_is)
    (case l_check_tick => k_is)
    (case t_check_tick => k_is)
    (case c_check_tick => k_is)
    (case k_check_tick => k_is)
    (case a_word_at => k_is)
    (case l_word_at => k_is)
    (case c_word_at => k_is)
    (case k_word_at => k_is)
    (case a_level_and_size => k_is)
    (case l_level_and_size => k_is)
    (case c_level_and_size => k_is)
    (case k_level_and_size => k_is)
    (case a_path => k_is)
    (case l_path => k_is)
    (case c_path => k_is)
    (case k_path => k_is)
    (case a_goes_in_front => k_is)
    (case l_goes_in_front => k_is)
    (case c_goes_in_front => k_is)
    (case k_goes_in_front => k_is)
    (case a_with_timer => k_is)
    (case l_with_timer => k_is)
    (case c_with_timer => k_is)
    (case k_with_timer => k_is)
    (case a_firing_order => k_is)
    (case l_firing_order => k_is)
    (case c_firing_order => k_is)
    (case k_firing_order => k_is)
    (case a_is_periodic => k_is)
    (case l_is_periodic => k_is)
    (case c_is_periodic => k_is)
    (case k_is_periodic => k_is)
    (case a_check_periodic => k_is)
    (case l_check_periodic => k_is)
    (case c_check_periodic => k_is)
    (case k_check_periodic => k_is)
    (case a_check_two => k_is)
    (case l_check_two => k_is)
    (case c_check_two => k_is)
    (case k_check_two => k_is)
    (case a_check_several => k_is)
    (case l_check_several => k_is)
    (case c_check_several => k_is)
    (case k_check_several => k_is)
    (case a_fires_again => k_is)
    (case l_fires_again => k_is)
    (case c_fires_again => k_is)
    (case k_fires_again => k_is)
    (case a_divisor_and_factor => k_is)
    (case l_divisor_and_factor => k_is)
    (case c_divisor_and_factor => k_is)
    (case k_divisor_and_factor => k_is)
    (case a_meetings => k_is)
    (case l_meetings => k_is)
    (case c_meetings => k_is)
    (case k_meetings => k_is)
    (case a_is_ahead => k_is)
    (case l_is_ahead => k_is)
    (case c_is_ahead => k_is)
    (case k_is_ahead => k_is)
    (case a_order_at => k_is)
    (case l_order_at => k_is)
    (case c_order_at => k_is)
    (case k_order_at => k_is)
    (case a_times_first => k_is)
    (case l_times_first => k_is)
    (case c_times_first => k_is)
    (case k_times_first => k_is)
    (case a_without_repeats => k_is)
    (case l_without_repeats => k_is)
    (case c_without_repeats => k_is)
    (case k_without_repeats => k_is)
    (case a_check_period => k_is)
    (case l_check_period => k_is)
    (case c_check_period => k_is)
    (case k_check_period => k_is)
    (case a_order_of_firing => k_is)
    (case l_order_of_firing => k_is)
    (case c_order_of_firing => k_is)
    (case k_order_of_firing => k_is)
    (case a_standing => k_is)
    (case l_standing => k_is)
    (case c_standing => k_is)
    (case k_standing => k_is)
    (case a_least_due => k_is)
    (case l_least_due => k_is)
    (case c_least_due => k_is)
    (case k_least_due => k_is)
    (case a_after_firing => k_is)
    (case l_after_firing => k_is)
    (case c_after_firing => k_is)
    (case k_after_firing => k_is)
    (case a_law_cell_at => k_is)
    (case l_law_cell_at => k_is)
    (case c_law_cell_at => k_is)
    (case k_law_cell_at => k_is)
    (case a_law_mixed => k_is)
    (case l_law_mixed => k_is)
    (case c_law_mixed => k_is)
    (case k_law_mixed => k_is)
    (case a_law_source => k_is)
    (case l_law_source => k_is)
    (case c_law_source => k_is)
    (case k_law_source => k_is)
    (case a_law_next => k_is)
    (case l_law_next => k_is)
    (case c_law_next => k_is)
    (case k_law_next => k_is)
    (case a_law_base => k_is)
    (case l_law_base => k_is)
    (case c_law_base => k_is)
    (case k_law_base => k_is)
    (case a_law_levels => k_is)
    (case l_law_levels => k_is)
    (case c_law_levels => k_is)
    (case k_law_levels => k_is)
    (case a_law_tick => k_is)
    (case l_law_tick => k_is)
    (case c_law_tick => k_is)
    (case k_law_tick => k_is)
    (case a_law_pairs => k_is)
    (case l_law_pairs => k_is)
    (case c_law_pairs => k_is)
    (case k_law_pairs => k_is)
    (case a_law_led => k_is)
    (case l_law_led => k_is)
    (case c_law_led => k_is)
    (case k_law_led => k_is)
    (case a_law_order => k_is)
    (case l_law_order => k_is)
    (case c_law_order => k_is)
    (case k_law_order => k_is)
    (case a_law_orders_right => k_is)
    (case l_law_orders_right => k_is)
    (case c_law_orders_right => k_is)
    (case k_law_orders_right => k_is)
    (case a_law_ahead => k_is)
    (case l_law_ahead => k_is)
    (case c_law_ahead => k_is)
    (case k_law_ahead => k_is)
    (case a_law_counts_right => k_is)
    (case l_law_counts_right => k_is)
    (case c_law_counts_right => k_is)
    (case k_law_counts_right => k_is)
    (case a_law => k_is)
    (case l_law => k_is)
    (case c_law => k_is)
    (case k_law => k_is)
    (case a_Wheel => k_is)
    (case a_m_init => k_is)
    (case i_m_init => k_is)
    (case l_m_init => k_is)
    (case c_m_init => k_is)
    (case k_m_init => k_is)
    (case d_m_init => k_is)
    (case a_m_put => k_is)
    (case i_m_put => k_is)
    (case l_m_put => k_is)
    (case c_m_put => k_is)
    (case k_m_put => k_is)
    (case d_m_put => k_is)
    (case a_m_advance => k_is)
    (case i_m_advance => k_is)
    (case l_m_advance => k_is)
    (case c_m_advance => k_is)
    (case k_m_advance => k_is)
    (case pg => k_is)
    (case hd => k_is)
    (case po => k_is)
    (case sa => k_is)
    (case mkC => k_is)
    (case kc => k_is)
    (case n_base => k_is)
    (case n_words => k_is)
    (case n_tick => k_is)
    (case n_following => k_is)
    (case n_live => k_is)
    (case a_NoTick => k_is)
    (case x_NoTick => k_exc)
    (case kp_NoTick => k_is)
    (case bx_NoTick => k_is)
    (case tx_NoTick => k_is)
    (case ga_NoTick => k_is)
    (case gg_NoTick => k_is)
    (case hx_NoTick => k_is)
    (case cc_NoTick => k_is)
    (case mo_NoTick => k_is)
    (case ss_NoTick => k_is)
    (case sp_get => k_is)
    (case tk_cls => k_is)
    (case z_isinstance => k_is)
    (case z_int => k_is)
    (case z_bool => k_is)
    (case z_str => k_is)
    (case z_all => k_is)
    (case z_list => k_is)
    (case z_len => k_is)
    (case z_min => k_is)
    (case z_tuple => k_is)
    (case z_set => k_is)
    (case z_max => k_is)
    (case z_enumerate => k_is)
    (case z_sorted => k_is)
    (case z_range => k_is)
    (case z_dict => k_is)
    (case a_WORDS => k_is)
    (case l_WORDS => k_is)
    (case a_MOST_LEVELS => k_is)
    (case a_MOST_MEETINGS => k_is)
    (case a_MOST_FIRINGS => k_is)
